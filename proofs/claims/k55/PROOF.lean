import PyProof.Rows.All
import Wide.All
import OpenK.AllK
import Wide.FinOn
import KE.KStateDown
import HandS.ForMost
import HandS.IsInst
import HandS.Conv
import HandS.Wide
import HandS.WideBits
import HandS.SortInts
import HandS.DictComp
import HandS.Zip
import HandS.Rev
import HandS.Flow
import HandS.Steps
import HandS.Defaults
import HandS.Head0
import HandS.Head1
import HandS.Head2
import HandS.HeadEnd
import HandS.HeadHook1
import HandS.HeadHook2
import HandS.ExcInit
import HandS.ClsMeth
import KE.KeyNested
import HandS.Dict
import HandS.ExcOwn
import HandS.Call
import HandS.Strs
import HandS.TupSets
import HandS.ExcValue
import KE.KDictSum
import HandS.Walk
import HandS.Text
import HandS.TupAny
import KE.DatumOrd
import HandS.SortKw
import HandS.DeepEq
import HandS.DictTup
import KE.SortData
import HandS.Deep
import HandS.AnyAll
import KE.KCallOwn
import HandS.More
import HandS.TupLe
import HandS.SetBool
import HandS.SetFor
import HandS.Exc
import HandS.WordsExc
import HandS.ExcIs
import HandS.ExcField
import HandS.CallSlots
import KE.KExcIs
import HandS.Lambda
import HandS.HeadHook4
import HandS.HeadWalk
import HandS.NestedK
import HandS.TupLen
import KE.GoesMore
import KE.GoesZip
import HandS.DictEq
import HandS.ListEq
import HandS.TupMul
import HandS.Style
import HandS.Codes
import KE.SortKeyHeap
import KE.KDictCopyH
import PyProof.DictMoreH
import HandS.MakeKwOnly
import PySem.Challenge.RW_fewasks_k55_pins_and_far_marks
set_option Elab.async false
set_option linter.all false
set_option maxRecDepth 100000
noncomputable section HS0
namespace SegH
open PySem PySem.W PySem.Calls PyProof.Rows HandSHeadRun
abbrev Stp : Type := SharedT → Thread → Option (SharedT × Thread)
/-- a run of statements, to its end -/
def sgo (st : Stp) (k : Nat) (an : Option Value) : Nat → SharedT → Thread → Option (Flow × SharedT × Code × Pos)
  | 0, _, _ => none
  | m + 1, x, th => match endAt 1 th with
    | some fl => some (fl, x, th.code, th.pos)
    | none => match stepOk k an th with
      | false => none
      | true => (match st x th with
        | none => none
        | some (x2, th2) => frS x2 fun x3 => sgo st k an m x3 th2)
/-- so many steps -/
def pgo (st : Stp) (k : Nat) (an : Option Value) : Nat → SharedT → Thread → Option (SharedT × Thread)
  | 0, x, th => some (x, th)
  | m + 1, x, th => match through th with
    | true => none
    | false => match stepOk k an th with
      | false => none
      | true => (match st x th with
        | none => none
        | some (x2, th2) => frS x2 fun x3 => pgo st k an m x3 th2)
theorem sgo_of {p : Program} {w : World} {k : Nat} {an : Option Value} : ∀ {m : Nat} {x : SharedT} {th : Thread} {r : Flow × SharedT × Code × Pos}, sgo (stepT (denote treeTable) p w) k an m x th = some r → segRunT treeTable p w k an 1 m x th = some r := by
  intro m
  induction m with
  | zero => intro x th r h; cases h
  | succ m ih =>
    intro x th r h
    unfold sgo at h
    unfold segRunT
    cases h1 : endAt 1 th with
    | some fl =>
      rw [h1] at h
      exact h
    | none =>
      rw [h1] at h
      cases h2 : stepOk k an th with
      | false =>
        rw [h2] at h
        cases h
      | true =>
        rw [h2] at h
        cases h3 : stepT (denote treeTable) p w x th with
        | none =>
          rw [h3] at h
          cases h
        | some y =>
          obtain ⟨x2, th2⟩ := y
          rw [h3] at h
          simp only [frS_eq] at h
          exact ih h
theorem pgo_of {p : Program} {w : World} {k : Nat} {an : Option Value} : ∀ {m : Nat} {x x' : SharedT} {th th' : Thread}, pgo (stepT (denote treeTable) p w) k an m x th = some (x', th') → topGo treeTable p w k an m x.abs th = some (x'.abs, th') := by
  intro m
  induction m with
  | zero =>
    intro x x' th th' h
    cases h
    rfl
  | succ m ih =>
    intro x x' th th' h
    unfold pgo at h
    unfold topGo
    cases h1 : through th with
    | true =>
      rw [h1] at h
      cases h
    | false =>
      rw [h1] at h
      cases h2 : stepOk k an th with
      | false =>
        rw [h2] at h
        cases h
      | true =>
        rw [h2] at h
        cases h3 : stepT (denote treeTable) p w x th with
        | none =>
          rw [h3] at h
          cases h
        | some y =>
          obtain ⟨x2, th2⟩ := y
          rw [h3] at h
          simp only [frS_eq] at h
          have g := stepT_spec h3
          show (match step (denote treeTable) p w x.abs th with
            | .go s' t' => topGo treeTable p w k an m s' t'
            | .halt _ _ => none) = _
          rw [g]
          exact ih h
/-- the runs by the library's twins -/
theorem sgoQ {p : Program} {w : World} {k : Nat} {an : Option Value} {m : Nat} {x : SharedT} {th : Thread} {r : Flow × SharedT × Code × Pos} (h : sgo (stepQ (denQ tabQ) p w) k an m x th = some r) : segRun treeTable p w k an 1 m x.abs th = some (r.1, r.2.1.abs, r.2.2.1, r.2.2.2) := by
  rw [← stepQ_eq, ← denQ_eq, ← tabQ_eq] at h
  obtain ⟨f, s, c, q⟩ := r
  exact segRun_of (sgo_of h)
theorem pgoQ {p : Program} {w : World} {k : Nat} {an : Option Value} {m : Nat} {x x' : SharedT} {th th' : Thread} (h : pgo (stepQ (denQ tabQ) p w) k an m x th = some (x', th')) : topGo treeTable p w k an m x.abs th = some (x'.abs, th') := by
  rw [← stepQ_eq, ← denQ_eq, ← tabQ_eq] at h
  exact pgo_of h
theorem goQ {p : Program} {w : World} {k : Nat} {an : Option Value} {m : Nat} {x x' : SharedT} {th : Thread} (h : goF (stepQ (denQ tabQ) p w) k an m x th = some x') : topRun treeTable p w k an m x.abs th = some x'.abs := by
  rw [← stepQ_eq, ← denQ_eq, ← tabQ_eq] at h
  exact goF_ok h
def exQ : List Stmt → Env → Sem Flow := PySem.W.Fast.tw12563942051412417395
theorem exQ_eq : @PySem.execs = exQ := PySem.W.Fast.te12563942051412417395
def lvQ : Env → Value → Sem Unit := PySem.W.Fast.tw9442747609961115081
theorem lvQ_eq : @PySem.leaving = lvQ := PySem.W.Fast.te9442747609961115081
def bsQ : List Stmt → Env → Sem Unit := PySem.W.Fast.tw1066825118222455980
theorem bsQ_eq : @PySem.blockStart = bsQ := PySem.W.Fast.te1066825118222455980
abbrev topB (q : Pos) : List Frame := [topFrame q]
/-- threads at a statement's end, by the twins -/
def thP (l : List Stmt) (ev : Env) (c : Code) (a q : Pos) : Thread := ⟨(exQ l ev).wrap doneF deadEnd id id, c, a, topB q⟩
def thB (l : List Stmt) (ev : Env) (c : Code) (a q : Pos) : Thread := ⟨(bsQ l ev).wrap (fun _ => doneF .next) deadEnd id id, c, a, topB q⟩
def thR (l : List Stmt) (ev : Env) (c : Code) (a q : Pos) : Thread := ⟨(exQ l ev).wrap doneF (fun e => ((lvQ ev e).bind fun _ => (.raise e : Sem Flow)).wrap doneF .raise id id) id id, c, a, topB q⟩
theorem thP_eq (l : List Stmt) (ev : Env) (c : Code) (a q : Pos) : thP l ev c a q = piecesOf l ev c a (topB q) := by
  unfold thP
  rw [← exQ_eq]
theorem thB_eq (l : List Stmt) (ev : Env) (c : Code) (a q : Pos) : thB l ev c a q = blockOf l ev c a (topB q) := by
  unfold thB
  rw [← bsQ_eq]
theorem thR_eq (l : List Stmt) (ev : Env) (c : Code) (a q : Pos) : thR l ev c a q = restOf l ev c a (topB q) := by
  unfold thR
  rw [← exQ_eq, ← lvQ_eq]
  rfl
section
variable {p : Program} {w : World} {k : Nat} {an : Option Value} {ev : Env} {c : Code} {q : Pos} {l : List Stmt} {r : Shared}
/-- one run of statements, then the rest -/
theorem one_run {m M j : Nat} {x x2 : SharedT} {a a2 : Pos} (h : sgo (stepQ (denQ tabQ) p w) k an m x (thP (l.take j) ev c a q) = some (.next, x2, c, a2))
    (rest : topRun treeTable p w k an M x2.abs (thR (l.drop j) ev c a2 q) = some r) : topRun treeTable p w k an (m + M) x.abs (thR l ev c a q) = some r := by
  have h2 := sgoQ h
  rw [thP_eq] at h2
  rw [thR_eq] at rest ⊢
  have z := piece_app h2 rest
  rwa [List.take_append_drop] at z
/-- from the stub to the first statement -/
theorem first_run {m M : Nat} {x x2 : SharedT} {a a2 : Pos} (h : pgo (stepQ (denQ tabQ) p w) k an m x (topStub p) = some (x2, ⟨denQ tabQ (.body l ev), c, a, topB q⟩))
    (b : sgo (stepQ (denQ tabQ) p w) k an 1 x2 (thB l ev c a q) = some (.next, x2, c, a2))
    (rest : topRun treeTable p w k an M x2.abs (thR l ev c a2 q) = some r) : topRun treeTable p w k an (m + (1 + M)) x.abs (topStub p) = some r := by
  have h2 := pgoQ h
  have b2 := sgoQ b
  rw [thB_eq] at b2
  rw [thR_eq] at rest
  rw [← denQ_eq, ← tabQ_eq] at h2
  exact go_top h2 (piece_block b2 rest)
end
/-- the boot's heap as a tree -/
def tree0 (P : Params) : PySem.W.BT × Nat := match putAll (boot_heap P).objs.toList .nil 0 with
  | some z => z
  | none => (.nil, 0)
def insL : PySem.W.BT → List (Nat × Obj) → PySem.W.BT
  | t, [] => t
  | t, (a, o) :: l => insL (t.ins a o) l
def st0 (w : World) (os : OsState) : SharedT := ⟨(tree0 w.params).1, (tree0 w.params).2, (boot_heap w.params).life, #[], boot_drawn, boot_toks, os⟩
theorem st0_abs (h : ∀ P : Params, (putAll (boot_heap P).objs.toList .nil 0).isSome = true) (w : World) (os : OsState) : (st0 w os).abs = ⟨boot_heap w.params, Array.mk [], boot_drawn, boot_toks, os⟩ := by
  have g : absHeap (tree0 w.params).1 (tree0 w.params).2 (boot_heap w.params).life = boot_heap w.params := by
    unfold tree0
    cases e : putAll (boot_heap w.params).objs.toList .nil 0 with
    | none =>
      have := h w.params
      rw [e] at this
      cases this
    | some z =>
      obtain ⟨t, n⟩ := z
      exact putAll_heap e
  show (⟨absHeap (tree0 w.params).1 (tree0 w.params).2 (boot_heap w.params).life, #[], boot_drawn, boot_toks, os⟩ : Shared) = _
  rw [g]
theorem boot_tree (P : Params) : (putAll (boot_heap P).objs.toList .nil 0).isSome = true := by kernel_rfl
theorem left_segs {p q : Program} {loose : List Str} {Xt : Shared → Bool} {α : Type} {Yf : Shared → α} {Ya : World → α} {N M k : Nat} {an : Option Value}
    (e : opening p = plainProg p.main.scope.names) (hN : Nat.ble 600 N = true) (f : ∀ s, fenceModules? p s = some s) (le : Nat.ble M N = true)
    (hk : ∀ w : World, (boot_heap w.params).objs.size = k) (ha : ∀ w : World, (boot_heap w.params).nsMap mainGlobals "__annotations__" = an)
    (run : ∀ (w : World) (os : OsState), ∃ s : SharedT, topRun treeTable p w k an M (st0 w os).abs (topStub p) = some s.abs ∧
      (looksF p (boot_heap w.params) s.abs, seenQ q loose (importedModules p.main.body) Xt s.abs, Yf s.abs) = (true, openGood q loose, Ya w)) :
    LeftO p q loose Xt Yf Ya N true := by
  intro w
  obtain ⟨⟨h, g, d, t, os⟩, x1, x2⟩ := Option.map_eq_some_iff.mp (boot_open e hN f w)
  injection x2 with y1 x2
  injection x2 with y2 x2
  injection x2 with y3 y4
  obtain ⟨s, z1, z2⟩ := run w os
  injection z2 with v1 z2
  injection z2 with v2 v3
  rw [← seenQ_eq] at v2
  rw [st0_abs boot_tree] at z1
  have z3 := topRun_mono (N - M) _ _ _ _ z1
  rw [Nat.add_sub_cancel' (Nat.le_of_ble_eq_true le)] at z3
  have v4 : (staticsOk (importedModules p.main.body) (boot_heap w.params) s.abs.heap && namesBound p s.abs.heap && gensDone s.abs && laidKept (boot_heap w.params) s.abs.heap) = true := v1
  have ends : openEnds treeTable p w N = some s.abs := by
    unfold openEnds
    rw [x1]
    show topFrom treeTable p w N ⟨h, g, d, t, os⟩ = _
    have y1 : h = boot_heap w.params := y1
    have y2 : g = Array.mk [] := y2
    have y3 : d = boot_drawn := y3
    have y4 : t = boot_toks := y4
    subst y1 y2 y3 y4
    unfold topFrom
    simp only []
    rw [show ((boot_heap w.params).isNs mainGlobals && (Array.mk ([] : List GenState)).size == 0) = true by rw [boot_ns]; rfl, hk, ha, z3]
    simp only [Option.bind_some]
    rw [v4]
  rw [ends]
  exact congrArg some (Prod.ext v2 v3)
/-- the law's row, the top having been run -/
theorem head_segs {r : OpenRow} {q : Program} {H : Hook} {loose : List PySem.Str} {d : DefRec} {kwd : List (PySem.Str × PySem.Expr)} {M k : Nat} {an : Option Value}
    (e : opening r.prog = plainProg r.prog.main.scope.names) (f : ∀ s, fenceModules? r.prog s = some s)
    (hk : ∀ w : World, (boot_heap w.params).objs.size = k) (ha : ∀ w : World, (boot_heap w.params).nsMap mainGlobals "__annotations__" = an)
    (run : ∀ (w : World) (os : OsState), ∃ s : SharedT, topRun treeTable r.prog w k an M (st0 w os).abs (topStub r.prog) = some s.abs ∧
      (looksF r.prog (boot_heap w.params) s.abs, seenQ q loose (importedModules r.prog.main.body) (fun s => xlAt q [] s && recOk r.toRowW.records s) s.abs, H.obs s.abs) = (true, openGood q loose, H.val w))
    (hdef : defOf q r.name = some (d, kwd)) (hp : r.prog.theDef r.name = some (d.params, d.body, d.scope)) (hkw : kwWritten? d.params.kwonlyargs d.params.kw_defaults = some kwd)
    (hwr : (!r.writes || r.records.isEmpty) = true) (k1 : r.wellSaid = true) (ok : (chainsOk q && opensWell r.prog && (frees r.toRowW && r.within.isEmpty)) = true) (hb : r.prog.bare) (hw : r.toRowW.promised)
    (call : WalkO q loose (XL q []) H.says r.toRowW d kwd fun f vs => PySem.call f vs) : r.Holds := by
  have left : LeftO r.prog q loose (fun s => xlAt q [] s && recOk r.toRowW.records s) H.obs H.val (M + 600) true := left_segs e (Nat.ble_eq_true_of_le (by omega)) f (Nat.ble_eq_true_of_le (by omega)) hk ha run
  refine holds_open (XP := XL q []) (YP := H.says) left H.of H.keeps ?_ XL.keeps hdef hp hkw ?_ hwr k1 ok hb hw call
  · exact fun s z => xl_of s (Bool.and_eq_true_iff.mp z).1
  · exact fun s z => recFacts_of (Bool.and_eq_true_iff.mp z).2
end SegH
end HS0
set_option Elab.async false
set_option linter.all false
set_option maxRecDepth 100000
set_option maxHeartbeats 4000000
namespace Fw
open PySem L2 RZ RT
abbrev rAddI : R2 := rI0 fun i j => .int (i + j)
abbrev rSubI : R2 := rI0 fun i j => .int (i - j)
abbrev rMulI : R2 := rI CMul fun i j => .int (i * j)
abbrev rDivI : R2 := rI CDivW fun i j => .int (i / j)
abbrev rModI : R2 := rI (fun _ j => 0 < j) fun i j => .int (i % j)
abbrev rPowI : R2 := rI CPow fun i j => .int (i ^ j.toNat)
abbrev rLtI : R2 := rI0 fun i j => .bl (decide (i < j))
abbrev rLeI : R2 := rI0 fun i j => .bl (decide (i ≤ j))
abbrev rGtI : R2 := rI0 fun i j => .bl (decide (j < i))
abbrev rGeI : R2 := rI0 fun i j => .bl (decide (j ≤ i))
abbrev rNegI : V → Hp → VK → Prop := rU fun i => .int (-i)
abbrev fIsN : R2 := fun x y H Q => y = .non ∧ Q (.bl (decide (x = .non))) H
abbrev fNotN : R2 := fun x y H Q => y = .non ∧ Q (.bl (!decide (x = .non))) H
def fLen (K : PySem.W.Frag) : List V → Hp → VK → Prop := fun xs H Q => ∃ x n, xs = [x] ∧ LenV K x H n ∧ Q (.int n) H
def fListOf (K : PySem.W.Frag) : List V → Hp → VK → Prop := fun xs H Q => ∃ p ys, xs = [.ref p] ∧ (SqL K H p ys ∨ SqT K H p ys) ∧ ∀ l, H l = none → Q (.ref l) (upd H l (.lst ys))
def fTupleOf (K : PySem.W.Frag) : List V → Hp → VK → Prop := fun xs H Q => ∃ p ys, xs = [.ref p] ∧ ((SqL K H p ys ∧ ∀ l, H l = none → Q (.ref l) (upd H l (.tup ys))) ∨ (SqT K H p ys ∧ Q (.ref p) H))
def fMin2 : List V → Hp → VK → Prop := fun xs H Q => ∃ i j, xs = [.int i, .int j] ∧ Q (.int (if j < i then j else i)) H
section
variable {K : PySem.W.Frag} {H : Hp} {p : Addr} {xs : List V} {i : Int} {v : V} {Q : VK}
theorem ixL (h : H p = some (.lst xs)) (ha : atI xs i = some v) (q : Q v H) : rIx K (.ref p) (.int i) H Q := .inl ⟨p, xs, i, v, rfl, rfl, .inl (.inl h), ha, q⟩
theorem ixT (h : H p = some (.tup xs)) (ha : atI xs i = some v) (q : Q v H) : rIx K (.ref p) (.int i) H Q := .inr (.inl ⟨p, xs, i, v, rfl, rfl, .inl (.inl h), ha, q⟩)
theorem lenL {σ : L2.St} (h : H p = some (.lst xs)) (q : Q (.int xs.length) H) : tNil σ H fun ys H2 => fLen K (.ref p :: ys) H2 Q := ⟨_, _, rfl, .inl ⟨xs, .inl (.inl h), rfl⟩, q⟩
theorem lenT {σ : L2.St} (h : H p = some (.tup xs)) (q : Q (.int xs.length) H) : tNil σ H fun ys H2 => fLen K (.ref p :: ys) H2 Q := ⟨_, _, rfl, .inr ⟨xs, .inl (.inl h), rfl⟩, q⟩
theorem sqL (h : H p = some (.lst xs)) : SqL K H p xs := .inl (.inl h)
theorem sqT (h : H p = some (.tup xs)) : SqT K H p xs := .inl (.inl h)
end
theorem updS {H : Hp} {a : Addr} {o : HO} : upd H a o a = some o := upd_same
theorem updN {H : Hp} {a b : Addr} {o : HO} {r : Option HO} (n : b ≠ a) (h : H b = r) : upd H a o b = r := by rw [upd_ne n]; exact h
theorem small100 {m : Int} (h : m.natAbs ≤ 1000000000000000000) : m.natAbs < 2 ^ 100 := Nat.lt_of_le_of_lt h (by decide)
theorem pow18 : (10 : Int) ^ (18 : Int).toNat = 1000000000000000000 := by decide
/-- the deck at D: the cells at c, the turn at most t -/
def Dk (c D : Addr) (ns : List Int) (t : Nat) (H : Hp) : Prop := c ≠ D ∧ H c = some (.lst (ns.map V.int)) ∧ ns.length ≤ 63 ∧
  ∃ i n u : Int, H D = some (.lst [.ref c, .int i, .int n, .int u]) ∧ 0 ≤ i ∧ i ≤ ns.length ∧ 0 ≤ n ∧ 0 ≤ u ∧ u ≤ t
def sp_l_deck (K : PySem.W.Frag) : Sp := fun vs H Q _ => ∃ (a : Addr) (ns : List Int), vs = [.ref a] ∧ SqL K H a (ns.map V.int) ∧ ns.length ≤ 63 ∧
  ∀ c D H', Same H H' → H c = none → H D = none → Dk c D ns 0 H' → Q (.ref D) H'
def sp_l_mixed (_ : PySem.W.Frag) : Sp := fun vs H Q _ => ∃ (c t : Int), vs = [.int c, .int t] ∧ 0 ≤ t ∧ t ≤ 1000000000 ∧ ∀ v : Int, Q (.int v) H
def sp_l_draw (_ : PySem.W.Frag) : Sp := fun vs H Q _ => ∃ (c D : Addr) (ns : List Int) (t : Nat) (m : Int), vs = [.ref D, .int m] ∧ Dk c D ns t H ∧ t < 1000000000 ∧ 0 < m ∧ m.natAbs < 2 ^ 100 ∧
  ∀ (v : Int) (H' : Hp), 0 ≤ v → v < m → Dk c D ns (t + 1) H' → (∀ b, b ≠ D → H' b = H b) → Q (.int v) H'
def sp_l_int (_ : PySem.W.Frag) : Sp := fun vs H Q _ => ∃ i : Int, vs = [.int i] ∧ Q (.bl true) H
abbrev N_l_deck : List Str := ["_law_script"]
def t_l_deck (K : PySem.W.Frag) : TS := (tRet (tLst (tCons (tCB (fListOf K) (tCons (tVar 0) tNil)) (tCons (tC (.int 0)) (tCons (tC (.int 0)) (tCons (tC (.int 0)) tNil))))))
abbrev N_l_mixed : List Str := ["_law_cell", "_law_turn"]
def t_l_mixed (K : PySem.W.Frag) : TS := (tRet (tOp rModI (tOp rPowI (tOp rAddI (tOp rAddI (tOp rModI (tVar 0) (tC (.int 2147483629))) (tOp rMulI (tVar 1) (tC (.int 1000003)))) (tC (.int 17))) (tC (.int 5))) (tC (.int 2147483647))))
abbrev N_l_draw : List Str := ["_law_deck_here", "_law_many", "_law_cells", "_law_found", "_law_number"]
def t_l_draw_in (K : PySem.W.Frag) : TS := (tSeq (tIfS (tTest (tOp rLtI (tOp (rIx K) (tVar 2) (tOp rSubI (tOp (rIx K) (tVar 0) (tC (.int 1))) (tC (.int 1)))) (tOp rPowI (tC (.int 10)) (tC (.int 18))))) (tRet (tOp rModI (tCall (sp_l_mixed K) [] E0 (tCons (tOp (rIx K) (tVar 2) (tOp rSubI (tOp (rIx K) (tVar 0) (tC (.int 1))) (tC (.int 1)))) (tCons (tOp (rIx K) (tVar 0) (tC (.int 3))) tNil))) (tVar 1))) tNext)
    (tAsg (tOp (rIx K) (tVar 2) (tOp rSubI (tOp (rIx K) (tVar 0) (tC (.int 1))) (tC (.int 1)))) (gSub (tVar 0) (tC (.int 2)) rSetL)))
def t_l_draw_last (K : PySem.W.Frag) : TS := (tRet (tOp rModI (tCall (sp_l_mixed K) [] E0 (tCons (tVar 4) (tCons (tOp (rIx K) (tVar 0) (tC (.int 3))) tNil))) (tVar 1)))
def t_l_draw_rest (K : PySem.W.Frag) : TS := (tSeq (tIfS (tTest (tOp rGtI (tOp (rIx K) (tVar 0) (tC (.int 2))) (tC (.int 0)))) (tSeq (tAsg (tOp rModI (tOp (rIx K) (tVar 0) (tC (.int 2))) (tVar 1)) (gName 3))
    (tSeq (tAsg (tOp rDivI (tOp (rIx K) (tVar 0) (tC (.int 2))) (tVar 1)) (gSub (tVar 0) (tC (.int 2)) rSetL))
    (tRet (tVar 3)))) tNext)
    (tSeq (tAsg (tOp rMulI (tOp (rIx K) (tVar 0) (tC (.int 3))) (tC (.int 48271))) (gName 4))
    (tSeq (tIfS (tTest (tOp rGtI (tCB (fLen K) (tCons (tVar 2) tNil)) (tC (.int 0)))) (tAsg (tOp rAddI (tVar 4) (tOp rModI (tOp (rIx K) (tVar 2) (tOp rModI (tOp rMulI (tOp (rIx K) (tVar 0) (tC (.int 3))) (tC (.int 7))) (tCB (fLen K) (tCons (tVar 2) tNil)))) (tC (.int 2147483629)))) (gName 4)) tNext)
    (t_l_draw_last K))))
def t_l_draw_mid (K : PySem.W.Frag) : TS := (tSeq (tIfS (tAnd (tTest (tOp rEq (tOp (rIx K) (tVar 0) (tC (.int 2))) (tC (.int 0)))) (tTest (tOp rLtI (tOp (rIx K) (tVar 0) (tC (.int 1))) (tCB (fLen K) (tCons (tVar 2) tNil))))) (tSeq (tAsg (tOp rAddI (tOp (rIx K) (tVar 0) (tC (.int 1))) (tC (.int 1))) (gSub (tVar 0) (tC (.int 1)) rSetL))
    (t_l_draw_in K)) tNext)
    (t_l_draw_rest K))
def t_l_draw (K : PySem.W.Frag) : TS := (tSeq (tAsg (tOp (rIx K) (tVar 0) (tC (.int 0))) (gName 2))
    (tSeq (tAsg (tOp rAddI (tOp (rIx K) (tVar 0) (tC (.int 3))) (tC (.int 1))) (gSub (tVar 0) (tC (.int 3)) rSetL))
    (t_l_draw_mid K)))
abbrev N_l_int : List Str := ["_law_thing"]
def t_l_int (K : PySem.W.Frag) : TS := (tRet (tAndV (tCB (rIsi K) (tCons (tVar 0) (tCons (tC (.ty "int")) tNil))) (tNotV (tCB (rIsi K) (tCons (tVar 0) (tCons (tC (.ty "bool")) tNil))))))
theorem pure_l_deck {K : PySem.W.Frag} {vs : List V} {H : Hp} {Q : VK} {E : XK} (h : sp_l_deck K vs H Q E) : t_l_deck K { nx := fun _ H' => Q .non H', rt := Q } (start N_l_deck vs) H := by
  obtain ⟨a, ns, rfl, hS, hl, k⟩ := h
  refine ⟨_, rfl, a, _, rfl, .inl hS, fun c nc => ⟨by show (4 : Nat) ≤ sizeLine; decide, fun D nD => ?_⟩⟩
  have ncD : c ≠ D := fun e => by rw [← e, updS] at nD; cases nD
  have nD0 : H D = none := by rw [upd_ne ncD.symm] at nD; exact nD
  refine k c D _ (fun b o e => updN (ne_of_none e nD0) (updN (ne_of_none e nc) e)) nc nD0 ⟨ncD, updN ncD updS, hl, 0, 0, 0, updS, Int.le_refl _, by omega, Int.le_refl _, Int.le_refl _, Int.le_refl _⟩
theorem pure_l_mixed {K : PySem.W.Frag} {vs : List V} {H : Hp} {Q : VK} {E : XK} (h : sp_l_mixed K vs H Q E) : t_l_mixed K { nx := fun _ H' => Q .non H', rt := Q } (start N_l_mixed vs) H := by
  obtain ⟨c, t, rfl, h0, h1, k⟩ := h
  refine ⟨_, rfl, _, _, rfl, rfl, (by show (0 : Int) < 2147483629; decide), _, rfl, _, _, rfl, rfl, .inr ⟨by decide, by decide⟩, _, _, rfl, rfl, _, _, rfl, rfl, _, _, rfl, rfl, ⟨by decide, by decide, ?_⟩, _, _, rfl, rfl, (by show (0 : Int) < 2147483647; decide), k _⟩
  have := Int.emod_nonneg c (show (2147483629 : Int) ≠ 0 by decide)
  have := Int.emod_lt_of_pos c (show (0 : Int) < 2147483629 by decide)
  omega
theorem pure_l_int {K : PySem.W.Frag} {vs : List V} {H : Hp} {Q : VK} {E : XK} (h : sp_l_int K vs H Q E) : t_l_int K { nx := fun _ H' => Q .non H', rt := Q } (start N_l_int vs) H := by
  obtain ⟨i, rfl, k⟩ := h
  refine ⟨_, rfl, _, _, _, _, true, rfl, .ty _, .base (.int i), kit_ty (by decide +kernel), _, rfl, iteT ?_⟩
  refine ⟨_, rfl, _, _, _, _, false, rfl, .ty _, .base (.int i), kit_ty (by decide +kernel), _, rfl, k⟩
theorem pure_l_draw {K : PySem.W.Frag} {vs : List V} {H : Hp} {Q : VK} {E : XK} (h : sp_l_draw K vs H Q E) : t_l_draw K { nx := fun _ H' => Q .non H', rt := Q } (start N_l_draw vs) H := by
  obtain ⟨c, D, ns, t, m, rfl, ⟨ncD, hc, hl, i, n, u, hD, i0, i1, n0, u0, u1⟩, ht, m0, m1, k⟩ := h
  have cells : ∀ {j : Int}, 0 ≤ j → j < ns.length → ∃ z : Int, atI (ns.map V.int) j = some (.int z) := fun {j} h0 h1 => by
    obtain ⟨q, rfl⟩ := Int.eq_ofNat_of_zero_le h0
    have hq : q < ns.length := by omega
    exact ⟨ns[q], atI_nat (by rw [List.getElem?_map, List.getElem?_eq_getElem hq]; rfl)⟩
  -- the rest, from any i and n
  have rest : ∀ (i n : Int) (H2 : Hp) (z3 z4 : Option V), 0 ≤ i → i ≤ ns.length → 0 ≤ n → H2 D = some (.lst [.ref c, .int i, .int n, .int (u + 1)]) → H2 c = some (.lst (ns.map V.int)) → (∀ b, b ≠ D → H2 b = H b) →
      t_l_draw_rest K { nx := fun _ H' => Q .non H', rt := Q } [some (.ref D), some (.int m), some (.ref c), z3, z4] H2 := by
    intro i n H2 z3 z4 i0 i1 n0 hD2 hc2 fr2
    have mod0 : ∀ x : Int, 0 ≤ x % m := fun x => Int.emod_nonneg x (by omega)
    have mod1 : ∀ x : Int, x % m < m := fun x => Int.emod_lt_of_pos x m0
    refine ⟨_, rfl, ixL hD2 rfl ⟨_, _, rfl, rfl, _, rfl, ite2 (fun e => ?_) (fun e => ?_)⟩⟩
    · have hn : 0 < n := of_decide_eq_true e
      refine ⟨_, rfl, ixL hD2 rfl ⟨_, rfl, _, _, rfl, rfl, m0, ?_⟩⟩
      refine ⟨_, rfl, ixL hD2 rfl ⟨_, rfl, _, _, rfl, rfl, wide_div m0 m1 (by decide) (by decide), _, rfl, D, _, _, 2, rfl, rfl, hD2, rfl, ?_⟩⟩
      refine ⟨_, rfl, k _ _ (mod0 n) (mod1 n) ⟨ncD, updN ncD hc2, hl, i, n / m, u + 1, updS, i0, i1, Int.ediv_nonneg n0 (by omega), by omega, by omega⟩ fun b nb => (upd_ne nb).trans (fr2 b nb)⟩
    · refine ⟨_, rfl, ixL hD2 rfl ⟨_, _, rfl, rfl, .inr ⟨by decide, by decide⟩, ?_⟩⟩
      have last : ∀ (y : Int), t_l_draw_last K { nx := fun _ H' => Q .non H', rt := Q } [some (.ref D), some (.int m), some (.ref c), z3, some (.int y)] H2 := fun y => by
        refine ⟨_, rfl, _, rfl, ixL hD2 rfl ⟨y, u + 1, rfl, by omega, by omega, fun v => ?_⟩⟩
        refine ⟨_, rfl, _, _, rfl, rfl, m0, k _ _ (mod0 v) (mod1 v) ⟨ncD, hc2, hl, i, n, u + 1, hD2, i0, i1, n0, by omega, by omega⟩ fr2⟩
      refine ⟨_, rfl, lenL hc2 ⟨_, _, rfl, rfl, _, rfl, ite2 (fun e => ?_) (fun e => ?_)⟩⟩
      · have hn : 0 < ns.length := by
          have q : (0 : Int) < (ns.map V.int).length := of_decide_eq_true e
          rw [List.length_map] at q
          omega
        have hlen : ((ns.map V.int).length : Int) = ns.length := by rw [List.length_map]
        obtain ⟨z, hz⟩ := cells (j := (u + 1) * 7 % ((ns.map V.int).length : Int)) (Int.emod_nonneg _ (by omega)) (by rw [hlen]; exact Int.emod_lt_of_pos _ (by omega))
        refine ⟨_, rfl, _, rfl, _, rfl, ixL hD2 rfl ⟨_, _, rfl, rfl, .inr ⟨by decide, by decide⟩, _, rfl, lenL hc2 ⟨_, _, rfl, rfl, (by show (0 : Int) < ((ns.map V.int).length : Int); omega), ixL hc2 hz ⟨_, _, rfl, rfl, (by show (0 : Int) < 2147483629; decide), _, _, rfl, rfl, ?_⟩⟩⟩⟩
        exact last _
      · exact last _
  have mid : ∀ (H1 : Hp) (z3 z4 : Option V), H1 D = some (.lst [.ref c, .int i, .int n, .int (u + 1)]) → H1 c = some (.lst (ns.map V.int)) → (∀ b, b ≠ D → H1 b = H b) →
      t_l_draw_mid K { nx := fun _ H' => Q .non H', rt := Q } [some (.ref D), some (.int m), some (.ref c), z3, z4] H1 := by
    intro H1 z3 z4 hD1 hc1 fr1
    refine ⟨_, rfl, ixL hD1 rfl ⟨rfl, _, rfl, ?_⟩⟩
    refine ite2 (fun e => ?_) (fun e => iteF (rest i n H1 _ _ i0 i1 n0 hD1 hc1 fr1))
    refine ⟨_, rfl, ixL hD1 rfl ⟨_, rfl, lenL hc1 ⟨_, _, rfl, rfl, _, rfl, ite2 (fun e2 => ?_) (fun e2 => rest i n H1 _ _ i0 i1 n0 hD1 hc1 fr1)⟩⟩⟩
    have hi : i < ns.length := by
      have q : i < ((ns.map V.int).length : Int) := of_decide_eq_true e2
      rw [List.length_map] at q
      exact q
    obtain ⟨z, hz⟩ := cells i0 hi
    have ei : i + 1 - 1 = i := by omega
    have inn : ∀ (H2 : Hp), H2 D = some (.lst [.ref c, .int (i + 1), .int n, .int (u + 1)]) → H2 c = some (.lst (ns.map V.int)) → (∀ b, b ≠ D → H2 b = H b) →
        t_l_draw_in K { nx := t_l_draw_rest K { nx := fun _ H' => Q .non H', rt := Q }, rt := Q } [some (.ref D), some (.int m), some (.ref c), z3, z4] H2 := by
      intro H2 hD2 hc2 fr2
      refine ⟨_, rfl, _, rfl, ixL hD2 rfl ⟨_, _, rfl, rfl, ixL hc2 (by rw [ei]; exact hz) ⟨_, _, rfl, rfl, ⟨by decide, by decide, by decide⟩, _, _, rfl, rfl, _, rfl, ite2 (fun e3 => ?_) (fun e3 => ?_)⟩⟩⟩
      · refine ⟨_, rfl, _, rfl, ixL hD2 rfl ⟨_, _, rfl, rfl, ixL hc2 (by rw [ei]; exact hz) ⟨_, rfl, ixL hD2 rfl ⟨z, u + 1, rfl, by omega, by omega, fun v => ?_⟩⟩⟩⟩
        refine ⟨_, rfl, _, _, rfl, rfl, m0, k _ _ (Int.emod_nonneg v (by omega)) (Int.emod_lt_of_pos v m0) ⟨ncD, hc2, hl, i + 1, n, u + 1, hD2, by omega, by omega, n0, by omega, by omega⟩ fr2⟩
      · have hz0 : ¬ z < 1000000000000000000 := fun q => e3 (decide_eq_true (by rw [pow18]; exact q))
        refine ⟨_, rfl, _, rfl, ixL hD2 rfl ⟨_, _, rfl, rfl, ixL hc2 (by rw [ei]; exact hz) ⟨_, rfl, D, _, _, 2, rfl, rfl, hD2, rfl, ?_⟩⟩⟩
        exact rest (i + 1) z _ _ _ (by omega) (by omega) (by omega) updS (updN ncD hc2) fun b nb => updN nb (fr2 b nb)
    refine ⟨_, rfl, ixL hD1 rfl ⟨_, _, rfl, rfl, _, rfl, D, _, _, 1, rfl, rfl, hD1, rfl, ?_⟩⟩
    exact inn _ updS (updN ncD hc1) fun b nb => updN nb (fr1 b nb)
  -- cells = deck[0]; deck[3] = deck[3] + 1
  refine ⟨_, rfl, ixL hD rfl ?_⟩
  refine ⟨_, rfl, ixL hD rfl ⟨_, _, rfl, rfl, _, rfl, D, _, _, 3, rfl, rfl, hD, rfl, ?_⟩⟩
  exact mid _ _ _ updS (updN ncD hc) fun b nb => upd_ne nb
/-- two values of the same data, at most n deep -/
def SameV (H : Hp) : Nat → V → V → Prop
  | 0, _, _ => False
  | n + 1, x, y => (x = y ∧ (x = .non ∨ (∃ i, x = .int i) ∨ (∃ b, x = .bl b) ∨ ∃ z, x = .str z)) ∨
    ∃ p q xs ys, x = .ref p ∧ y = .ref q ∧ ((H p = some (.lst xs) ∧ H q = some (.lst ys)) ∨ (H p = some (.tup xs) ∧ H q = some (.tup ys))) ∧ xs.length = ys.length ∧ xs.length ≤ 100000 ∧
      ∀ (i : Nat) (a b : V), xs[i]? = some a → ys[i]? = some b → SameV H n a b
theorem SameV.int {H : Hp} {n : Nat} {i j : Int} (e : i = j) : SameV H (n + 1) (.int i) (.int j) := Or.inl ⟨by rw [e], .inr (.inl ⟨i, rfl⟩)⟩
theorem SameV.bl {H : Hp} {n : Nat} {i j : Bool} (e : i = j) : SameV H (n + 1) (.bl i) (.bl j) := Or.inl ⟨by rw [e], .inr (.inr (.inl ⟨i, rfl⟩))⟩
theorem SameV.tup {H : Hp} {n : Nat} {p q : Addr} {xs ys : List V} (h1 : H p = some (.tup xs)) (h2 : H q = some (.tup ys)) (hl : xs.length = ys.length) (hz : xs.length ≤ 100000) (h : ∀ (i : Nat) (a b : V), xs[i]? = some a → ys[i]? = some b → SameV H n a b) : SameV H (n + 1) (.ref p) (.ref q) :=
  Or.inr ⟨p, q, xs, ys, rfl, rfl, .inr ⟨h1, h2⟩, hl, hz, h⟩
theorem SameV.lst {H : Hp} {n : Nat} {p q : Addr} {xs ys : List V} (h1 : H p = some (.lst xs)) (h2 : H q = some (.lst ys)) (hl : xs.length = ys.length) (hz : xs.length ≤ 100000) (h : ∀ (i : Nat) (a b : V), xs[i]? = some a → ys[i]? = some b → SameV H n a b) : SameV H (n + 1) (.ref p) (.ref q) :=
  Or.inr ⟨p, q, xs, ys, rfl, rfl, .inl ⟨h1, h2⟩, hl, hz, h⟩
theorem SameV.ints {H : Hp} {n : Nat} {ns : List Int} : ∀ (i : Nat) (a b : V), (ns.map V.int)[i]? = some a → (ns.map V.int)[i]? = some b → SameV H (n + 1) a b := fun i a b h1 h2 => by
  have e : a = b := Option.some.inj (h1.symm.trans h2)
  rw [List.getElem?_map] at h1
  cases q : ns[i]? with
  | none => rw [q] at h1; cases h1
  | some z => rw [q] at h1; exact Or.inl ⟨e, .inr (.inl ⟨z, (Option.some.inj h1).symm⟩)⟩
abbrev N_l_same : List Str := ["_law_found", "_law_due", "_law_k"]
section
variable {K : PySem.W.Frag} {H : Hp} {x : V} {Q : VK} {σ : L2.St} {c t : String} {b : Bool}
theorem isi (ty : TyX K H x (.type t)) (k : kitB t c = some b) (q : Q (.bl b) H) : tCons (tC (.ty c)) tNil σ H fun ys H2 => rIsi K (x :: ys) H2 Q := ⟨_, _, _, _, b, rfl, .ty _, ty, kit_ty k, q⟩
end
theorem k_it : kitB "int" "tuple" = some false := by decide +kernel
theorem k_il : kitB "int" "list" = some false := by decide +kernel
theorem k_ib : kitB "int" "bool" = some false := by decide +kernel
theorem k_ii : kitB "int" "int" = some true := by decide +kernel
theorem k_bt : kitB "bool" "tuple" = some false := by decide +kernel
theorem k_bl : kitB "bool" "list" = some false := by decide +kernel
theorem k_bb : kitB "bool" "bool" = some true := by decide +kernel
theorem k_st : kitB "str" "tuple" = some false := by decide +kernel
theorem k_sl : kitB "str" "list" = some false := by decide +kernel
theorem k_sb : kitB "str" "bool" = some false := by decide +kernel
theorem k_si : kitB "str" "int" = some false := by decide +kernel
theorem k_ss : kitB "str" "str" = some true := by decide +kernel
theorem k_nt : kitB "NoneType" "tuple" = some false := by decide +kernel
theorem k_nl : kitB "NoneType" "list" = some false := by decide +kernel
theorem k_nb : kitB "NoneType" "bool" = some false := by decide +kernel
theorem k_ni : kitB "NoneType" "int" = some false := by decide +kernel
theorem k_ns : kitB "NoneType" "str" = some false := by decide +kernel
theorem k_tt : kitB "tuple" "tuple" = some true := by decide +kernel
theorem k_tl : kitB "tuple" "list" = some false := by decide +kernel
theorem k_lt : kitB "list" "tuple" = some false := by decide +kernel
theorem k_ll : kitB "list" "list" = some true := by decide +kernel
theorem len_le {n : Nat} (h : n ≤ 100000) : -(2 ^ 62 : Int) ≤ (n : Int) ∧ (n : Int) < 2 ^ 62 := by
  have e : (2 : Int) ^ 62 = 4611686018427387904 := by decide
  rw [e]
  omega
def sp_law (K : PySem.W.Frag) : Sp := fun vs H Q _ => ∃ (a : Addr) (ns : List Int), vs = [.ref a] ∧ SqL K H a (ns.map V.int) ∧ ns.length ≤ 63 ∧ ∀ H', Q (.bl true) H'
section
variable {K : PySem.W.Frag} {vs : List V} {H : Hp} {Q : VK} {E : XK}
theorem len_law (h : sp_law K vs H Q E) : vs.length = 1 := by
  obtain ⟨_, _, rfl, _⟩ := h
  rfl
theorem len_l_deck (h : sp_l_deck K vs H Q E) : vs.length = 1 := by
  obtain ⟨_, _, rfl, _⟩ := h
  rfl
theorem len_l_mixed (h : sp_l_mixed K vs H Q E) : vs.length = 2 := by
  obtain ⟨_, _, rfl, _⟩ := h
  rfl
theorem len_l_draw (h : sp_l_draw K vs H Q E) : vs.length = 2 := by
  obtain ⟨_, _, _, _, _, rfl, _⟩ := h
  rfl
theorem len_l_int (h : sp_l_int K vs H Q E) : vs.length = 1 := by
  obtain ⟨_, rfl, _⟩ := h
  rfl
end
end Fw
set_option Elab.async false
set_option linter.all false
set_option maxRecDepth 100000
set_option maxHeartbeats 4000000
namespace Fw
open PySem PySem.Spec PyProof.Rows L2
section
variable {X : Cx} {e : Expr} {es : List Expr} {ta : TA} {p1 p2 pos : Pos} {x : Str} {CH : Addr}
/-- what a class of the text must say, so that C.__init__ is ValueError's -/
structure HeirC (K : PySem.W.Frag) (CH : Addr) : Prop where
  rd : PySem.W.readsIn K CH (.type "type") = true
  ga : PySem.W.specialIn K (.ref CH) "__getattribute__" = some (some (.builtin "type.__getattribute__"))
  ty : PySem.W.typeIn K (.ref CH) = some (.type "type")
  vi : PySem.W.findCls K (.ref CH) (.type "type") "__init__" = some (.val (.builtin "ValueError.__init__"))
def heirB (K : PySem.W.Frag) (CH : Addr) : Bool := PySem.W.readsIn K CH (.type "type") && (decide (PySem.W.specialIn K (.ref CH) "__getattribute__" = some (some (.builtin "type.__getattribute__"))) && (decide (PySem.W.typeIn K (.ref CH) = some (.type "type")) &&
  match PySem.W.findCls K (.ref CH) (.type "type") "__init__" with
  | some (.val (.builtin z)) => decide (z = "ValueError.__init__")
  | _ => false))
theorem heirB_ok {K : PySem.W.Frag} {CH : Addr} (h : heirB K CH = true) : HeirC K CH := by
  unfold heirB at h
  obtain ⟨h1, h⟩ := Bool.and_eq_true_iff.mp h
  obtain ⟨h2, h⟩ := Bool.and_eq_true_iff.mp h
  obtain ⟨h3, h4⟩ := Bool.and_eq_true_iff.mp h
  refine ⟨h1, of_decide_eq_true h2, of_decide_eq_true h3, ?_⟩
  split at h4
  · rename_i z q
    rw [q, of_decide_eq_true h4]
  · cases h4
/-- Base.__init__(self, ..), Base a class of the text over ValueError -/
theorem pe_heir {pl : Sem Bool} (hg : Gl X x) (hm : X.mg x = some (.ref CH)) (R : HeirC X.K CH) (args : PA X (e :: es) ta) 
    (comes : eval (.Call (.Attribute (.Name x p1) "__init__" p2) (e :: es) [] pos) X.env = (do
      let cv ← eval (.Name x p1) X.env
      standAt p2.atName
      let (fn, ahead) ← holding [cv] (getMethod cv "__init__" pl)
      callWith pos fn ahead (backTo pos (starEach (e :: es) X.env)) (backToKw pos (keywordEach [] X.env))) := by rfl) (dbg : (x == ("__debug__" : Str)) = false := by decide)
    (fst : starEach (e :: es) X.env = (false, eval e X.env) :: starEach es X.env := by rfl) (flat : (backTo pos (starEach es X.env)).any (·.1) = false := by rfl) : PE X (.Call (.Attribute (.Name x p1) "__init__" p2) (e :: es) [] pos) (tVeI X.K ta) := by
  refine ⟨fun pins s σ H Q inv rd => ?_⟩
  refine PySem.W.methodCall_KW (ld_glob inv hg hm ?_ dbg) comes
  obtain ⟨m, fr⟩ := inv.fr
  refine PySem.W.method_of_cls fr inv.ok.mod.kin R.ga (PySem.W.cls_val fr inv.ok.mod.kin R.ty R.rd R.vi (by decide +kernel) ?_)
  show wpAny _ _ (callWith pos (Value.builtin "ValueError.__init__") [] (backTo pos (starEach (e :: es) X.env)) [])
    _ _ _
  refine PyProof.Rows.callWith_method1 (thn (args.run pos pins _ σ H _ (inv.tok _) rd)
    fun us s1 ⟨vs, H1, inv1, rel, self, C, more, same, few, oex, at_, q⟩ => ?_) fst flat
  subst same
  cases rel with
  | @cons _ u0 _ ur r0 rm =>
    obtain rfl : u0 = Value.ref self := r0
    have n : ur.length ≤ sizeLine := by
      rw [← Paired.length rm, sizeLine_eq]
      omega
    exact oinit_ok oex inv1 at_ n fun s2 inv2 => ⟨.non, H1, inv2, rfl, q⟩
/-- the class at C is one of the text over ValueError, with fields of its own: as a Bool -/
def oexB (K : PySem.W.Frag) (C : Addr) : Bool := (match K.lookup C with
  | some ⟨.type "type", _, .cls cd, sl⟩ => (match cd.mro, sl.toList with
    | .ref me :: up, [_, _, _, _, some (.builtin nw), _] => decide (me = C) && (decide (nw = "ValueError.__new__") && (cd.hasDict && (!cd.hasDel && PySem.HandSPX.refsVE up)))
    | _, _ => false)
  | _ => false) && (decide (PySem.W.findIn K (.ref C) "__setattr__" = some (some (.builtin "object.__setattr__"))) && (decide (PySem.W.subIn K (.ref C) (.type "BaseException") = some true) && (decide (PySem.W.typeIn K (.ref C) = some (.type "type")) && PySem.W.keepIn K (.ref C))))
theorem oexB_ok {K : PySem.W.Frag} {C : Addr} (h : oexB K C = true) : OexC K C := by
  unfold oexB at h
  obtain ⟨h1, h⟩ := Bool.and_eq_true_iff.mp h
  obtain ⟨h2, h⟩ := Bool.and_eq_true_iff.mp h
  obtain ⟨h3, h⟩ := Bool.and_eq_true_iff.mp h
  obtain ⟨h4, h5⟩ := Bool.and_eq_true_iff.mp h
  refine ⟨?_, of_decide_eq_true h2, of_decide_eq_true h3, of_decide_eq_true h4, h5⟩
  split at h1
  · rename_i dd cd sl ho
    split at h1
    · rename_i me up k0 k1 k2 k3 nw k5 em es
      obtain ⟨g1, h1⟩ := Bool.and_eq_true_iff.mp h1
      obtain ⟨g2, h1⟩ := Bool.and_eq_true_iff.mp h1
      obtain ⟨g3, h1⟩ := Bool.and_eq_true_iff.mp h1
      obtain ⟨g4, g5⟩ := Bool.and_eq_true_iff.mp h1
      have q1 := of_decide_eq_true g1
      have q2 := of_decide_eq_true g2
      have q4 : cd.hasDel = false := by
        cases z : cd.hasDel with
        | false => rfl
        | true => rw [z] at g4; cases g4
      obtain ⟨c1, c2, c3, c4, c5, c6, c7, c8, c9, c10, c11⟩ := cd
      dsimp only at em g3 q4
      subst em g3 q4 q1 q2
      have eS : sl = #[k0, k1, k2, k3, some (.builtin "ValueError.__new__"), k5] := by
        cases sl with
        | mk l => exact congrArg Array.mk es
      subst eS
      exact ⟨_, _, _, _, _, _, _, _, _, _, _, _, _, _, _, ho, g5⟩
    · cases h1
  · cases h1
end
end Fw
set_option Elab.async false
set_option linter.all false
set_option maxRecDepth 100000
set_option maxHeartbeats 4000000
namespace Fw
open PySem PySem.Spec PyProof.Rows L2
/-- C.m is the def at f -/
structure ClsG (K : PySem.W.Frag) (CH f : Addr) (m : Str) : Prop where
  rd : PySem.W.readsIn K CH (.type "type") = true
  ga : PySem.W.specialIn K (.ref CH) "__getattribute__" = some (some (.builtin "type.__getattribute__"))
  ty : PySem.W.typeIn K (.ref CH) = some (.type "type")
  vi : PySem.W.findCls K (.ref CH) (.type "type") m = some (.val (.ref f))
  kp : PySem.W.keepIn K (.ref f) = true
def clsgB (K : PySem.W.Frag) (CH f : Addr) (m : Str) : Bool := PySem.W.readsIn K CH (.type "type") && (decide (PySem.W.specialIn K (.ref CH) "__getattribute__" = some (some (.builtin "type.__getattribute__"))) && (decide (PySem.W.typeIn K (.ref CH) = some (.type "type")) && ((match PySem.W.findCls K (.ref CH) (.type "type") m with
  | some (.val (.ref z)) => decide (z = f)
  | _ => false) && PySem.W.keepIn K (.ref f))))
theorem clsgB_ok {K : PySem.W.Frag} {CH f : Addr} {m : Str} (h : clsgB K CH f m = true) : ClsG K CH f m := by
  unfold clsgB at h
  obtain ⟨h1, h⟩ := Bool.and_eq_true_iff.mp h
  obtain ⟨h2, h⟩ := Bool.and_eq_true_iff.mp h
  obtain ⟨h3, h⟩ := Bool.and_eq_true_iff.mp h
  obtain ⟨h4, h5⟩ := Bool.and_eq_true_iff.mp h
  refine ⟨h1, of_decide_eq_true h2, of_decide_eq_true h3, ?_, h5⟩
  split at h4
  · rename_i z q
    rw [q, of_decide_eq_true h4]
  · cases h4
section
variable {X : Cx} {CX : CXT} {k : Nat} {f CH : Addr} {fd : FuncData} {ps : List Str} {sp : Sp} {dvs : List V} {ds : List Value} {E : XK} {x m : Str} {p1 p2 pos : Pos} {e : Expr} {es : List Expr} {t : TA}
theorem pe_clsm {pl : Sem Bool} (hg : Gl X x) (hm : X.mg x = some (.ref CH)) (G : ClsG X.K CH f m) (F : FnOk X.prog X.w X.K X.mg X.base CX k f fd ps sp) (hr : Room k X.A) (hb : L2.Binds X.K fd ps ds) (hd : Vals dvs ds) (hx : Passes CX X E) (ha : PA X (e :: es) t)
    (comes : eval (.Call (.Attribute (.Name x p1) m p2) (e :: es) [] pos) X.env = (do
      let cv ← eval (.Name x p1) X.env
      standAt p2.atName
      let (fn, ahead) ← holding [cv] (getMethod cv m pl)
      callWith pos fn ahead (backTo pos (starEach (e :: es) X.env)) (backToKw pos (keywordEach [] X.env))) := by rfl) (dbg : (x == ("__debug__" : Str)) = false := by decide)
    (fst : starEach (e :: es) X.env = (false, eval e X.env) :: starEach es X.env := by rfl) (flat : (backTo pos (starEach es X.env)).any (·.1) = false := by rfl) : PE X (.Call (.Attribute (.Name x p1) m p2) (e :: es) [] pos) (tCall sp dvs E t) := by
  refine ⟨fun pins s σ H Q I h => ?_⟩
  refine PySem.W.methodCall_KW (ld_glob I hg hm ?_ dbg) comes
  obtain ⟨mm, fr⟩ := I.fr
  refine PySem.W.method_of_cls fr I.ok.mod.kin G.ga (PySem.W.cls_val fr I.ok.mod.kin G.ty G.rd G.vi rfl ?_)
  show wpAny _ _ (callWith pos (Value.ref f) [] (backTo pos (starEach (e :: es) X.env)) []) _ _ _
  exact PySem.W.callWith_K I.ok.mod.kin G.kp (thn (ha.run pos pins _ σ H (fun vs H1 => sp (vs ++ dvs) H1 Q E) (I.tok _) h) fun us s1 ⟨vs, H1, I1, r, q⟩ => ⟨I1.kIn, run_fn F hr hb hd hx I1 r q⟩) fst flat
end
end Fw
set_option Elab.async false
set_option linter.all false
set_option maxRecDepth 100000
set_option maxHeartbeats 4000000
namespace Fw
open PySem PySem.Spec PyProof.Rows L2
/-- isinstance(e, c), e what the clause holds, its dict having fields -/
def rIsF (K : PySem.W.Frag) (a : Addr) (cls : Value) (d : Option Addr) : List V → Hp → VK → Prop := fun xs H Q => ∃ (C dd : Addr) (fs : List (Str × V)), cls = .ref C ∧ d = some dd ∧ H dd = some (.xd fs) ∧ ExcC K C ∧ rIsE K C a xs H Q
theorem call_isF {X : Cx} {a : Addr} {cls : Value} {d : Option Addr} {oe : Obj} {pn : List (Addr × Obj)} (hz : Zc cls d oe) (hf : ∃ vs, oe.data = .fields vs) : CallR (X.suite a ((a, oe) :: pn)) (.builtin "isinstance") (rIsF X.K a cls d) := by
  intro pins s σ H xs us Q I r ⟨C, dd, fs, e1, e2, hdd, ec, c, cv, b, exs, hcv, ek, q⟩
  subst e1 e2 exs
  cases r with
  | cons rx rr =>
    cases rr with
    | cons rt rr =>
      cases rr
      obtain rfl : _ = Value.ref a := rx
      obtain rfl := hcv _ rt
      obtain ⟨ha, _⟩ := I.pin (a, oe) (List.mem_append_left _ List.mem_cons_self)
      obtain ⟨vs, hv⟩ := hf
      obtain ⟨mA, hns, _⟩ : ObjOk X.prog X.w H s.heap dd (.xd fs) := I.hok dd _ hdd
      obtain ⟨od, ho, _⟩ := lookIn_ns hns
      have J : PySem.W.InstAt s.heap a oe C (some od) := ⟨ha, hz.1, (by unfold PySem.W.notCls; rw [hv] <;> rfl), (by rw [hz.2]; exact ho)⟩
      have hcl : (PySem.W.clsIn X.K C).isSome = true := by
        obtain ⟨cd, hc, _⟩ := PySem.W.any_some ec.hd
        rw [hc]
        rfl
      exact PySem.W.kia_one (PySem.W.kitx_exc hcl ec.hg ec.hk ec.hs ec.ha ec.hn ec.ht ec.hm) I.kIn J ek (fun z => nomatch z) fun tk => ⟨.bl b, H, I.kept (t' := tk) fun _ _ z => z, rfl, q⟩
theorem rel_ref {a : Addr} : ∀ u, RelV (.ref a) u → u = Value.ref a := fun u h => by
  cases h
  rfl
theorem rel_ty {a : String} : ∀ u, RelV (.ty a) u → u = Value.type a := fun u h => by
  cases h
  rfl
def excB (K : PySem.W.Frag) (C : Addr) : Bool :=
  decide (PySem.W.findIn K (.ref C) "__getattribute__" = some (some (.builtin "BaseException.__getattribute__"))) && (decide (PySem.W.findIn K (.ref C) "__getattr__" = some none) &&
  (decide (PySem.W.subIn K (.ref C) (.type "BaseException") = some true) && (PySem.W.hasDictIn K C && (decide (PySem.W.findIn K (.ref C) "__class__" = some (some (.builtin "object.__class__"))) &&
  (decide (PySem.W.specialIn K (.builtin "object.__class__") "__get__" = some (some (.builtin "getset_descriptor.__get__"))) && (decide (PySem.W.takesIn K (.builtin "object.__class__") = some true) &&
  decide (PySem.W.mroIn K C (.type "object") = some true)))))))
theorem excB_ok {K : PySem.W.Frag} {C : Addr} (h : excB K C = true) : ExcC K C := by
  unfold excB at h
  simp only [Bool.and_eq_true, decide_eq_true_eq] at h
  obtain ⟨h1, h2, h3, h4, h5, h6, h7, h8⟩ := h
  exact ⟨h1, h2, h3, h4, h5, h6, h7, h8⟩
abbrev AlY : Type := He.AlD × Bool
def obsYG (n : Nat) (fa : List He.Fa) (fn : List He.DefD) (ex : PySem.W.Frag → Bool) (g : Addr → Option Obj) : AlY := (He.obsD fa fn (He.frG g (cStatics :: He.asD g n)), ex (He.frG g (cStatics :: He.asD g n)))
def hookY (n : Nat) (fa : List He.Fa) (fn : List He.DefD) (ex : PySem.W.Frag → Bool) : PySem.W.Hook where
  α := AlY
  obs := fun s => obsYG n fa fn ex s.heap.get?
  val := fun _ => (He.valD fn, true)
  says := fun _ h => ∃ K : PySem.W.Frag, K.In h ∧ He.SaysD fa fn K ∧ ex K = true
  of := fun _ _ e => ⟨_, He.frG_in, congrArg (fun z : AlY => z.1) e, congrArg (fun z : AlY => z.2) e⟩
  keeps := fun _ _ _ ⟨K, hK, c⟩ k => ⟨K, PySem.W.Frag.In.keeps hK k, c⟩
theorem obsYG_eq {n : Nat} {fa : List He.Fa} {fn : List He.DefD} {ex : PySem.W.Frag → Bool} {g : Addr → Option Obj} {s : Shared} (h : ∀ a, g a = s.heap.get? a) : obsYG n fa fn ex g = (hookY n fa fn ex).obs s := by
  have e : g = s.heap.get? := funext h
  rw [e] <;> rfl
end Fw
set_option Elab.async false
set_option linter.all false
set_option maxRecDepth 100000
set_option maxHeartbeats 4000000
namespace Fw
open PySem PySem.Spec PyProof.Rows L2
end Fw
set_option Elab.async false
set_option linter.all false
set_option maxRecDepth 100000
set_option maxHeartbeats 1000000
namespace Fw
open PySem L2 RZ RT
def inhB (K : PySem.W.Frag) (C B : Str) (ms : List Str) : Bool := ms.all fun m => decide (PySem.W.findIn K (.ref (He.ga K C)) m = some (some (.ref (He.fAd K (B, some m))))) && (PySem.W.isFn K (.ref (He.fAd K (B, some m))) && PySem.W.keepIn K (.ref (He.fAd K (B, some m))))
end Fw
set_option Elab.async false
set_option linter.all false
set_option maxRecDepth 100000
set_option maxHeartbeats 1000000
namespace Fw
open PySem L2 RZ RT
def ergB (K : PySem.W.Frag) (X : Str) (no : List Str) : Bool := excB K (He.ga K X) && (decide (PySem.W.exmOne K (.ref (He.ga K X)) (.ref (He.ga K X)) = some true) && (decide (PySem.W.exmOne K (.ref (He.ga K X)) (.ref (He.ga K "HouseError")) = some true) &&
  (decide (PySem.W.kitOne K (.ref (He.ga K X)) (.type "ValueError") = some true) && (decide (PySem.W.kitOne K (.ref (He.ga K X)) (.ref (He.ga K X)) = some true) && ((no.all fun Y => decide (PySem.W.kitOne K (.ref (He.ga K X)) (.ref (He.ga K Y)) = some false)) &&
  ((no.all fun Y => decide (PySem.W.exmOne K (.ref (He.ga K X)) (.ref (He.ga K Y)) = some false)) && (xfB K (He.ga K X) && (oexB K (He.ga K X) && (decide (PySem.W.findIn K (.ref (He.ga K X)) "name" = some none) &&
  (decide (PySem.W.findIn K (.ref (He.ga K X)) "__init__" = some (some (.ref (He.fAd K (X, some "__init__"))))) && decide (PySem.W.typeIn K (.ref (He.fAd K (X, some "__init__"))) = some (.type "function"))))))))))))
end Fw
set_option Elab.async false
set_option linter.all false
set_option maxRecDepth 100000
set_option maxHeartbeats 1000000
namespace Fw
open PySem L2 RZ RT
def lgB (K : PySem.W.Frag) : Bool := excB K (He.ga K "LetGo") && (decide (PySem.W.exmOne K (.ref (He.ga K "LetGo")) (.ref (He.ga K "NoName")) = some false) && (decide (PySem.W.exmOne K (.ref (He.ga K "LetGo")) (.ref (He.ga K "Lack")) = some false) &&
  (decide (PySem.W.exmOne K (.ref (He.ga K "LetGo")) (.ref (He.ga K "HouseError")) = some true) && (decide (PySem.W.kitOne K (.ref (He.ga K "LetGo")) (.ref (He.ga K "LetGo")) = some true) && decide (PySem.W.kitOne K (.ref (He.ga K "LetGo")) (.type "ValueError") = some true)))))
def hou55B (K : PySem.W.Frag) : Bool := clsgB K (He.ga K "Store") (He.fAd K ("Store", some "__init__")) "__init__" && inhB K "House" "Store" ["put", "held", "holds"]
def k55B (K : PySem.W.Frag) : Bool := ergB K "NoName" ["Lack"] && (ergB K "Lack" ["NoName"] && (lgB K && (heirB K (He.ga K "HouseError") && hou55B K)))
end Fw
set_option Elab.async false
set_option linter.all false
set_option maxRecDepth 100000
set_option maxHeartbeats 4000000
namespace K55
open PySem L2 RZ RT Fw
def top (i : Nat) : Stmt := PySem.Challenge.pw_fewasks_k55_pins_and_far_marks.main.body.getD i (.Pass ⟨0, 0, 0, 0⟩)
abbrev FnP (K : PySem.W.Frag) (x : Str) (st : Stmt) (f : Addr) (fd : FuncData) : Prop := FunD K x x (defArgs st) (defBody st) (defScope st) [] [] f fd
def cBody : Stmt → List Stmt
  | .ClassDef _ _ _ body .. => body
  | _ => []
abbrev s_House_marks : Stmt := (cBody (top 44)).getD 1 (.Pass ⟨0, 0, 0, 0⟩)
abbrev s_House_held : Stmt := (cBody (top 42)).getD 5 (.Pass ⟨0, 0, 0, 0⟩)
abbrev s_is_int : Stmt := top 17
abbrev s_Book_is_name : Stmt := (cBody (top 48)).getD 12 (.Pass ⟨0, 0, 0, 0⟩)
abbrev s_House_put : Stmt := (cBody (top 42)).getD 2 (.Pass ⟨0, 0, 0, 0⟩)
abbrev s_Book_init : Stmt := (cBody (top 48)).getD 0 (.Pass ⟨0, 0, 0, 0⟩)
abbrev s_Book_depth : Stmt := (cBody (top 48)).getD 16 (.Pass ⟨0, 0, 0, 0⟩)
abbrev s_Book_give_next : Stmt := (cBody (top 48)).getD 17 (.Pass ⟨0, 0, 0, 0⟩)
abbrev s_Book_has_kinds : Stmt := (cBody (top 48)).getD 15 (.Pass ⟨0, 0, 0, 0⟩)
abbrev s_is_label : Stmt := top 20
abbrev s_is_pair : Stmt := top 21
abbrev s_is_entry : Stmt := top 27
abbrev s_rises : Stmt := top 22
abbrev s_is_entries : Stmt := top 28
abbrev s_is_sign : Stmt := top 19
abbrev s_is_text : Stmt := top 18
abbrev s_is_row : Stmt := top 25
abbrev s_is_rows : Stmt := top 26
abbrev s_is_ints : Stmt := top 23
abbrev s_is_rising : Stmt := top 24
abbrev s_is_stamp : Stmt := top 29
abbrev s_is_version_form : Stmt := top 30
abbrev s_is_content_form : Stmt := top 31
abbrev s_Book_is_content : Stmt := (cBody (top 48)).getD 14 (.Pass ⟨0, 0, 0, 0⟩)
abbrev s_Book_named : Stmt := (cBody (top 48)).getD 2 (.Pass ⟨0, 0, 0, 0⟩)
abbrev s_l_book : Stmt := top 56
abbrev s_l_deck : Stmt := top 50
abbrev s_l_mixed : Stmt := top 51
abbrev s_l_draw : Stmt := top 52
abbrev s_Lack_init : Stmt := (cBody (top 7)).getD 0 (.Pass ⟨0, 0, 0, 0⟩)
abbrev s_House_holds : Stmt := (cBody (top 42)).getD 4 (.Pass ⟨0, 0, 0, 0⟩)
abbrev s_Book_is_version : Stmt := (cBody (top 48)).getD 13 (.Pass ⟨0, 0, 0, 0⟩)
abbrev s_NoName_init : Stmt := (cBody (top 4)).getD 0 (.Pass ⟨0, 0, 0, 0⟩)
abbrev s_check_versionsX : Stmt := top 34
abbrev s_check_held_versionH : Stmt := top 35
abbrev s_House_set_far : Stmt := (cBody (top 44)).getD 8 (.Pass ⟨0, 0, 0, 0⟩)
abbrev s_l_far_set : Stmt := top 66
abbrev s_l_label : Stmt := top 53
abbrev s_l_name55 : Stmt := top 63
abbrev s_l_int : Stmt := top 58
abbrev s_l_same : Stmt := top 59
abbrev s_l_is_version : Stmt := top 61
abbrev s_l_version_due : Stmt := top 68
abbrev s_l_far_deed : Stmt := top 72
abbrev s_l_here55 : Stmt := top 60
abbrev s_Store_initH : Stmt := (cBody (top 42)).getD 0 (.Pass ⟨0, 0, 0, 0⟩)
abbrev s_House_initF : Stmt := (cBody (top 44)).getD 0 (.Pass ⟨0, 0, 0, 0⟩)
abbrev s_l_house55 : Stmt := top 57
abbrev s_Pin_let_go : Stmt := (cBody (top 38)).getD 4 (.Pass ⟨0, 0, 0, 0⟩)
abbrev s_check_held : Stmt := top 37
abbrev s_Pin_add : Stmt := (cBody (top 38)).getD 3 (.Pass ⟨0, 0, 0, 0⟩)
abbrev s_l_added : Stmt := top 65
abbrev s_l_names_due : Stmt := top 67
abbrev s_Pin_init : Stmt := (cBody (top 38)).getD 0 (.Pass ⟨0, 0, 0, 0⟩)
abbrev s_House_pin : Stmt := (cBody (top 44)).getD 9 (.Pass ⟨0, 0, 0, 0⟩)
abbrev s_l_pinned : Stmt := top 64
abbrev s_l_pin_deed : Stmt := top 71
abbrev s_House_far : Stmt := (cBody (top 44)).getD 7 (.Pass ⟨0, 0, 0, 0⟩)
abbrev s_Pin_names : Stmt := (cBody (top 38)).getD 2 (.Pass ⟨0, 0, 0, 0⟩)
abbrev s_House_roots : Stmt := (cBody (top 44)).getD 10 (.Pass ⟨0, 0, 0, 0⟩)
abbrev s_Pin_len : Stmt := (cBody (top 38)).getD 1 (.Pass ⟨0, 0, 0, 0⟩)
abbrev s_l_roots55 : Stmt := top 69
abbrev s_l_pins_right : Stmt := top 70
abbrev s_l_give : Stmt := top 54
abbrev s_l_some : Stmt := top 55
abbrev s_l_scene : Stmt := top 62
abbrev s_law : Stmt := top 73
def d_House_marks : He.DefD := ⟨("House", some "marks"), "marks", "House.marks", defArgs s_House_marks, defBody s_House_marks, defScope s_House_marks, [], []⟩
def d_House_held : He.DefD := ⟨("Store", some "held"), "held", "Store.held", defArgs s_House_held, defBody s_House_held, defScope s_House_held, [], []⟩
def d_is_int : He.DefD := ⟨("is_int", none), "is_int", "is_int", defArgs s_is_int, defBody s_is_int, defScope s_is_int, [], []⟩
def d_Book_is_name : He.DefD := ⟨("Book", some "is_name"), "is_name", "Book.is_name", defArgs s_Book_is_name, defBody s_Book_is_name, defScope s_Book_is_name, [], []⟩
def d_House_put : He.DefD := ⟨("Store", some "put"), "put", "Store.put", defArgs s_House_put, defBody s_House_put, defScope s_House_put, [], []⟩
def d_Book_init : He.DefD := ⟨("Book", some "__init__"), "__init__", "Book.__init__", defArgs s_Book_init, defBody s_Book_init, defScope s_Book_init, [], []⟩
def d_Book_depth : He.DefD := ⟨("Book", some "depth"), "depth", "Book.depth", defArgs s_Book_depth, defBody s_Book_depth, defScope s_Book_depth, [], []⟩
def d_Book_give_next : He.DefD := ⟨("Book", some "give_next"), "give_next", "Book.give_next", defArgs s_Book_give_next, defBody s_Book_give_next, defScope s_Book_give_next, [], []⟩
def d_Book_has_kinds : He.DefD := ⟨("Book", some "has_kinds"), "has_kinds", "Book.has_kinds", defArgs s_Book_has_kinds, defBody s_Book_has_kinds, defScope s_Book_has_kinds, [], []⟩
def d_is_label : He.DefD := ⟨("is_label", none), "is_label", "is_label", defArgs s_is_label, defBody s_is_label, defScope s_is_label, [], []⟩
def d_is_pair : He.DefD := ⟨("is_pair", none), "is_pair", "is_pair", defArgs s_is_pair, defBody s_is_pair, defScope s_is_pair, [], []⟩
def d_is_entry : He.DefD := ⟨("is_entry", none), "is_entry", "is_entry", defArgs s_is_entry, defBody s_is_entry, defScope s_is_entry, [], []⟩
def d_rises : He.DefD := ⟨("rises", none), "rises", "rises", defArgs s_rises, defBody s_rises, defScope s_rises, [], []⟩
def d_is_entries : He.DefD := ⟨("is_entries", none), "is_entries", "is_entries", defArgs s_is_entries, defBody s_is_entries, defScope s_is_entries, [], []⟩
def d_is_sign : He.DefD := ⟨("is_sign", none), "is_sign", "is_sign", defArgs s_is_sign, defBody s_is_sign, defScope s_is_sign, [], []⟩
def d_is_text : He.DefD := ⟨("is_text", none), "is_text", "is_text", defArgs s_is_text, defBody s_is_text, defScope s_is_text, [], []⟩
def d_is_row : He.DefD := ⟨("is_row", none), "is_row", "is_row", defArgs s_is_row, defBody s_is_row, defScope s_is_row, [], []⟩
def d_is_rows : He.DefD := ⟨("is_rows", none), "is_rows", "is_rows", defArgs s_is_rows, defBody s_is_rows, defScope s_is_rows, [], []⟩
def d_is_ints : He.DefD := ⟨("is_ints", none), "is_ints", "is_ints", defArgs s_is_ints, defBody s_is_ints, defScope s_is_ints, [], []⟩
def d_is_rising : He.DefD := ⟨("is_rising", none), "is_rising", "is_rising", defArgs s_is_rising, defBody s_is_rising, defScope s_is_rising, [], []⟩
def d_is_stamp : He.DefD := ⟨("is_stamp", none), "is_stamp", "is_stamp", defArgs s_is_stamp, defBody s_is_stamp, defScope s_is_stamp, [], []⟩
def d_is_version_form : He.DefD := ⟨("is_version_form", none), "is_version_form", "is_version_form", defArgs s_is_version_form, defBody s_is_version_form, defScope s_is_version_form, [], []⟩
def d_is_content_form : He.DefD := ⟨("is_content_form", none), "is_content_form", "is_content_form", defArgs s_is_content_form, defBody s_is_content_form, defScope s_is_content_form, [], []⟩
def d_Book_is_content : He.DefD := ⟨("Book", some "is_content"), "is_content", "Book.is_content", defArgs s_Book_is_content, defBody s_Book_is_content, defScope s_Book_is_content, [], []⟩
def d_Book_named : He.DefD := ⟨("Book", some "named"), "named", "Book.named", defArgs s_Book_named, defBody s_Book_named, defScope s_Book_named, [], []⟩
def d_l_book : He.DefD := ⟨("_law_book", none), "_law_book", "_law_book", defArgs s_l_book, defBody s_l_book, defScope s_l_book, [], []⟩
def d_l_deck : He.DefD := ⟨("_law_deck", none), "_law_deck", "_law_deck", defArgs s_l_deck, defBody s_l_deck, defScope s_l_deck, [], []⟩
def d_l_mixed : He.DefD := ⟨("_law_mixed", none), "_law_mixed", "_law_mixed", defArgs s_l_mixed, defBody s_l_mixed, defScope s_l_mixed, [], []⟩
def d_l_draw : He.DefD := ⟨("_law_draw", none), "_law_draw", "_law_draw", defArgs s_l_draw, defBody s_l_draw, defScope s_l_draw, [], []⟩
def d_Lack_init : He.DefD := ⟨("Lack", some "__init__"), "__init__", "Lack.__init__", defArgs s_Lack_init, defBody s_Lack_init, defScope s_Lack_init, [], []⟩
def d_House_holds : He.DefD := ⟨("Store", some "holds"), "holds", "Store.holds", defArgs s_House_holds, defBody s_House_holds, defScope s_House_holds, [], []⟩
def d_Book_is_version : He.DefD := ⟨("Book", some "is_version"), "is_version", "Book.is_version", defArgs s_Book_is_version, defBody s_Book_is_version, defScope s_Book_is_version, [], []⟩
def d_NoName_init : He.DefD := ⟨("NoName", some "__init__"), "__init__", "NoName.__init__", defArgs s_NoName_init, defBody s_NoName_init, defScope s_NoName_init, [], []⟩
def d_check_versionsX : He.DefD := ⟨("check_versions", none), "check_versions", "check_versions", defArgs s_check_versionsX, defBody s_check_versionsX, defScope s_check_versionsX, [], []⟩
def d_check_held_versionH : He.DefD := ⟨("check_held_version", none), "check_held_version", "check_held_version", defArgs s_check_held_versionH, defBody s_check_held_versionH, defScope s_check_held_versionH, [], []⟩
def d_House_set_far : He.DefD := ⟨("House", some "set_far"), "set_far", "House.set_far", defArgs s_House_set_far, defBody s_House_set_far, defScope s_House_set_far, [], []⟩
def d_l_far_set : He.DefD := ⟨("_law_far_set", none), "_law_far_set", "_law_far_set", defArgs s_l_far_set, defBody s_l_far_set, defScope s_l_far_set, [], []⟩
def d_l_label : He.DefD := ⟨("_law_label", none), "_law_label", "_law_label", defArgs s_l_label, defBody s_l_label, defScope s_l_label, [], []⟩
def d_l_name55 : He.DefD := ⟨("_law_name", none), "_law_name", "_law_name", defArgs s_l_name55, defBody s_l_name55, defScope s_l_name55, [], []⟩
def d_l_int : He.DefD := ⟨("_law_int", none), "_law_int", "_law_int", defArgs s_l_int, defBody s_l_int, defScope s_l_int, [], []⟩
def d_l_same : He.DefD := ⟨("_law_same", none), "_law_same", "_law_same", defArgs s_l_same, defBody s_l_same, defScope s_l_same, [], []⟩
def d_l_is_version : He.DefD := ⟨("_law_is_version", none), "_law_is_version", "_law_is_version", defArgs s_l_is_version, defBody s_l_is_version, defScope s_l_is_version, [], []⟩
def d_l_version_due : He.DefD := ⟨("_law_version_due", none), "_law_version_due", "_law_version_due", defArgs s_l_version_due, defBody s_l_version_due, defScope s_l_version_due, [], []⟩
def d_l_far_deed : He.DefD := ⟨("_law_far_deed", none), "_law_far_deed", "_law_far_deed", defArgs s_l_far_deed, defBody s_l_far_deed, defScope s_l_far_deed, [], []⟩
def d_l_here55 : He.DefD := ⟨("_law_here", none), "_law_here", "_law_here", defArgs s_l_here55, defBody s_l_here55, defScope s_l_here55, [], []⟩
def d_Store_initH : He.DefD := ⟨("Store", some "__init__"), "__init__", "Store.__init__", defArgs s_Store_initH, defBody s_Store_initH, defScope s_Store_initH, [], []⟩
def d_House_initF : He.DefD := ⟨("House", some "__init__"), "__init__", "House.__init__", defArgs s_House_initF, defBody s_House_initF, defScope s_House_initF, [], []⟩
def d_l_house55 : He.DefD := ⟨("_law_house", none), "_law_house", "_law_house", defArgs s_l_house55, defBody s_l_house55, defScope s_l_house55, [], []⟩
def d_Pin_let_go : He.DefD := ⟨("Pin", some "let_go"), "let_go", "Pin.let_go", defArgs s_Pin_let_go, defBody s_Pin_let_go, defScope s_Pin_let_go, [], []⟩
def d_check_held : He.DefD := ⟨("check_held", none), "check_held", "check_held", defArgs s_check_held, defBody s_check_held, defScope s_check_held, [], []⟩
def d_Pin_add : He.DefD := ⟨("Pin", some "add"), "add", "Pin.add", defArgs s_Pin_add, defBody s_Pin_add, defScope s_Pin_add, [], []⟩
def d_l_added : He.DefD := ⟨("_law_added", none), "_law_added", "_law_added", defArgs s_l_added, defBody s_l_added, defScope s_l_added, [], []⟩
def d_l_names_due : He.DefD := ⟨("_law_names_due", none), "_law_names_due", "_law_names_due", defArgs s_l_names_due, defBody s_l_names_due, defScope s_l_names_due, [], []⟩
def d_Pin_init : He.DefD := ⟨("Pin", some "__init__"), "__init__", "Pin.__init__", defArgs s_Pin_init, defBody s_Pin_init, defScope s_Pin_init, [], []⟩
def d_House_pin : He.DefD := ⟨("House", some "pin"), "pin", "House.pin", defArgs s_House_pin, defBody s_House_pin, defScope s_House_pin, [], []⟩
def d_l_pinned : He.DefD := ⟨("_law_pinned", none), "_law_pinned", "_law_pinned", defArgs s_l_pinned, defBody s_l_pinned, defScope s_l_pinned, [], []⟩
def d_l_pin_deed : He.DefD := ⟨("_law_pin_deed", none), "_law_pin_deed", "_law_pin_deed", defArgs s_l_pin_deed, defBody s_l_pin_deed, defScope s_l_pin_deed, [], []⟩
def d_House_far : He.DefD := ⟨("House", some "far"), "far", "House.far", defArgs s_House_far, defBody s_House_far, defScope s_House_far, [], []⟩
def d_Pin_names : He.DefD := ⟨("Pin", some "names"), "names", "Pin.names", defArgs s_Pin_names, defBody s_Pin_names, defScope s_Pin_names, [], []⟩
def d_House_roots : He.DefD := ⟨("House", some "roots"), "roots", "House.roots", defArgs s_House_roots, defBody s_House_roots, defScope s_House_roots, [], []⟩
def d_Pin_len : He.DefD := ⟨("Pin", some "__len__"), "__len__", "Pin.__len__", defArgs s_Pin_len, defBody s_Pin_len, defScope s_Pin_len, [], []⟩
def d_l_roots55 : He.DefD := ⟨("_law_roots", none), "_law_roots", "_law_roots", defArgs s_l_roots55, defBody s_l_roots55, defScope s_l_roots55, [], []⟩
def d_l_pins_right : He.DefD := ⟨("_law_pins_right", none), "_law_pins_right", "_law_pins_right", defArgs s_l_pins_right, defBody s_l_pins_right, defScope s_l_pins_right, [], []⟩
def d_l_give : He.DefD := ⟨("_law_give", none), "_law_give", "_law_give", defArgs s_l_give, defBody s_l_give, defScope s_l_give, [], []⟩
def d_l_some : He.DefD := ⟨("_law_some", none), "_law_some", "_law_some", defArgs s_l_some, defBody s_l_some, defScope s_l_some, [], []⟩
def d_l_scene : He.DefD := ⟨("_law_scene", none), "_law_scene", "_law_scene", defArgs s_l_scene, defBody s_l_scene, defScope s_l_scene, [], []⟩
def d_law : He.DefD := ⟨("law", none), "law", "law", defArgs s_law, defBody s_law, defScope s_law, [], []⟩
def fn : List He.DefD := [d_House_marks, d_House_held, d_is_int, d_Book_is_name, d_House_put, d_Book_init, d_Book_depth, d_Book_give_next, d_Book_has_kinds, d_is_label, d_is_pair, d_is_entry, d_rises, d_is_entries, d_is_sign, d_is_text, d_is_row, d_is_rows, d_is_ints, d_is_rising, d_is_stamp, d_is_version_form, d_is_content_form, d_Book_is_content, d_Book_named, d_l_book, d_l_deck, d_l_mixed, d_l_draw, d_Lack_init, d_House_holds, d_Book_is_version, d_NoName_init, d_check_versionsX, d_check_held_versionH, d_House_set_far, d_l_far_set, d_l_label, d_l_name55, d_l_int, d_l_same, d_l_is_version, d_l_version_due, d_l_far_deed, d_l_here55, d_Store_initH, d_House_initF, d_l_house55, d_Pin_let_go, d_check_held, d_Pin_add, d_l_added, d_l_names_due, d_Pin_init, d_House_pin, d_l_pinned, d_l_pin_deed, d_House_far, d_Pin_names, d_House_roots, d_Pin_len, d_l_roots55, d_l_pins_right, d_l_give, d_l_some, d_l_scene, d_law]
def fa : List He.Fa := [.glo "is_int", .glo "is_label", .glo "is_pair", .glo "is_entry", .glo "rises", .glo "is_entries", .glo "is_sign", .glo "is_text", .glo "is_row", .glo "is_rows", .glo "is_ints", .glo "is_rising", .glo "is_stamp", .glo "is_version_form", .glo "is_content_form", .glo "_law_book", .glo "_law_deck", .glo "_law_mixed", .glo "_law_draw", .glo "check_versions", .glo "check_held_version", .glo "_law_far_set", .glo "_law_label", .glo "_law_name", .glo "_law_int", .glo "_law_same", .glo "_law_is_version", .glo "_law_version_due", .glo "_law_far_deed", .glo "_law_here", .glo "_law_house", .glo "check_held", .glo "_law_added", .glo "_law_names_due", .glo "_law_pinned", .glo "_law_pin_deed", .glo "_law_roots", .glo "_law_pins_right", .glo "_law_give", .glo "_law_some", .glo "_law_scene", .glo "law", .free "ValueError", .free "all", .free "bool", .free "dict", .free "int", .free "isinstance", .free "len", .free "list", .free "max", .free "min", .free "ord", .free "range", .free "set", .free "sorted", .free "str", .free "tuple", .free "zip", .int "ALL" 400, .int "BARRED_SIGN" 37, .int "DEEPEST" 8, .int "LAST_STAMP" 1000000000000000000, .int "LONGEST_LABEL" 8, .int "MOST" 400, .int "MOST_ENTRIES" 20, .int "MOST_PARENTS" 4, .int "MOST_ROWS" 40, .int "MOST_SIGNS" 40, .glo "Book", .glo "Store", .glo "House", .glo "Pin", .glo "HouseError", .glo "NoName", .glo "Lack", .glo "LetGo", .exc "LetGo", .cls "House", .noat "House" "book", .noat "House" "inside", .noat "House" "many_changes", .noat "House" "standing", .noat "House" "last_moves", .noat "House" "far_standing", .noat "House" "pinned", .meth "House" "marks", .meth "House" "set_far", .meth "House" "pin", .meth "House" "far", .meth "House" "roots", .mkr "House", .cls "Store", .meth "Store" "held", .meth "Store" "put", .meth "Store" "holds", .mkr "Store", .cls "Book", .noat "Book" "contents", .noat "Book" "depths", .noat "Book" "given", .meth "Book" "is_name", .meth "Book" "depth", .meth "Book" "give_next", .meth "Book" "has_kinds", .meth "Book" "is_content", .meth "Book" "named", .meth "Book" "is_version", .mkr "Book", .cls "Pin", .noat "Pin" "home", .noat "Pin" "inside", .noat "Pin" "is_let_go", .meth "Pin" "let_go", .meth "Pin" "add", .meth "Pin" "names", .meth "Pin" "__len__", .mkr "Pin"]
abbrev R : PySem.W.OpenRow := PySem.W.OpenLaw.row PySem.Challenge.rw_fewasks_k55_pins_and_far_marks
abbrev hk : PySem.W.Hook := Fw.hookY 4 fa fn Fw.k55B
def ob (s : PySem.W.SharedT) : Fw.AlY := Fw.obsYG 4 fa fn Fw.k55B (HandSHeadRun.getT s)
theorem ob_eq (s : PySem.W.SharedT) : ob s = hk.obs s.abs := Fw.obsYG_eq (HandSHeadRun.getT_eq s)
def loose : List Str := [("_wall" : Str), ("HouseError" : Str), ("NoThing" : Str), ("NoName" : Str), ("TooMany" : Str), ("NoMark" : Str), ("Lack" : Str), ("LetGo" : Str), ("is_int" : Str), ("is_text" : Str), ("is_sign" : Str), ("is_label" : Str), ("is_pair" : Str), ("rises" : Str), ("is_ints" : Str), ("is_rising" : Str), ("is_row" : Str), ("is_rows" : Str), ("is_entry" : Str), ("is_entries" : Str), ("is_stamp" : Str), ("is_version_form" : Str), ("is_content_form" : Str), ("check_versions" : Str), ("check_held_version" : Str), ("check_held" : Str), ("Pin" : Str), ("Holding" : Str), ("Store" : Str), ("House" : Str), ("Book" : Str), ("_law_deck" : Str), ("_law_mixed" : Str), ("_law_draw" : Str), ("_law_label" : Str), ("_law_give" : Str), ("_law_some" : Str), ("_law_book" : Str), ("_law_house" : Str), ("_law_int" : Str), ("_law_same" : Str), ("_law_here" : Str), ("_law_is_version" : Str), ("_law_scene" : Str), ("_law_name" : Str), ("_law_pinned" : Str), ("_law_added" : Str), ("_law_far_set" : Str), ("_law_names_due" : Str), ("_law_version_due" : Str), ("_law_roots" : Str), ("_law_pins_right" : Str), ("_law_pin_deed" : Str), ("_law_far_deed" : Str), ("ALL" : Str), ("BARRED_SIGN" : Str), ("DEEPEST" : Str), ("LAST_STAMP" : Str), ("LONGEST_LABEL" : Str), ("MOST" : Str), ("MOST_ENTRIES" : Str), ("MOST_PARENTS" : Str), ("MOST_ROWS" : Str), ("MOST_SIGNS" : Str)]
noncomputable section HD0
open PySem.W PySem.Calls PyProof.Rows HandSHeadRun
def cm (i j : Nat) : Stmt := (cBody (top i)).getD j (.Pass ⟨0, 0, 0, 0⟩)
def bd : List Stmt := behindTheImports R.prog
def ev : Env := { scope := R.prog.main.scope, locals := 3, globals := 3, cells := [], qual := "", func := none, code := .ref 13, frame := some (14), builtins := 0 }
abbrev cB : Code := .body bd ev
abbrev qB : Pos := ⟨0, 0, 0, 0⟩
abbrev an : Option Value := some (.ref 6)
def ob0 (P : Params) : Obj := ⟨.type "tuple", none, .seq #[] 0, #[]⟩
def ob1 (P : Params) : Obj := ⟨.none, none, .fields #[], #[]⟩
def ob2 (P : Params) : Obj := ⟨.type "code", none, .fields #[.str "<module>" 182, .str "<module>" 183, .str "/claim/cut.py" 184, .int 1 0, .int 0 0, .int 0 0, .int 0 0, .int 0 0, .ref 11, .bool false, .int 181 0, .ref 12, .none, .none, .none, .none, .int 185 0, .int 1 0, .str "/claim/cut.py" 186], #[]⟩
def ob3 (P : Params) : Obj := ⟨.type "frame", none, .plain, #[some (.ref 13), some (.ref 3), some (.ref 3), none, some (.str "__main__" 164), none, some (.ref 0)]⟩
def tr0_0 (P : Params) : BT := SegH.insL ((SegH.tree0 P).1) [(11, ob0 P), (12, ob1 P), (13, ob2 P), (14, ob3 P)]
def st0 (w : World) (os : OsState) : SharedT := ⟨tr0_0 w.params, 15, { registered := [], finalised := [], alive := [], known := 0, ids := [], orphanDicts := [], counting := false, cnt := #[], zero := [], soft := 0, below := false, collecting := false, loading := false, debug := 0, thresholds := [2000, 10, 10], woke := false, asked := 0, gcEnabled := true, old := [], middle := [], young := 0, intoMiddle := false }, #[], ⟨0, 0, 0, 0⟩, 187, os⟩
def ob4 (P : Params) : Obj := ⟨.type "dict", none, .dict #[⟨PyData.keyHash P "__name__", .str "__name__" 165, .str "fewasks.store" 650⟩, ⟨PyData.keyHash P "__doc__", .str "__doc__" 166, .none⟩, ⟨PyData.keyHash P "__package__", .str "__package__" 167, .none⟩, ⟨PyData.keyHash P "__loader__", .str "__loader__" 168, .builtin "__main__.__loader__#opaque"⟩, ⟨PyData.keyHash P "__spec__", .str "__spec__" 169, .none⟩, ⟨PyData.keyHash P "__annotations__", .str "__annotations__" 170, .ref 6⟩, ⟨PyData.keyHash P "__builtins__", .str "__builtins__" 171, .ref 4⟩, ⟨PyData.keyHash P "__file__", .str "__file__" 173, .str "/claim/cut.py" 172⟩, ⟨PyData.keyHash P "__cached__", .str "__cached__" 174, .none⟩, ⟨PyData.keyHash P "_wall", .str "_wall" 193, .ref 21⟩, ⟨PyData.keyHash P "HouseError", .str "HouseError" 213, .ref 31⟩, ⟨PyData.keyHash P "NoThing", .str "NoThing" 229, .ref 44⟩, ⟨PyData.keyHash P "NoName", .str "NoName" 254, .ref 63⟩, ⟨PyData.keyHash P "TooMany", .str "TooMany" 270, .ref 75⟩, ⟨PyData.keyHash P "NoMark", .str "NoMark" 295, .ref 94⟩, ⟨PyData.keyHash P "Lack", .str "Lack" 320, .ref 113⟩, ⟨PyData.keyHash P "LetGo", .str "LetGo" 336, .ref 125⟩, ⟨PyData.keyHash P "MOST_ROWS", .str "MOST_ROWS" 340, .int 40 339⟩, ⟨PyData.keyHash P "MOST_SIGNS", .str "MOST_SIGNS" 342, .int 40 341⟩, ⟨PyData.keyHash P "MOST_ENTRIES", .str "MOST_ENTRIES" 344, .int 20 343⟩, ⟨PyData.keyHash P "MOST_PARENTS", .str "MOST_PARENTS" 346, .int 4 345⟩, ⟨PyData.keyHash P "LAST_STAMP", .str "LAST_STAMP" 350, .int 1000000000000000000 349⟩, ⟨PyData.keyHash P "LONGEST_LABEL", .str "LONGEST_LABEL" 352, .int 8 351⟩, ⟨PyData.keyHash P "BARRED_SIGN", .str "BARRED_SIGN" 354, .int 37 353⟩, ⟨PyData.keyHash P "is_int", .str "is_int" 361, .ref 134⟩, ⟨PyData.keyHash P "is_text", .str "is_text" 367, .ref 139⟩, ⟨PyData.keyHash P "is_sign", .str "is_sign" 374, .ref 146⟩, ⟨PyData.keyHash P "is_label", .str "is_label" 380, .ref 151⟩, ⟨PyData.keyHash P "is_pair", .str "is_pair" 387, .ref 158⟩, ⟨PyData.keyHash P "rises", .str "rises" 393, .ref 163⟩, ⟨PyData.keyHash P "is_ints", .str "is_ints" 399, .ref 168⟩, ⟨PyData.keyHash P "is_rising", .str "is_rising" 406, .ref 175⟩, ⟨PyData.keyHash P "is_row", .str "is_row" 413, .ref 182⟩, ⟨PyData.keyHash P "is_rows", .str "is_rows" 419, .ref 187⟩, ⟨PyData.keyHash P "is_entry", .str "is_entry" 426, .ref 194⟩, ⟨PyData.keyHash P "is_entries", .str "is_entries" 432, .ref 199⟩, ⟨PyData.keyHash P "is_stamp", .str "is_stamp" 439, .ref 206⟩, ⟨PyData.keyHash P "is_version_form", .str "is_version_form" 446, .ref 213⟩, ⟨PyData.keyHash P "is_content_form", .str "is_content_form" 453, .ref 220⟩, ⟨PyData.keyHash P "ALL", .str "ALL" 457, .int 400 456⟩, ⟨PyData.keyHash P "check_versions", .str "check_versions" 466, .ref 227⟩, ⟨PyData.keyHash P "check_held_version", .str "check_held_version" 474, .ref 234⟩, ⟨PyData.keyHash P "check_held", .str "check_held" 485, .ref 241⟩, ⟨PyData.keyHash P "Pin", .str "Pin" 543, .ref 284⟩, ⟨PyData.keyHash P "Holding", .str "Holding" 649, .ref 371⟩, ⟨PyData.keyHash P "Store", .str "Store" 735, .ref 441⟩] 46, #[]⟩
def ob5 (P : Params) : Obj := ⟨.none, none, .fields #[.int 1 0, .int 0 0, .ref 20, .int 5 0, .int 0 0, .ref 27, .int 7 0, .int 0 0, .ref 40, .int 9 0, .int 0 0, .ref 52, .int 14 0, .int 0 0, .ref 71, .int 16 0, .int 0 0, .ref 83, .int 21 0, .int 0 0, .ref 102, .int 26 0, .int 0 0, .ref 121, .int 36 0, .int 0 0, .ref 133, .int 38 0, .int 0 0, .ref 138, .int 40 0, .int 0 0, .ref 145, .int 42 0, .int 0 0, .ref 150, .int 46 0, .int 0 0, .ref 157, .int 48 0, .int 0 0, .ref 162, .int 50 0, .int 0 0, .ref 167, .int 52 0, .int 0 0, .ref 174, .int 54 0, .int 0 0, .ref 181, .int 56 0, .int 0 0, .ref 186, .int 58 0, .int 0 0, .ref 193, .int 60 0, .int 0 0, .ref 198, .int 64 0, .int 0 0, .ref 205, .int 66 0, .int 0 0, .ref 212, .int 70 0, .int 0 0, .ref 219, .int 80 0, .int 0 0, .ref 226, .int 84 0, .int 0 0, .ref 233, .int 89 0, .int 0 0, .ref 240, .int 96 0, .int 0 0, .ref 247, .int 120 0, .int 0 0, .ref 294, .int 160 0, .int 0 0, .ref 381], #[]⟩
def ob6 (P : Params) : Obj := ⟨.type "tuple", none, .seq #[] 0, #[]⟩
def ob7 (P : Params) : Obj := ⟨.none, none, .fields #[], #[]⟩
def ob8 (P : Params) : Obj := ⟨.type "tuple", none, .seq #[.str "k" 190] 0, #[]⟩
def ob9 (P : Params) : Obj := ⟨.type "tuple", none, .seq #[] 0, #[]⟩
def ob10 (P : Params) : Obj := ⟨.none, none, .func ⟨"_wall", "_wall", defArgs (top 0), .stmts (defBody (top 0)), defScope (top 0), 0, [], .none, .none, .none, .none, none, .none, .none, 0⟩, #[]⟩
def ob11 (P : Params) : Obj := ⟨.type "code", none, .fields #[.str "_wall" 187, .str "_wall" 188, .str "/claim/cut.py" 189, .int 1 0, .int 1 0, .int 0 0, .int 0 0, .int 3 0, .ref 15, .bool true, .int 181 0, .ref 16, .none, .ref 17, .ref 18, .ref 19, .int 191 0, .int 1 0, .str "/claim/cut.py" 192], #[]⟩
def ob12 (P : Params) : Obj := ⟨.type "function", none, .func ⟨"_wall", "_wall", defArgs (top 0), .stmts (defBody (top 0)), defScope (top 0), 3, [], .none, .none, .none, .str "__main__" 164, none, .ref 20, .none, 0⟩, #[]⟩
def ob13 (P : Params) : Obj := ⟨.type "tuple", none, .seq #[.type "ValueError"] 0, #[]⟩
def ob14 (P : Params) : Obj := ⟨.type "builtin_function_or_method", none, .fields #[.builtin "type.__prepare__", .type "type"], #[]⟩
def ob15 (P : Params) : Obj := ⟨.type "dict", none, .dict #[⟨PyData.keyHash P "__module__", .str "__module__" 203, .str "fewasks.errors" 194⟩, ⟨PyData.keyHash P "__qualname__", .str "__qualname__" 205, .str "HouseError" 204⟩, ⟨PyData.keyHash P "__firstlineno__", .str "__firstlineno__" 207, .int 5 206⟩, ⟨PyData.keyHash P "__static_attributes__", .str "__static_attributes__" 208, .ref 29⟩] 4, #[]⟩
def ob16 (P : Params) : Obj := ⟨.type "tuple", none, .seq #[] 0, #[]⟩
def ob17 (P : Params) : Obj := ⟨.none, none, .fields #[], #[]⟩
def ob18 (P : Params) : Obj := ⟨.type "code", none, .fields #[.str "HouseError" 198, .str "HouseError" 199, .str "/claim/cut.py" 200, .int 5 0, .int 0 0, .int 0 0, .int 0 0, .int 0 0, .ref 25, .bool false, .int 181 0, .ref 26, .none, .none, .none, .none, .int 201 0, .int 5 0, .str "/claim/cut.py" 202], #[]⟩
def ob19 (P : Params) : Obj := ⟨.type "frame", none, .plain, #[some (.ref 27), some (.ref 3), some (.ref 24), none, some (.str "fewasks.errors" 194), none, some (.ref 0)]⟩
def ob20 (P : Params) : Obj := ⟨.type "tuple", none, .seq #[] 0, #[]⟩
def ob21 (P : Params) : Obj := ⟨.type "dict", none, .dict #[⟨PyData.keyHash P "__module__", .str "__module__" 203, .str "fewasks.errors" 194⟩, ⟨PyData.keyHash P "__firstlineno__", .str "__firstlineno__" 207, .int 5 206⟩, ⟨PyData.keyHash P "__static_attributes__", .str "__static_attributes__" 208, .ref 29⟩, ⟨PyData.keyHash P "__weakref__", .str "__weakref__" 210, .ref 32⟩, ⟨PyData.keyHash P "__doc__", .str "__doc__" 211, .none⟩] 3, #[]⟩
def ob22 (P : Params) : Obj := ⟨.type "type", none, .cls ⟨"HouseError", [.type "ValueError"], [.ref 31, .type "ValueError", .type "Exception", .type "BaseException", .type "object"], 30, "HouseError", true, [], [.ref 44, .ref 63, .ref 75, .ref 94, .ref 113, .ref 125], false, none, false⟩, #[some (.ref 22), none, some (.str "HouseError" 196), some (.str "HouseError" 204), some (.builtin "ValueError.__new__"), some (.bool true)]⟩
def ob23 (P : Params) : Obj := ⟨.type "getset_descriptor", none, .fields #[.str "__weakref__" 209, .ref 31, .builtin "ExceptionGroup.__weakref__", .none], #[]⟩
def ob24 (P : Params) : Obj := ⟨.type "super", none, .fields #[.ref 31, .ref 31, .ref 31], #[]⟩
def ob25 (P : Params) : Obj := ⟨.type "builtin_function_or_method", none, .fields #[.builtin "object.__init_subclass__", .ref 31], #[]⟩
def ob26 (P : Params) : Obj := ⟨.type "tuple", none, .seq #[.ref 31] 0, #[]⟩
def ob27 (P : Params) : Obj := ⟨.type "builtin_function_or_method", none, .fields #[.builtin "type.__prepare__", .type "type"], #[]⟩
def ob28 (P : Params) : Obj := ⟨.type "dict", none, .dict #[⟨PyData.keyHash P "__module__", .str "__module__" 221, .str "fewasks.errors" 194⟩, ⟨PyData.keyHash P "__qualname__", .str "__qualname__" 223, .str "NoThing" 222⟩, ⟨PyData.keyHash P "__firstlineno__", .str "__firstlineno__" 225, .int 7 224⟩, ⟨PyData.keyHash P "__static_attributes__", .str "__static_attributes__" 226, .ref 42⟩] 4, #[]⟩
def ob29 (P : Params) : Obj := ⟨.type "tuple", none, .seq #[] 0, #[]⟩
def ob30 (P : Params) : Obj := ⟨.none, none, .fields #[], #[]⟩
def ob31 (P : Params) : Obj := ⟨.type "code", none, .fields #[.str "NoThing" 216, .str "NoThing" 217, .str "/claim/cut.py" 218, .int 7 0, .int 0 0, .int 0 0, .int 0 0, .int 0 0, .ref 38, .bool false, .int 181 0, .ref 39, .none, .none, .none, .none, .int 219 0, .int 7 0, .str "/claim/cut.py" 220], #[]⟩
def ob32 (P : Params) : Obj := ⟨.type "frame", none, .plain, #[some (.ref 40), some (.ref 3), some (.ref 37), none, some (.str "fewasks.errors" 194), none, some (.ref 0)]⟩
def ob33 (P : Params) : Obj := ⟨.type "tuple", none, .seq #[] 0, #[]⟩
def ob34 (P : Params) : Obj := ⟨.type "dict", none, .dict #[⟨PyData.keyHash P "__module__", .str "__module__" 221, .str "fewasks.errors" 194⟩, ⟨PyData.keyHash P "__firstlineno__", .str "__firstlineno__" 225, .int 7 224⟩, ⟨PyData.keyHash P "__static_attributes__", .str "__static_attributes__" 226, .ref 42⟩, ⟨PyData.keyHash P "__doc__", .str "__doc__" 227, .none⟩] 2, #[]⟩
def ob35 (P : Params) : Obj := ⟨.type "type", none, .cls ⟨"NoThing", [.ref 31], [.ref 44, .ref 31, .type "ValueError", .type "Exception", .type "BaseException", .type "object"], 43, "NoThing", true, [], [], false, none, false⟩, #[some (.ref 35), none, some (.str "NoThing" 214), some (.str "NoThing" 222), some (.builtin "ValueError.__new__"), some (.bool true)]⟩
def ob36 (P : Params) : Obj := ⟨.type "super", none, .fields #[.ref 44, .ref 44, .ref 44], #[]⟩
def ob37 (P : Params) : Obj := ⟨.type "builtin_function_or_method", none, .fields #[.builtin "object.__init_subclass__", .ref 44], #[]⟩
def ob38 (P : Params) : Obj := ⟨.type "tuple", none, .seq #[.ref 31] 0, #[]⟩
def ob39 (P : Params) : Obj := ⟨.type "builtin_function_or_method", none, .fields #[.builtin "type.__prepare__", .type "type"], #[]⟩
def ob40 (P : Params) : Obj := ⟨.type "dict", none, .dict #[⟨PyData.keyHash P "__module__", .str "__module__" 237, .str "fewasks.errors" 194⟩, ⟨PyData.keyHash P "__qualname__", .str "__qualname__" 239, .str "NoName" 238⟩, ⟨PyData.keyHash P "__firstlineno__", .str "__firstlineno__" 241, .int 9 240⟩, ⟨PyData.keyHash P "__init__", .str "__init__" 249, .ref 60⟩, ⟨PyData.keyHash P "__static_attributes__", .str "__static_attributes__" 251, .ref 61⟩] 5, #[]⟩
def ob41 (P : Params) : Obj := ⟨.type "tuple", none, .seq #[] 0, #[]⟩
def ob42 (P : Params) : Obj := ⟨.none, none, .fields #[.int 11 0, .int 4 0, .ref 59], #[]⟩
def ob43 (P : Params) : Obj := ⟨.type "code", none, .fields #[.str "NoName" 232, .str "NoName" 233, .str "/claim/cut.py" 234, .int 9 0, .int 0 0, .int 0 0, .int 0 0, .int 0 0, .ref 50, .bool false, .int 181 0, .ref 51, .none, .none, .none, .none, .int 235 0, .int 9 0, .str "/claim/cut.py" 236], #[]⟩
def ob44 (P : Params) : Obj := ⟨.type "frame", none, .plain, #[some (.ref 52), some (.ref 3), some (.ref 49), none, some (.str "fewasks.errors" 194), none, some (.ref 0)]⟩
def ob45 (P : Params) : Obj := ⟨.type "tuple", none, .seq #[] 0, #[]⟩
def ob46 (P : Params) : Obj := ⟨.none, none, .fields #[], #[]⟩
def ob47 (P : Params) : Obj := ⟨.type "tuple", none, .seq #[.str "self" 245, .str "name" 246] 0, #[]⟩
def ob48 (P : Params) : Obj := ⟨.type "tuple", none, .seq #[] 0, #[]⟩
def ob49 (P : Params) : Obj := ⟨.none, none, .func ⟨"__init__", "NoName.__init__", defArgs (cm 4 0), .stmts (defBody (cm 4 0)), defScope (cm 4 0), 0, [], .none, .none, .none, .none, none, .none, .none, 0⟩, #[]⟩
def ob50 (P : Params) : Obj := ⟨.type "code", none, .fields #[.str "__init__" 242, .str "NoName.__init__" 243, .str "/claim/cut.py" 244, .int 11 0, .int 2 0, .int 0 0, .int 0 0, .int 3 0, .ref 54, .bool true, .int 181 0, .ref 55, .none, .ref 56, .ref 57, .ref 58, .int 247 0, .int 11 0, .str "/claim/cut.py" 248], #[]⟩
def ob51 (P : Params) : Obj := ⟨.type "function", none, .func ⟨"__init__", "NoName.__init__", defArgs (cm 4 0), .stmts (defBody (cm 4 0)), defScope (cm 4 0), 3, [], .none, .none, .none, .str "fewasks.errors" 194, none, .ref 59, .none, 0⟩, #[]⟩
def ob52 (P : Params) : Obj := ⟨.type "tuple", none, .seq #[.str "name" 250] 0, #[]⟩
def ob53 (P : Params) : Obj := ⟨.type "dict", none, .dict #[⟨PyData.keyHash P "__module__", .str "__module__" 237, .str "fewasks.errors" 194⟩, ⟨PyData.keyHash P "__firstlineno__", .str "__firstlineno__" 241, .int 9 240⟩, ⟨PyData.keyHash P "__init__", .str "__init__" 249, .ref 60⟩, ⟨PyData.keyHash P "__static_attributes__", .str "__static_attributes__" 251, .ref 61⟩, ⟨PyData.keyHash P "__doc__", .str "__doc__" 252, .none⟩] 2, #[]⟩
def ob54 (P : Params) : Obj := ⟨.type "type", none, .cls ⟨"NoName", [.ref 31], [.ref 63, .ref 31, .type "ValueError", .type "Exception", .type "BaseException", .type "object"], 62, "NoName", true, [], [], false, none, false⟩, #[some (.ref 47), none, some (.str "NoName" 230), some (.str "NoName" 238), some (.builtin "ValueError.__new__"), some (.bool true)]⟩
def ob55 (P : Params) : Obj := ⟨.type "super", none, .fields #[.ref 63, .ref 63, .ref 63], #[]⟩
def ob56 (P : Params) : Obj := ⟨.type "builtin_function_or_method", none, .fields #[.builtin "object.__init_subclass__", .ref 63], #[]⟩
def ob57 (P : Params) : Obj := ⟨.type "tuple", none, .seq #[.ref 31] 0, #[]⟩
def ob58 (P : Params) : Obj := ⟨.type "builtin_function_or_method", none, .fields #[.builtin "type.__prepare__", .type "type"], #[]⟩
def ob59 (P : Params) : Obj := ⟨.type "dict", none, .dict #[⟨PyData.keyHash P "__module__", .str "__module__" 262, .str "fewasks.errors" 194⟩, ⟨PyData.keyHash P "__qualname__", .str "__qualname__" 264, .str "TooMany" 263⟩, ⟨PyData.keyHash P "__firstlineno__", .str "__firstlineno__" 266, .int 14 265⟩, ⟨PyData.keyHash P "__static_attributes__", .str "__static_attributes__" 267, .ref 73⟩] 4, #[]⟩
def ob60 (P : Params) : Obj := ⟨.type "tuple", none, .seq #[] 0, #[]⟩
def ob61 (P : Params) : Obj := ⟨.none, none, .fields #[], #[]⟩
def ob62 (P : Params) : Obj := ⟨.type "code", none, .fields #[.str "TooMany" 257, .str "TooMany" 258, .str "/claim/cut.py" 259, .int 14 0, .int 0 0, .int 0 0, .int 0 0, .int 0 0, .ref 69, .bool false, .int 181 0, .ref 70, .none, .none, .none, .none, .int 260 0, .int 14 0, .str "/claim/cut.py" 261], #[]⟩
def ob63 (P : Params) : Obj := ⟨.type "frame", none, .plain, #[some (.ref 71), some (.ref 3), some (.ref 68), none, some (.str "fewasks.errors" 194), none, some (.ref 0)]⟩
def ob64 (P : Params) : Obj := ⟨.type "tuple", none, .seq #[] 0, #[]⟩
def ob65 (P : Params) : Obj := ⟨.type "dict", none, .dict #[⟨PyData.keyHash P "__module__", .str "__module__" 262, .str "fewasks.errors" 194⟩, ⟨PyData.keyHash P "__firstlineno__", .str "__firstlineno__" 266, .int 14 265⟩, ⟨PyData.keyHash P "__static_attributes__", .str "__static_attributes__" 267, .ref 73⟩, ⟨PyData.keyHash P "__doc__", .str "__doc__" 268, .none⟩] 2, #[]⟩
def ob66 (P : Params) : Obj := ⟨.type "type", none, .cls ⟨"TooMany", [.ref 31], [.ref 75, .ref 31, .type "ValueError", .type "Exception", .type "BaseException", .type "object"], 74, "TooMany", true, [], [], false, none, false⟩, #[some (.ref 66), none, some (.str "TooMany" 255), some (.str "TooMany" 263), some (.builtin "ValueError.__new__"), some (.bool true)]⟩
def ob67 (P : Params) : Obj := ⟨.type "super", none, .fields #[.ref 75, .ref 75, .ref 75], #[]⟩
def ob68 (P : Params) : Obj := ⟨.type "builtin_function_or_method", none, .fields #[.builtin "object.__init_subclass__", .ref 75], #[]⟩
def ob69 (P : Params) : Obj := ⟨.type "tuple", none, .seq #[.ref 31] 0, #[]⟩
def ob70 (P : Params) : Obj := ⟨.type "builtin_function_or_method", none, .fields #[.builtin "type.__prepare__", .type "type"], #[]⟩
def ob71 (P : Params) : Obj := ⟨.type "dict", none, .dict #[⟨PyData.keyHash P "__module__", .str "__module__" 278, .str "fewasks.errors" 194⟩, ⟨PyData.keyHash P "__qualname__", .str "__qualname__" 280, .str "NoMark" 279⟩, ⟨PyData.keyHash P "__firstlineno__", .str "__firstlineno__" 282, .int 16 281⟩, ⟨PyData.keyHash P "__init__", .str "__init__" 290, .ref 91⟩, ⟨PyData.keyHash P "__static_attributes__", .str "__static_attributes__" 292, .ref 92⟩] 5, #[]⟩
def ob72 (P : Params) : Obj := ⟨.type "tuple", none, .seq #[] 0, #[]⟩
def ob73 (P : Params) : Obj := ⟨.none, none, .fields #[.int 18 0, .int 4 0, .ref 90], #[]⟩
def ob74 (P : Params) : Obj := ⟨.type "code", none, .fields #[.str "NoMark" 273, .str "NoMark" 274, .str "/claim/cut.py" 275, .int 16 0, .int 0 0, .int 0 0, .int 0 0, .int 0 0, .ref 81, .bool false, .int 181 0, .ref 82, .none, .none, .none, .none, .int 276 0, .int 16 0, .str "/claim/cut.py" 277], #[]⟩
def ob75 (P : Params) : Obj := ⟨.type "frame", none, .plain, #[some (.ref 83), some (.ref 3), some (.ref 80), none, some (.str "fewasks.errors" 194), none, some (.ref 0)]⟩
def ob76 (P : Params) : Obj := ⟨.type "tuple", none, .seq #[] 0, #[]⟩
def ob77 (P : Params) : Obj := ⟨.none, none, .fields #[], #[]⟩
def ob78 (P : Params) : Obj := ⟨.type "tuple", none, .seq #[.str "self" 286, .str "mark" 287] 0, #[]⟩
def ob79 (P : Params) : Obj := ⟨.type "tuple", none, .seq #[] 0, #[]⟩
def ob80 (P : Params) : Obj := ⟨.none, none, .func ⟨"__init__", "NoMark.__init__", defArgs (cm 6 0), .stmts (defBody (cm 6 0)), defScope (cm 6 0), 0, [], .none, .none, .none, .none, none, .none, .none, 0⟩, #[]⟩
def ob81 (P : Params) : Obj := ⟨.type "code", none, .fields #[.str "__init__" 283, .str "NoMark.__init__" 284, .str "/claim/cut.py" 285, .int 18 0, .int 2 0, .int 0 0, .int 0 0, .int 3 0, .ref 85, .bool true, .int 181 0, .ref 86, .none, .ref 87, .ref 88, .ref 89, .int 288 0, .int 18 0, .str "/claim/cut.py" 289], #[]⟩
def ob82 (P : Params) : Obj := ⟨.type "function", none, .func ⟨"__init__", "NoMark.__init__", defArgs (cm 6 0), .stmts (defBody (cm 6 0)), defScope (cm 6 0), 3, [], .none, .none, .none, .str "fewasks.errors" 194, none, .ref 90, .none, 0⟩, #[]⟩
def ob83 (P : Params) : Obj := ⟨.type "tuple", none, .seq #[.str "mark" 291] 0, #[]⟩
def ob84 (P : Params) : Obj := ⟨.type "dict", none, .dict #[⟨PyData.keyHash P "__module__", .str "__module__" 278, .str "fewasks.errors" 194⟩, ⟨PyData.keyHash P "__firstlineno__", .str "__firstlineno__" 282, .int 16 281⟩, ⟨PyData.keyHash P "__init__", .str "__init__" 290, .ref 91⟩, ⟨PyData.keyHash P "__static_attributes__", .str "__static_attributes__" 292, .ref 92⟩, ⟨PyData.keyHash P "__doc__", .str "__doc__" 293, .none⟩] 2, #[]⟩
def ob85 (P : Params) : Obj := ⟨.type "type", none, .cls ⟨"NoMark", [.ref 31], [.ref 94, .ref 31, .type "ValueError", .type "Exception", .type "BaseException", .type "object"], 93, "NoMark", true, [], [], false, none, false⟩, #[some (.ref 78), none, some (.str "NoMark" 271), some (.str "NoMark" 279), some (.builtin "ValueError.__new__"), some (.bool true)]⟩
def ob86 (P : Params) : Obj := ⟨.type "super", none, .fields #[.ref 94, .ref 94, .ref 94], #[]⟩
def ob87 (P : Params) : Obj := ⟨.type "builtin_function_or_method", none, .fields #[.builtin "object.__init_subclass__", .ref 94], #[]⟩
def ob88 (P : Params) : Obj := ⟨.type "tuple", none, .seq #[.ref 31] 0, #[]⟩
def ob89 (P : Params) : Obj := ⟨.type "builtin_function_or_method", none, .fields #[.builtin "type.__prepare__", .type "type"], #[]⟩
def ob90 (P : Params) : Obj := ⟨.type "dict", none, .dict #[⟨PyData.keyHash P "__module__", .str "__module__" 303, .str "fewasks.errors" 194⟩, ⟨PyData.keyHash P "__qualname__", .str "__qualname__" 305, .str "Lack" 304⟩, ⟨PyData.keyHash P "__firstlineno__", .str "__firstlineno__" 307, .int 21 306⟩, ⟨PyData.keyHash P "__init__", .str "__init__" 315, .ref 110⟩, ⟨PyData.keyHash P "__static_attributes__", .str "__static_attributes__" 317, .ref 111⟩] 5, #[]⟩
def ob91 (P : Params) : Obj := ⟨.type "tuple", none, .seq #[] 0, #[]⟩
def ob92 (P : Params) : Obj := ⟨.none, none, .fields #[.int 23 0, .int 4 0, .ref 109], #[]⟩
def ob93 (P : Params) : Obj := ⟨.type "code", none, .fields #[.str "Lack" 298, .str "Lack" 299, .str "/claim/cut.py" 300, .int 21 0, .int 0 0, .int 0 0, .int 0 0, .int 0 0, .ref 100, .bool false, .int 181 0, .ref 101, .none, .none, .none, .none, .int 301 0, .int 21 0, .str "/claim/cut.py" 302], #[]⟩
def ob94 (P : Params) : Obj := ⟨.type "frame", none, .plain, #[some (.ref 102), some (.ref 3), some (.ref 99), none, some (.str "fewasks.errors" 194), none, some (.ref 0)]⟩
def ob95 (P : Params) : Obj := ⟨.type "tuple", none, .seq #[] 0, #[]⟩
def ob96 (P : Params) : Obj := ⟨.none, none, .fields #[], #[]⟩
def ob97 (P : Params) : Obj := ⟨.type "tuple", none, .seq #[.str "self" 311, .str "name" 312] 0, #[]⟩
def ob98 (P : Params) : Obj := ⟨.type "tuple", none, .seq #[] 0, #[]⟩
def ob99 (P : Params) : Obj := ⟨.none, none, .func ⟨"__init__", "Lack.__init__", defArgs (cm 7 0), .stmts (defBody (cm 7 0)), defScope (cm 7 0), 0, [], .none, .none, .none, .none, none, .none, .none, 0⟩, #[]⟩
def ob100 (P : Params) : Obj := ⟨.type "code", none, .fields #[.str "__init__" 308, .str "Lack.__init__" 309, .str "/claim/cut.py" 310, .int 23 0, .int 2 0, .int 0 0, .int 0 0, .int 3 0, .ref 104, .bool true, .int 181 0, .ref 105, .none, .ref 106, .ref 107, .ref 108, .int 313 0, .int 23 0, .str "/claim/cut.py" 314], #[]⟩
def ob101 (P : Params) : Obj := ⟨.type "function", none, .func ⟨"__init__", "Lack.__init__", defArgs (cm 7 0), .stmts (defBody (cm 7 0)), defScope (cm 7 0), 3, [], .none, .none, .none, .str "fewasks.errors" 194, none, .ref 109, .none, 0⟩, #[]⟩
def ob102 (P : Params) : Obj := ⟨.type "tuple", none, .seq #[.str "name" 316] 0, #[]⟩
def ob103 (P : Params) : Obj := ⟨.type "dict", none, .dict #[⟨PyData.keyHash P "__module__", .str "__module__" 303, .str "fewasks.errors" 194⟩, ⟨PyData.keyHash P "__firstlineno__", .str "__firstlineno__" 307, .int 21 306⟩, ⟨PyData.keyHash P "__init__", .str "__init__" 315, .ref 110⟩, ⟨PyData.keyHash P "__static_attributes__", .str "__static_attributes__" 317, .ref 111⟩, ⟨PyData.keyHash P "__doc__", .str "__doc__" 318, .none⟩] 2, #[]⟩
def ob104 (P : Params) : Obj := ⟨.type "type", none, .cls ⟨"Lack", [.ref 31], [.ref 113, .ref 31, .type "ValueError", .type "Exception", .type "BaseException", .type "object"], 112, "Lack", true, [], [], false, none, false⟩, #[some (.ref 97), none, some (.str "Lack" 296), some (.str "Lack" 304), some (.builtin "ValueError.__new__"), some (.bool true)]⟩
def ob105 (P : Params) : Obj := ⟨.type "super", none, .fields #[.ref 113, .ref 113, .ref 113], #[]⟩
def ob106 (P : Params) : Obj := ⟨.type "builtin_function_or_method", none, .fields #[.builtin "object.__init_subclass__", .ref 113], #[]⟩
def ob107 (P : Params) : Obj := ⟨.type "tuple", none, .seq #[.ref 31] 0, #[]⟩
def ob108 (P : Params) : Obj := ⟨.type "builtin_function_or_method", none, .fields #[.builtin "type.__prepare__", .type "type"], #[]⟩
def ob109 (P : Params) : Obj := ⟨.type "dict", none, .dict #[⟨PyData.keyHash P "__module__", .str "__module__" 328, .str "fewasks.errors" 194⟩, ⟨PyData.keyHash P "__qualname__", .str "__qualname__" 330, .str "LetGo" 329⟩, ⟨PyData.keyHash P "__firstlineno__", .str "__firstlineno__" 332, .int 26 331⟩, ⟨PyData.keyHash P "__static_attributes__", .str "__static_attributes__" 333, .ref 123⟩] 4, #[]⟩
def ob110 (P : Params) : Obj := ⟨.type "tuple", none, .seq #[] 0, #[]⟩
def ob111 (P : Params) : Obj := ⟨.none, none, .fields #[], #[]⟩
def ob112 (P : Params) : Obj := ⟨.type "code", none, .fields #[.str "LetGo" 323, .str "LetGo" 324, .str "/claim/cut.py" 325, .int 26 0, .int 0 0, .int 0 0, .int 0 0, .int 0 0, .ref 119, .bool false, .int 181 0, .ref 120, .none, .none, .none, .none, .int 326 0, .int 26 0, .str "/claim/cut.py" 327], #[]⟩
def ob113 (P : Params) : Obj := ⟨.type "frame", none, .plain, #[some (.ref 121), some (.ref 3), some (.ref 118), none, some (.str "fewasks.errors" 194), none, some (.ref 0)]⟩
def ob114 (P : Params) : Obj := ⟨.type "tuple", none, .seq #[] 0, #[]⟩
def ob115 (P : Params) : Obj := ⟨.type "dict", none, .dict #[⟨PyData.keyHash P "__module__", .str "__module__" 328, .str "fewasks.errors" 194⟩, ⟨PyData.keyHash P "__firstlineno__", .str "__firstlineno__" 332, .int 26 331⟩, ⟨PyData.keyHash P "__static_attributes__", .str "__static_attributes__" 333, .ref 123⟩, ⟨PyData.keyHash P "__doc__", .str "__doc__" 334, .none⟩] 2, #[]⟩
def ob116 (P : Params) : Obj := ⟨.type "type", none, .cls ⟨"LetGo", [.ref 31], [.ref 125, .ref 31, .type "ValueError", .type "Exception", .type "BaseException", .type "object"], 124, "LetGo", true, [], [], false, none, false⟩, #[some (.ref 116), none, some (.str "LetGo" 321), some (.str "LetGo" 329), some (.builtin "ValueError.__new__"), some (.bool true)]⟩
def ob117 (P : Params) : Obj := ⟨.type "super", none, .fields #[.ref 125, .ref 125, .ref 125], #[]⟩
def ob118 (P : Params) : Obj := ⟨.type "builtin_function_or_method", none, .fields #[.builtin "object.__init_subclass__", .ref 125], #[]⟩
def ob119 (P : Params) : Obj := ⟨.type "tuple", none, .seq #[] 0, #[]⟩
def ob120 (P : Params) : Obj := ⟨.none, none, .fields #[], #[]⟩
def ob121 (P : Params) : Obj := ⟨.type "tuple", none, .seq #[.str "thing" 358] 0, #[]⟩
def ob122 (P : Params) : Obj := ⟨.type "tuple", none, .seq #[] 0, #[]⟩
def ob123 (P : Params) : Obj := ⟨.none, none, .func ⟨"is_int", "is_int", defArgs (top 17), .stmts (defBody (top 17)), defScope (top 17), 0, [], .none, .none, .none, .none, none, .none, .none, 0⟩, #[]⟩
def ob124 (P : Params) : Obj := ⟨.type "code", none, .fields #[.str "is_int" 355, .str "is_int" 356, .str "/claim/cut.py" 357, .int 36 0, .int 1 0, .int 0 0, .int 0 0, .int 3 0, .ref 128, .bool true, .int 181 0, .ref 129, .none, .ref 130, .ref 131, .ref 132, .int 359 0, .int 36 0, .str "/claim/cut.py" 360], #[]⟩
def ob125 (P : Params) : Obj := ⟨.type "function", none, .func ⟨"is_int", "is_int", defArgs (top 17), .stmts (defBody (top 17)), defScope (top 17), 3, [], .none, .none, .none, .str "fewasks.forms" 337, none, .ref 133, .none, 0⟩, #[]⟩
def ob126 (P : Params) : Obj := ⟨.type "tuple", none, .seq #[] 0, #[]⟩
def ob127 (P : Params) : Obj := ⟨.none, none, .fields #[], #[]⟩
def ob128 (P : Params) : Obj := ⟨.none, none, .func ⟨"is_text", "is_text", defArgs (top 18), .stmts (defBody (top 18)), defScope (top 18), 0, [], .none, .none, .none, .none, none, .none, .none, 0⟩, #[]⟩
def ob129 (P : Params) : Obj := ⟨.type "code", none, .fields #[.str "is_text" 362, .str "is_text" 363, .str "/claim/cut.py" 364, .int 38 0, .int 1 0, .int 0 0, .int 0 0, .int 3 0, .ref 135, .bool true, .int 181 0, .ref 136, .none, .none, .none, .ref 137, .int 365 0, .int 38 0, .str "/claim/cut.py" 366], #[]⟩
def ob130 (P : Params) : Obj := ⟨.type "function", none, .func ⟨"is_text", "is_text", defArgs (top 18), .stmts (defBody (top 18)), defScope (top 18), 3, [], .none, .none, .none, .str "fewasks.forms" 337, none, .ref 138, .none, 0⟩, #[]⟩
def ob131 (P : Params) : Obj := ⟨.type "tuple", none, .seq #[] 0, #[]⟩
def ob132 (P : Params) : Obj := ⟨.none, none, .fields #[], #[]⟩
def ob133 (P : Params) : Obj := ⟨.type "tuple", none, .seq #[.str "sign" 371] 0, #[]⟩
def ob134 (P : Params) : Obj := ⟨.type "tuple", none, .seq #[] 0, #[]⟩
def ob135 (P : Params) : Obj := ⟨.none, none, .func ⟨"is_sign", "is_sign", defArgs (top 19), .stmts (defBody (top 19)), defScope (top 19), 0, [], .none, .none, .none, .none, none, .none, .none, 0⟩, #[]⟩
def ob136 (P : Params) : Obj := ⟨.type "code", none, .fields #[.str "is_sign" 368, .str "is_sign" 369, .str "/claim/cut.py" 370, .int 40 0, .int 1 0, .int 0 0, .int 0 0, .int 3 0, .ref 140, .bool true, .int 181 0, .ref 141, .none, .ref 142, .ref 143, .ref 144, .int 372 0, .int 40 0, .str "/claim/cut.py" 373], #[]⟩
def ob137 (P : Params) : Obj := ⟨.type "function", none, .func ⟨"is_sign", "is_sign", defArgs (top 19), .stmts (defBody (top 19)), defScope (top 19), 3, [], .none, .none, .none, .str "fewasks.forms" 337, none, .ref 145, .none, 0⟩, #[]⟩
def ob138 (P : Params) : Obj := ⟨.type "tuple", none, .seq #[] 0, #[]⟩
def ob139 (P : Params) : Obj := ⟨.none, none, .fields #[], #[]⟩
def ob140 (P : Params) : Obj := ⟨.none, none, .func ⟨"is_label", "is_label", defArgs (top 20), .stmts (defBody (top 20)), defScope (top 20), 0, [], .none, .none, .none, .none, none, .none, .none, 0⟩, #[]⟩
def ob141 (P : Params) : Obj := ⟨.type "code", none, .fields #[.str "is_label" 375, .str "is_label" 376, .str "/claim/cut.py" 377, .int 42 0, .int 1 0, .int 0 0, .int 0 0, .int 3 0, .ref 147, .bool true, .int 181 0, .ref 148, .none, .none, .none, .ref 149, .int 378 0, .int 42 0, .str "/claim/cut.py" 379], #[]⟩
def ob142 (P : Params) : Obj := ⟨.type "function", none, .func ⟨"is_label", "is_label", defArgs (top 20), .stmts (defBody (top 20)), defScope (top 20), 3, [], .none, .none, .none, .str "fewasks.forms" 337, none, .ref 150, .none, 0⟩, #[]⟩
def ob143 (P : Params) : Obj := ⟨.type "tuple", none, .seq #[] 0, #[]⟩
def ob144 (P : Params) : Obj := ⟨.none, none, .fields #[], #[]⟩
def ob145 (P : Params) : Obj := ⟨.type "tuple", none, .seq #[.str "thing" 384] 0, #[]⟩
def ob146 (P : Params) : Obj := ⟨.type "tuple", none, .seq #[] 0, #[]⟩
def ob147 (P : Params) : Obj := ⟨.none, none, .func ⟨"is_pair", "is_pair", defArgs (top 21), .stmts (defBody (top 21)), defScope (top 21), 0, [], .none, .none, .none, .none, none, .none, .none, 0⟩, #[]⟩
def ob148 (P : Params) : Obj := ⟨.type "code", none, .fields #[.str "is_pair" 381, .str "is_pair" 382, .str "/claim/cut.py" 383, .int 46 0, .int 1 0, .int 0 0, .int 0 0, .int 3 0, .ref 152, .bool true, .int 181 0, .ref 153, .none, .ref 154, .ref 155, .ref 156, .int 385 0, .int 46 0, .str "/claim/cut.py" 386], #[]⟩
def ob149 (P : Params) : Obj := ⟨.type "function", none, .func ⟨"is_pair", "is_pair", defArgs (top 21), .stmts (defBody (top 21)), defScope (top 21), 3, [], .none, .none, .none, .str "fewasks.forms" 337, none, .ref 157, .none, 0⟩, #[]⟩
def ob150 (P : Params) : Obj := ⟨.type "tuple", none, .seq #[] 0, #[]⟩
def ob151 (P : Params) : Obj := ⟨.none, none, .fields #[], #[]⟩
def ob152 (P : Params) : Obj := ⟨.none, none, .func ⟨"rises", "rises", defArgs (top 22), .stmts (defBody (top 22)), defScope (top 22), 0, [], .none, .none, .none, .none, none, .none, .none, 0⟩, #[]⟩
def ob153 (P : Params) : Obj := ⟨.type "code", none, .fields #[.str "rises" 388, .str "rises" 389, .str "/claim/cut.py" 390, .int 48 0, .int 1 0, .int 0 0, .int 0 0, .int 3 0, .ref 159, .bool true, .int 181 0, .ref 160, .none, .none, .none, .ref 161, .int 391 0, .int 48 0, .str "/claim/cut.py" 392], #[]⟩
def ob154 (P : Params) : Obj := ⟨.type "function", none, .func ⟨"rises", "rises", defArgs (top 22), .stmts (defBody (top 22)), defScope (top 22), 3, [], .none, .none, .none, .str "fewasks.forms" 337, none, .ref 162, .none, 0⟩, #[]⟩
def ob155 (P : Params) : Obj := ⟨.type "tuple", none, .seq #[] 0, #[]⟩
def ob156 (P : Params) : Obj := ⟨.none, none, .fields #[], #[]⟩
def ob157 (P : Params) : Obj := ⟨.none, none, .func ⟨"is_ints", "is_ints", defArgs (top 23), .stmts (defBody (top 23)), defScope (top 23), 0, [], .none, .none, .none, .none, none, .none, .none, 0⟩, #[]⟩
def ob158 (P : Params) : Obj := ⟨.type "code", none, .fields #[.str "is_ints" 394, .str "is_ints" 395, .str "/claim/cut.py" 396, .int 50 0, .int 1 0, .int 0 0, .int 0 0, .int 3 0, .ref 164, .bool true, .int 181 0, .ref 165, .none, .none, .none, .ref 166, .int 397 0, .int 50 0, .str "/claim/cut.py" 398], #[]⟩
def ob159 (P : Params) : Obj := ⟨.type "function", none, .func ⟨"is_ints", "is_ints", defArgs (top 23), .stmts (defBody (top 23)), defScope (top 23), 3, [], .none, .none, .none, .str "fewasks.forms" 337, none, .ref 167, .none, 0⟩, #[]⟩
def ob160 (P : Params) : Obj := ⟨.type "tuple", none, .seq #[] 0, #[]⟩
def ob161 (P : Params) : Obj := ⟨.none, none, .fields #[], #[]⟩
def ob162 (P : Params) : Obj := ⟨.type "tuple", none, .seq #[.str "thing" 403] 0, #[]⟩
def ob163 (P : Params) : Obj := ⟨.type "tuple", none, .seq #[] 0, #[]⟩
def ob164 (P : Params) : Obj := ⟨.none, none, .func ⟨"is_rising", "is_rising", defArgs (top 24), .stmts (defBody (top 24)), defScope (top 24), 0, [], .none, .none, .none, .none, none, .none, .none, 0⟩, #[]⟩
def ob165 (P : Params) : Obj := ⟨.type "code", none, .fields #[.str "is_rising" 400, .str "is_rising" 401, .str "/claim/cut.py" 402, .int 52 0, .int 1 0, .int 0 0, .int 0 0, .int 3 0, .ref 169, .bool true, .int 181 0, .ref 170, .none, .ref 171, .ref 172, .ref 173, .int 404 0, .int 52 0, .str "/claim/cut.py" 405], #[]⟩
def ob166 (P : Params) : Obj := ⟨.type "function", none, .func ⟨"is_rising", "is_rising", defArgs (top 24), .stmts (defBody (top 24)), defScope (top 24), 3, [], .none, .none, .none, .str "fewasks.forms" 337, none, .ref 174, .none, 0⟩, #[]⟩
def ob167 (P : Params) : Obj := ⟨.type "tuple", none, .seq #[] 0, #[]⟩
def ob168 (P : Params) : Obj := ⟨.none, none, .fields #[], #[]⟩
def ob169 (P : Params) : Obj := ⟨.type "tuple", none, .seq #[.str "thing" 410] 0, #[]⟩
def ob170 (P : Params) : Obj := ⟨.type "tuple", none, .seq #[] 0, #[]⟩
def ob171 (P : Params) : Obj := ⟨.none, none, .func ⟨"is_row", "is_row", defArgs (top 25), .stmts (defBody (top 25)), defScope (top 25), 0, [], .none, .none, .none, .none, none, .none, .none, 0⟩, #[]⟩
def ob172 (P : Params) : Obj := ⟨.type "code", none, .fields #[.str "is_row" 407, .str "is_row" 408, .str "/claim/cut.py" 409, .int 54 0, .int 1 0, .int 0 0, .int 0 0, .int 3 0, .ref 176, .bool true, .int 181 0, .ref 177, .none, .ref 178, .ref 179, .ref 180, .int 411 0, .int 54 0, .str "/claim/cut.py" 412], #[]⟩
def ob173 (P : Params) : Obj := ⟨.type "function", none, .func ⟨"is_row", "is_row", defArgs (top 25), .stmts (defBody (top 25)), defScope (top 25), 3, [], .none, .none, .none, .str "fewasks.forms" 337, none, .ref 181, .none, 0⟩, #[]⟩
def ob174 (P : Params) : Obj := ⟨.type "tuple", none, .seq #[] 0, #[]⟩
def ob175 (P : Params) : Obj := ⟨.none, none, .fields #[], #[]⟩
def ob176 (P : Params) : Obj := ⟨.none, none, .func ⟨"is_rows", "is_rows", defArgs (top 26), .stmts (defBody (top 26)), defScope (top 26), 0, [], .none, .none, .none, .none, none, .none, .none, 0⟩, #[]⟩
def ob177 (P : Params) : Obj := ⟨.type "code", none, .fields #[.str "is_rows" 414, .str "is_rows" 415, .str "/claim/cut.py" 416, .int 56 0, .int 1 0, .int 0 0, .int 0 0, .int 3 0, .ref 183, .bool true, .int 181 0, .ref 184, .none, .none, .none, .ref 185, .int 417 0, .int 56 0, .str "/claim/cut.py" 418], #[]⟩
def ob178 (P : Params) : Obj := ⟨.type "function", none, .func ⟨"is_rows", "is_rows", defArgs (top 26), .stmts (defBody (top 26)), defScope (top 26), 3, [], .none, .none, .none, .str "fewasks.forms" 337, none, .ref 186, .none, 0⟩, #[]⟩
def ob179 (P : Params) : Obj := ⟨.type "tuple", none, .seq #[] 0, #[]⟩
def ob180 (P : Params) : Obj := ⟨.none, none, .fields #[], #[]⟩
def ob181 (P : Params) : Obj := ⟨.type "tuple", none, .seq #[.str "thing" 423] 0, #[]⟩
def ob182 (P : Params) : Obj := ⟨.type "tuple", none, .seq #[] 0, #[]⟩
def ob183 (P : Params) : Obj := ⟨.none, none, .func ⟨"is_entry", "is_entry", defArgs (top 27), .stmts (defBody (top 27)), defScope (top 27), 0, [], .none, .none, .none, .none, none, .none, .none, 0⟩, #[]⟩
def ob184 (P : Params) : Obj := ⟨.type "code", none, .fields #[.str "is_entry" 420, .str "is_entry" 421, .str "/claim/cut.py" 422, .int 58 0, .int 1 0, .int 0 0, .int 0 0, .int 3 0, .ref 188, .bool true, .int 181 0, .ref 189, .none, .ref 190, .ref 191, .ref 192, .int 424 0, .int 58 0, .str "/claim/cut.py" 425], #[]⟩
def ob185 (P : Params) : Obj := ⟨.type "function", none, .func ⟨"is_entry", "is_entry", defArgs (top 27), .stmts (defBody (top 27)), defScope (top 27), 3, [], .none, .none, .none, .str "fewasks.forms" 337, none, .ref 193, .none, 0⟩, #[]⟩
def ob186 (P : Params) : Obj := ⟨.type "tuple", none, .seq #[] 0, #[]⟩
def ob187 (P : Params) : Obj := ⟨.none, none, .fields #[], #[]⟩
def ob188 (P : Params) : Obj := ⟨.none, none, .func ⟨"is_entries", "is_entries", defArgs (top 28), .stmts (defBody (top 28)), defScope (top 28), 0, [], .none, .none, .none, .none, none, .none, .none, 0⟩, #[]⟩
def ob189 (P : Params) : Obj := ⟨.type "code", none, .fields #[.str "is_entries" 427, .str "is_entries" 428, .str "/claim/cut.py" 429, .int 60 0, .int 1 0, .int 0 0, .int 0 0, .int 3 0, .ref 195, .bool true, .int 181 0, .ref 196, .none, .none, .none, .ref 197, .int 430 0, .int 60 0, .str "/claim/cut.py" 431], #[]⟩
def ob190 (P : Params) : Obj := ⟨.type "function", none, .func ⟨"is_entries", "is_entries", defArgs (top 28), .stmts (defBody (top 28)), defScope (top 28), 3, [], .none, .none, .none, .str "fewasks.forms" 337, none, .ref 198, .none, 0⟩, #[]⟩
def ob191 (P : Params) : Obj := ⟨.type "tuple", none, .seq #[] 0, #[]⟩
def ob192 (P : Params) : Obj := ⟨.none, none, .fields #[], #[]⟩
def ob193 (P : Params) : Obj := ⟨.type "tuple", none, .seq #[.str "thing" 436] 0, #[]⟩
def ob194 (P : Params) : Obj := ⟨.type "tuple", none, .seq #[] 0, #[]⟩
def ob195 (P : Params) : Obj := ⟨.none, none, .func ⟨"is_stamp", "is_stamp", defArgs (top 29), .stmts (defBody (top 29)), defScope (top 29), 0, [], .none, .none, .none, .none, none, .none, .none, 0⟩, #[]⟩
def ob196 (P : Params) : Obj := ⟨.type "code", none, .fields #[.str "is_stamp" 433, .str "is_stamp" 434, .str "/claim/cut.py" 435, .int 64 0, .int 1 0, .int 0 0, .int 0 0, .int 3 0, .ref 200, .bool true, .int 181 0, .ref 201, .none, .ref 202, .ref 203, .ref 204, .int 437 0, .int 64 0, .str "/claim/cut.py" 438], #[]⟩
def ob197 (P : Params) : Obj := ⟨.type "function", none, .func ⟨"is_stamp", "is_stamp", defArgs (top 29), .stmts (defBody (top 29)), defScope (top 29), 3, [], .none, .none, .none, .str "fewasks.forms" 337, none, .ref 205, .none, 0⟩, #[]⟩
def ob198 (P : Params) : Obj := ⟨.type "tuple", none, .seq #[] 0, #[]⟩
def ob199 (P : Params) : Obj := ⟨.none, none, .fields #[], #[]⟩
def ob200 (P : Params) : Obj := ⟨.type "tuple", none, .seq #[.str "thing" 443] 0, #[]⟩
def ob201 (P : Params) : Obj := ⟨.type "tuple", none, .seq #[] 0, #[]⟩
def ob202 (P : Params) : Obj := ⟨.none, none, .func ⟨"is_version_form", "is_version_form", defArgs (top 30), .stmts (defBody (top 30)), defScope (top 30), 0, [], .none, .none, .none, .none, none, .none, .none, 0⟩, #[]⟩
def ob203 (P : Params) : Obj := ⟨.type "code", none, .fields #[.str "is_version_form" 440, .str "is_version_form" 441, .str "/claim/cut.py" 442, .int 66 0, .int 1 0, .int 0 0, .int 0 0, .int 3 0, .ref 207, .bool true, .int 181 0, .ref 208, .none, .ref 209, .ref 210, .ref 211, .int 444 0, .int 66 0, .str "/claim/cut.py" 445], #[]⟩
def ob204 (P : Params) : Obj := ⟨.type "function", none, .func ⟨"is_version_form", "is_version_form", defArgs (top 30), .stmts (defBody (top 30)), defScope (top 30), 3, [], .none, .none, .none, .str "fewasks.forms" 337, none, .ref 212, .none, 0⟩, #[]⟩
def ob205 (P : Params) : Obj := ⟨.type "tuple", none, .seq #[] 0, #[]⟩
def ob206 (P : Params) : Obj := ⟨.none, none, .fields #[], #[]⟩
def ob207 (P : Params) : Obj := ⟨.type "tuple", none, .seq #[.str "thing" 450] 0, #[]⟩
def ob208 (P : Params) : Obj := ⟨.type "tuple", none, .seq #[] 0, #[]⟩
def ob209 (P : Params) : Obj := ⟨.none, none, .func ⟨"is_content_form", "is_content_form", defArgs (top 31), .stmts (defBody (top 31)), defScope (top 31), 0, [], .none, .none, .none, .none, none, .none, .none, 0⟩, #[]⟩
def ob210 (P : Params) : Obj := ⟨.type "code", none, .fields #[.str "is_content_form" 447, .str "is_content_form" 448, .str "/claim/cut.py" 449, .int 70 0, .int 1 0, .int 0 0, .int 0 0, .int 3 0, .ref 214, .bool true, .int 181 0, .ref 215, .none, .ref 216, .ref 217, .ref 218, .int 451 0, .int 70 0, .str "/claim/cut.py" 452], #[]⟩
def ob211 (P : Params) : Obj := ⟨.type "function", none, .func ⟨"is_content_form", "is_content_form", defArgs (top 31), .stmts (defBody (top 31)), defScope (top 31), 3, [], .none, .none, .none, .str "fewasks.forms" 337, none, .ref 219, .none, 0⟩, #[]⟩
def ob212 (P : Params) : Obj := ⟨.type "tuple", none, .seq #[] 0, #[]⟩
def ob213 (P : Params) : Obj := ⟨.none, none, .fields #[], #[]⟩
def ob214 (P : Params) : Obj := ⟨.type "tuple", none, .seq #[.str "book" 461, .str "names" 462, .str "name" 463] 0, #[]⟩
def ob215 (P : Params) : Obj := ⟨.type "tuple", none, .seq #[] 0, #[]⟩
def ob216 (P : Params) : Obj := ⟨.none, none, .func ⟨"check_versions", "check_versions", defArgs (top 34), .stmts (defBody (top 34)), defScope (top 34), 0, [], .none, .none, .none, .none, none, .none, .none, 0⟩, #[]⟩
def ob217 (P : Params) : Obj := ⟨.type "code", none, .fields #[.str "check_versions" 458, .str "check_versions" 459, .str "/claim/cut.py" 460, .int 80 0, .int 2 0, .int 0 0, .int 0 0, .int 3 0, .ref 221, .bool true, .int 181 0, .ref 222, .none, .ref 223, .ref 224, .ref 225, .int 464 0, .int 80 0, .str "/claim/cut.py" 465], #[]⟩
def ob218 (P : Params) : Obj := ⟨.type "function", none, .func ⟨"check_versions", "check_versions", defArgs (top 34), .stmts (defBody (top 34)), defScope (top 34), 3, [], .none, .none, .none, .str "fewasks.reach" 454, none, .ref 226, .none, 0⟩, #[]⟩
def ob219 (P : Params) : Obj := ⟨.type "tuple", none, .seq #[] 0, #[]⟩
def ob220 (P : Params) : Obj := ⟨.none, none, .fields #[], #[]⟩
def ob221 (P : Params) : Obj := ⟨.type "tuple", none, .seq #[.str "holder" 470, .str "name" 471] 0, #[]⟩
def ob222 (P : Params) : Obj := ⟨.type "tuple", none, .seq #[] 0, #[]⟩
def ob223 (P : Params) : Obj := ⟨.none, none, .func ⟨"check_held_version", "check_held_version", defArgs (top 35), .stmts (defBody (top 35)), defScope (top 35), 0, [], .none, .none, .none, .none, none, .none, .none, 0⟩, #[]⟩
def ob224 (P : Params) : Obj := ⟨.type "code", none, .fields #[.str "check_held_version" 467, .str "check_held_version" 468, .str "/claim/cut.py" 469, .int 84 0, .int 2 0, .int 0 0, .int 0 0, .int 3 0, .ref 228, .bool true, .int 181 0, .ref 229, .none, .ref 230, .ref 231, .ref 232, .int 472 0, .int 84 0, .str "/claim/cut.py" 473], #[]⟩
def ob225 (P : Params) : Obj := ⟨.type "function", none, .func ⟨"check_held_version", "check_held_version", defArgs (top 35), .stmts (defBody (top 35)), defScope (top 35), 3, [], .none, .none, .none, .str "fewasks.reach" 454, none, .ref 233, .none, 0⟩, #[]⟩
def ob226 (P : Params) : Obj := ⟨.type "tuple", none, .seq #[] 0, #[]⟩
def ob227 (P : Params) : Obj := ⟨.none, none, .fields #[], #[]⟩
def ob228 (P : Params) : Obj := ⟨.type "tuple", none, .seq #[.str "house" 480, .str "names" 481, .str "name" 482] 0, #[]⟩
def ob229 (P : Params) : Obj := ⟨.type "tuple", none, .seq #[] 0, #[]⟩
def ob230 (P : Params) : Obj := ⟨.none, none, .func ⟨"check_held", "check_held", defArgs (top 37), .stmts (defBody (top 37)), defScope (top 37), 0, [], .none, .none, .none, .none, none, .none, .none, 0⟩, #[]⟩
def ob231 (P : Params) : Obj := ⟨.type "code", none, .fields #[.str "check_held" 477, .str "check_held" 478, .str "/claim/cut.py" 479, .int 89 0, .int 2 0, .int 0 0, .int 0 0, .int 3 0, .ref 235, .bool true, .int 181 0, .ref 236, .none, .ref 237, .ref 238, .ref 239, .int 483 0, .int 89 0, .str "/claim/cut.py" 484], #[]⟩
def ob232 (P : Params) : Obj := ⟨.type "function", none, .func ⟨"check_held", "check_held", defArgs (top 37), .stmts (defBody (top 37)), defScope (top 37), 3, [], .none, .none, .none, .str "fewasks.pins" 475, none, .ref 240, .none, 0⟩, #[]⟩
def ob233 (P : Params) : Obj := ⟨.type "tuple", none, .seq #[] 0, #[]⟩
def ob234 (P : Params) : Obj := ⟨.type "builtin_function_or_method", none, .fields #[.builtin "type.__prepare__", .type "type"], #[]⟩
def ob235 (P : Params) : Obj := ⟨.type "dict", none, .dict #[⟨PyData.keyHash P "__module__", .str "__module__" 493, .str "fewasks.pins" 475⟩, ⟨PyData.keyHash P "__qualname__", .str "__qualname__" 495, .str "Pin" 494⟩, ⟨PyData.keyHash P "__firstlineno__", .str "__firstlineno__" 497, .int 96 496⟩, ⟨PyData.keyHash P "__init__", .str "__init__" 503, .ref 253⟩, ⟨PyData.keyHash P "__len__", .str "__len__" 510, .ref 260⟩, ⟨PyData.keyHash P "names", .str "names" 517, .ref 267⟩, ⟨PyData.keyHash P "add", .str "add" 525, .ref 274⟩, ⟨PyData.keyHash P "let_go", .str "let_go" 532, .ref 281⟩, ⟨PyData.keyHash P "__static_attributes__", .str "__static_attributes__" 536, .ref 282⟩] 9, #[]⟩
def ob236 (P : Params) : Obj := ⟨.type "tuple", none, .seq #[] 0, #[]⟩
def ob237 (P : Params) : Obj := ⟨.none, none, .fields #[.int 98 0, .int 4 0, .ref 252, .int 104 0, .int 4 0, .ref 259, .int 107 0, .int 4 0, .ref 266, .int 110 0, .int 4 0, .ref 273, .int 116 0, .int 4 0, .ref 280], #[]⟩
def ob238 (P : Params) : Obj := ⟨.type "code", none, .fields #[.str "Pin" 488, .str "Pin" 489, .str "/claim/cut.py" 490, .int 96 0, .int 0 0, .int 0 0, .int 0 0, .int 0 0, .ref 245, .bool false, .int 181 0, .ref 246, .none, .none, .none, .none, .int 491 0, .int 96 0, .str "/claim/cut.py" 492], #[]⟩
def ob239 (P : Params) : Obj := ⟨.type "frame", none, .plain, #[some (.ref 247), some (.ref 3), some (.ref 244), none, some (.str "fewasks.pins" 475), none, some (.ref 0)]⟩
def ob240 (P : Params) : Obj := ⟨.type "tuple", none, .seq #[] 0, #[]⟩
def ob241 (P : Params) : Obj := ⟨.none, none, .fields #[], #[]⟩
def ob242 (P : Params) : Obj := ⟨.none, none, .func ⟨"__init__", "Pin.__init__", defArgs (cm 38 0), .stmts (defBody (cm 38 0)), defScope (cm 38 0), 0, [], .none, .none, .none, .none, none, .none, .none, 0⟩, #[]⟩
def ob243 (P : Params) : Obj := ⟨.type "code", none, .fields #[.str "__init__" 498, .str "Pin.__init__" 499, .str "/claim/cut.py" 500, .int 98 0, .int 3 0, .int 0 0, .int 0 0, .int 3 0, .ref 249, .bool true, .int 181 0, .ref 250, .none, .none, .none, .ref 251, .int 501 0, .int 98 0, .str "/claim/cut.py" 502], #[]⟩
def ob244 (P : Params) : Obj := ⟨.type "function", none, .func ⟨"__init__", "Pin.__init__", defArgs (cm 38 0), .stmts (defBody (cm 38 0)), defScope (cm 38 0), 3, [], .none, .none, .none, .str "fewasks.pins" 475, none, .ref 252, .none, 0⟩, #[]⟩
def ob245 (P : Params) : Obj := ⟨.type "tuple", none, .seq #[] 0, #[]⟩
def ob246 (P : Params) : Obj := ⟨.none, none, .fields #[], #[]⟩
def ob247 (P : Params) : Obj := ⟨.type "tuple", none, .seq #[.str "self" 507] 0, #[]⟩
def ob248 (P : Params) : Obj := ⟨.type "tuple", none, .seq #[] 0, #[]⟩
def ob249 (P : Params) : Obj := ⟨.none, none, .func ⟨"__len__", "Pin.__len__", defArgs (cm 38 1), .stmts (defBody (cm 38 1)), defScope (cm 38 1), 0, [], .none, .none, .none, .none, none, .none, .none, 0⟩, #[]⟩
def ob250 (P : Params) : Obj := ⟨.type "code", none, .fields #[.str "__len__" 504, .str "Pin.__len__" 505, .str "/claim/cut.py" 506, .int 104 0, .int 1 0, .int 0 0, .int 0 0, .int 3 0, .ref 254, .bool true, .int 181 0, .ref 255, .none, .ref 256, .ref 257, .ref 258, .int 508 0, .int 104 0, .str "/claim/cut.py" 509], #[]⟩
def ob251 (P : Params) : Obj := ⟨.type "function", none, .func ⟨"__len__", "Pin.__len__", defArgs (cm 38 1), .stmts (defBody (cm 38 1)), defScope (cm 38 1), 3, [], .none, .none, .none, .str "fewasks.pins" 475, none, .ref 259, .none, 0⟩, #[]⟩
def ob252 (P : Params) : Obj := ⟨.type "tuple", none, .seq #[] 0, #[]⟩
def ob253 (P : Params) : Obj := ⟨.none, none, .fields #[], #[]⟩
def ob254 (P : Params) : Obj := ⟨.type "tuple", none, .seq #[.str "self" 514] 0, #[]⟩
def ob255 (P : Params) : Obj := ⟨.type "tuple", none, .seq #[] 0, #[]⟩
def ob256 (P : Params) : Obj := ⟨.none, none, .func ⟨"names", "Pin.names", defArgs (cm 38 2), .stmts (defBody (cm 38 2)), defScope (cm 38 2), 0, [], .none, .none, .none, .none, none, .none, .none, 0⟩, #[]⟩
def ob257 (P : Params) : Obj := ⟨.type "code", none, .fields #[.str "names" 511, .str "Pin.names" 512, .str "/claim/cut.py" 513, .int 107 0, .int 1 0, .int 0 0, .int 0 0, .int 3 0, .ref 261, .bool true, .int 181 0, .ref 262, .none, .ref 263, .ref 264, .ref 265, .int 515 0, .int 107 0, .str "/claim/cut.py" 516], #[]⟩
def ob258 (P : Params) : Obj := ⟨.type "function", none, .func ⟨"names", "Pin.names", defArgs (cm 38 2), .stmts (defBody (cm 38 2)), defScope (cm 38 2), 3, [], .none, .none, .none, .str "fewasks.pins" 475, none, .ref 266, .none, 0⟩, #[]⟩
def ob259 (P : Params) : Obj := ⟨.type "tuple", none, .seq #[] 0, #[]⟩
def ob260 (P : Params) : Obj := ⟨.none, none, .fields #[], #[]⟩
def ob261 (P : Params) : Obj := ⟨.type "tuple", none, .seq #[.str "self" 521, .str "name" 522] 0, #[]⟩
def ob262 (P : Params) : Obj := ⟨.type "tuple", none, .seq #[] 0, #[]⟩
def ob263 (P : Params) : Obj := ⟨.none, none, .func ⟨"add", "Pin.add", defArgs (cm 38 3), .stmts (defBody (cm 38 3)), defScope (cm 38 3), 0, [], .none, .none, .none, .none, none, .none, .none, 0⟩, #[]⟩
def ob264 (P : Params) : Obj := ⟨.type "code", none, .fields #[.str "add" 518, .str "Pin.add" 519, .str "/claim/cut.py" 520, .int 110 0, .int 2 0, .int 0 0, .int 0 0, .int 3 0, .ref 268, .bool true, .int 181 0, .ref 269, .none, .ref 270, .ref 271, .ref 272, .int 523 0, .int 110 0, .str "/claim/cut.py" 524], #[]⟩
def ob265 (P : Params) : Obj := ⟨.type "function", none, .func ⟨"add", "Pin.add", defArgs (cm 38 3), .stmts (defBody (cm 38 3)), defScope (cm 38 3), 3, [], .none, .none, .none, .str "fewasks.pins" 475, none, .ref 273, .none, 0⟩, #[]⟩
def ob266 (P : Params) : Obj := ⟨.type "tuple", none, .seq #[] 0, #[]⟩
def ob267 (P : Params) : Obj := ⟨.none, none, .fields #[], #[]⟩
def ob268 (P : Params) : Obj := ⟨.type "tuple", none, .seq #[.str "self" 529] 0, #[]⟩
def ob269 (P : Params) : Obj := ⟨.type "tuple", none, .seq #[] 0, #[]⟩
def ob270 (P : Params) : Obj := ⟨.none, none, .func ⟨"let_go", "Pin.let_go", defArgs (cm 38 4), .stmts (defBody (cm 38 4)), defScope (cm 38 4), 0, [], .none, .none, .none, .none, none, .none, .none, 0⟩, #[]⟩
def ob271 (P : Params) : Obj := ⟨.type "code", none, .fields #[.str "let_go" 526, .str "Pin.let_go" 527, .str "/claim/cut.py" 528, .int 116 0, .int 1 0, .int 0 0, .int 0 0, .int 3 0, .ref 275, .bool true, .int 181 0, .ref 276, .none, .ref 277, .ref 278, .ref 279, .int 530 0, .int 116 0, .str "/claim/cut.py" 531], #[]⟩
def ob272 (P : Params) : Obj := ⟨.type "function", none, .func ⟨"let_go", "Pin.let_go", defArgs (cm 38 4), .stmts (defBody (cm 38 4)), defScope (cm 38 4), 3, [], .none, .none, .none, .str "fewasks.pins" 475, none, .ref 280, .none, 0⟩, #[]⟩
def ob273 (P : Params) : Obj := ⟨.type "tuple", none, .seq #[.str "home" 533, .str "inside" 534, .str "is_let_go" 535] 0, #[]⟩
def ob274 (P : Params) : Obj := ⟨.type "dict", none, .dict #[⟨PyData.keyHash P "__module__", .str "__module__" 493, .str "fewasks.pins" 475⟩, ⟨PyData.keyHash P "__firstlineno__", .str "__firstlineno__" 497, .int 96 496⟩, ⟨PyData.keyHash P "__init__", .str "__init__" 503, .ref 253⟩, ⟨PyData.keyHash P "__len__", .str "__len__" 510, .ref 260⟩, ⟨PyData.keyHash P "names", .str "names" 517, .ref 267⟩, ⟨PyData.keyHash P "add", .str "add" 525, .ref 274⟩, ⟨PyData.keyHash P "let_go", .str "let_go" 532, .ref 281⟩, ⟨PyData.keyHash P "__static_attributes__", .str "__static_attributes__" 536, .ref 282⟩, ⟨PyData.keyHash P "__dict__", .str "__dict__" 538, .ref 285⟩, ⟨PyData.keyHash P "__weakref__", .str "__weakref__" 540, .ref 286⟩, ⟨PyData.keyHash P "__doc__", .str "__doc__" 541, .none⟩] 4, #[]⟩
def ob275 (P : Params) : Obj := ⟨.type "type", none, .cls ⟨"Pin", [.type "object"], [.ref 284, .type "object"], 283, "Pin", true, [], [], false, none, false⟩, #[none, none, some (.str "Pin" 486), some (.str "Pin" 494), some (.builtin "object.__new__"), some (.bool true)]⟩
def ob276 (P : Params) : Obj := ⟨.type "getset_descriptor", none, .fields #[.str "__dict__" 537, .ref 284, .builtin "function.__dict__", .builtin "function.__dict__#set"], #[]⟩
def ob277 (P : Params) : Obj := ⟨.type "getset_descriptor", none, .fields #[.str "__weakref__" 539, .ref 284, .builtin "ExceptionGroup.__weakref__", .none], #[]⟩
def ob278 (P : Params) : Obj := ⟨.type "super", none, .fields #[.ref 284, .ref 284, .ref 284], #[]⟩
def ob279 (P : Params) : Obj := ⟨.type "builtin_function_or_method", none, .fields #[.builtin "object.__init_subclass__", .ref 284], #[]⟩
def ob280 (P : Params) : Obj := ⟨.type "tuple", none, .seq #[] 0, #[]⟩
def ob281 (P : Params) : Obj := ⟨.type "builtin_function_or_method", none, .fields #[.builtin "type.__prepare__", .type "type"], #[]⟩
def ob282 (P : Params) : Obj := ⟨.type "dict", none, .dict #[⟨PyData.keyHash P "__module__", .str "__module__" 553, .str "fewasks.holding" 544⟩, ⟨PyData.keyHash P "__qualname__", .str "__qualname__" 555, .str "Holding" 554⟩, ⟨PyData.keyHash P "__firstlineno__", .str "__firstlineno__" 557, .int 120 556⟩, ⟨PyData.keyHash P "__init__", .str "__init__" 563, .ref 300⟩, ⟨PyData.keyHash P "__len__", .str "__len__" 570, .ref 307⟩, ⟨PyData.keyHash P "__eq__", .str "__eq__" 578, .ref 314⟩, ⟨PyData.keyHash P "__str__", .str "__str__" 584, .ref 319⟩, ⟨PyData.keyHash P "holds", .str "holds" 592, .ref 326⟩, ⟨PyData.keyHash P "holds_version", .str "holds_version" 600, .ref 333⟩, ⟨PyData.keyHash P "names", .str "names" 607, .ref 340⟩, ⟨PyData.keyHash P "versions", .str "versions" 614, .ref 347⟩, ⟨PyData.keyHash P "edges", .str "edges" 621, .ref 354⟩, ⟨PyData.keyHash P "has_parents", .str "has_parents" 629, .ref 361⟩, ⟨PyData.keyHash P "held_parents", .str "held_parents" 637, .ref 368⟩, ⟨PyData.keyHash P "__static_attributes__", .str "__static_attributes__" 641, .ref 369⟩] 15, #[]⟩
def ob283 (P : Params) : Obj := ⟨.type "tuple", none, .seq #[] 0, #[]⟩
def ob284 (P : Params) : Obj := ⟨.none, none, .fields #[.int 122 0, .int 4 0, .ref 299, .int 130 0, .int 4 0, .ref 306, .int 133 0, .int 4 0, .ref 313, .int 136 0, .int 4 0, .ref 318, .int 139 0, .int 4 0, .ref 325, .int 142 0, .int 4 0, .ref 332, .int 145 0, .int 4 0, .ref 339, .int 148 0, .int 4 0, .ref 346, .int 151 0, .int 4 0, .ref 353, .int 154 0, .int 4 0, .ref 360, .int 157 0, .int 4 0, .ref 367], #[]⟩
def ob285 (P : Params) : Obj := ⟨.type "code", none, .fields #[.str "Holding" 548, .str "Holding" 549, .str "/claim/cut.py" 550, .int 120 0, .int 0 0, .int 0 0, .int 0 0, .int 0 0, .ref 292, .bool false, .int 181 0, .ref 293, .none, .none, .none, .none, .int 551 0, .int 120 0, .str "/claim/cut.py" 552], #[]⟩
def ob286 (P : Params) : Obj := ⟨.type "frame", none, .plain, #[some (.ref 294), some (.ref 3), some (.ref 291), none, some (.str "fewasks.holding" 544), none, some (.ref 0)]⟩
def ob287 (P : Params) : Obj := ⟨.type "tuple", none, .seq #[] 0, #[]⟩
def ob288 (P : Params) : Obj := ⟨.none, none, .fields #[], #[]⟩
def ob289 (P : Params) : Obj := ⟨.none, none, .func ⟨"__init__", "Holding.__init__", defArgs (cm 40 0), .stmts (defBody (cm 40 0)), defScope (cm 40 0), 0, [], .none, .none, .none, .none, none, .none, .none, 0⟩, #[]⟩
def ob290 (P : Params) : Obj := ⟨.type "code", none, .fields #[.str "__init__" 558, .str "Holding.__init__" 559, .str "/claim/cut.py" 560, .int 122 0, .int 3 0, .int 0 0, .int 0 0, .int 3 0, .ref 296, .bool true, .int 181 0, .ref 297, .none, .none, .none, .ref 298, .int 561 0, .int 122 0, .str "/claim/cut.py" 562], #[]⟩
def ob291 (P : Params) : Obj := ⟨.type "function", none, .func ⟨"__init__", "Holding.__init__", defArgs (cm 40 0), .stmts (defBody (cm 40 0)), defScope (cm 40 0), 3, [], .none, .none, .none, .str "fewasks.holding" 544, none, .ref 299, .none, 0⟩, #[]⟩
def ob292 (P : Params) : Obj := ⟨.type "tuple", none, .seq #[] 0, #[]⟩
def ob293 (P : Params) : Obj := ⟨.none, none, .fields #[], #[]⟩
def ob294 (P : Params) : Obj := ⟨.type "tuple", none, .seq #[.str "self" 567] 0, #[]⟩
def ob295 (P : Params) : Obj := ⟨.type "tuple", none, .seq #[] 0, #[]⟩
def ob296 (P : Params) : Obj := ⟨.none, none, .func ⟨"__len__", "Holding.__len__", defArgs (cm 40 1), .stmts (defBody (cm 40 1)), defScope (cm 40 1), 0, [], .none, .none, .none, .none, none, .none, .none, 0⟩, #[]⟩
def ob297 (P : Params) : Obj := ⟨.type "code", none, .fields #[.str "__len__" 564, .str "Holding.__len__" 565, .str "/claim/cut.py" 566, .int 130 0, .int 1 0, .int 0 0, .int 0 0, .int 3 0, .ref 301, .bool true, .int 181 0, .ref 302, .none, .ref 303, .ref 304, .ref 305, .int 568 0, .int 130 0, .str "/claim/cut.py" 569], #[]⟩
def ob298 (P : Params) : Obj := ⟨.type "function", none, .func ⟨"__len__", "Holding.__len__", defArgs (cm 40 1), .stmts (defBody (cm 40 1)), defScope (cm 40 1), 3, [], .none, .none, .none, .str "fewasks.holding" 544, none, .ref 306, .none, 0⟩, #[]⟩
def ob299 (P : Params) : Obj := ⟨.type "tuple", none, .seq #[] 0, #[]⟩
def ob300 (P : Params) : Obj := ⟨.none, none, .fields #[], #[]⟩
def ob301 (P : Params) : Obj := ⟨.type "tuple", none, .seq #[.str "self" 574, .str "other" 575] 0, #[]⟩
def ob302 (P : Params) : Obj := ⟨.type "tuple", none, .seq #[] 0, #[]⟩
def ob303 (P : Params) : Obj := ⟨.none, none, .func ⟨"__eq__", "Holding.__eq__", defArgs (cm 40 2), .stmts (defBody (cm 40 2)), defScope (cm 40 2), 0, [], .none, .none, .none, .none, none, .none, .none, 0⟩, #[]⟩
def ob304 (P : Params) : Obj := ⟨.type "code", none, .fields #[.str "__eq__" 571, .str "Holding.__eq__" 572, .str "/claim/cut.py" 573, .int 133 0, .int 2 0, .int 0 0, .int 0 0, .int 3 0, .ref 308, .bool true, .int 181 0, .ref 309, .none, .ref 310, .ref 311, .ref 312, .int 576 0, .int 133 0, .str "/claim/cut.py" 577], #[]⟩
def ob305 (P : Params) : Obj := ⟨.type "function", none, .func ⟨"__eq__", "Holding.__eq__", defArgs (cm 40 2), .stmts (defBody (cm 40 2)), defScope (cm 40 2), 3, [], .none, .none, .none, .str "fewasks.holding" 544, none, .ref 313, .none, 0⟩, #[]⟩
def ob306 (P : Params) : Obj := ⟨.type "tuple", none, .seq #[] 0, #[]⟩
def ob307 (P : Params) : Obj := ⟨.none, none, .fields #[], #[]⟩
def ob308 (P : Params) : Obj := ⟨.none, none, .func ⟨"__str__", "Holding.__str__", defArgs (cm 40 3), .stmts (defBody (cm 40 3)), defScope (cm 40 3), 0, [], .none, .none, .none, .none, none, .none, .none, 0⟩, #[]⟩
def ob309 (P : Params) : Obj := ⟨.type "code", none, .fields #[.str "__str__" 579, .str "Holding.__str__" 580, .str "/claim/cut.py" 581, .int 136 0, .int 1 0, .int 0 0, .int 0 0, .int 3 0, .ref 315, .bool true, .int 181 0, .ref 316, .none, .none, .none, .ref 317, .int 582 0, .int 136 0, .str "/claim/cut.py" 583], #[]⟩
def ob310 (P : Params) : Obj := ⟨.type "function", none, .func ⟨"__str__", "Holding.__str__", defArgs (cm 40 3), .stmts (defBody (cm 40 3)), defScope (cm 40 3), 3, [], .none, .none, .none, .str "fewasks.holding" 544, none, .ref 318, .none, 0⟩, #[]⟩
def ob311 (P : Params) : Obj := ⟨.type "tuple", none, .seq #[] 0, #[]⟩
def ob312 (P : Params) : Obj := ⟨.none, none, .fields #[], #[]⟩
def ob313 (P : Params) : Obj := ⟨.type "tuple", none, .seq #[.str "self" 588, .str "name" 589] 0, #[]⟩
def ob314 (P : Params) : Obj := ⟨.type "tuple", none, .seq #[] 0, #[]⟩
def ob315 (P : Params) : Obj := ⟨.none, none, .func ⟨"holds", "Holding.holds", defArgs (cm 40 4), .stmts (defBody (cm 40 4)), defScope (cm 40 4), 0, [], .none, .none, .none, .none, none, .none, .none, 0⟩, #[]⟩
def ob316 (P : Params) : Obj := ⟨.type "code", none, .fields #[.str "holds" 585, .str "Holding.holds" 586, .str "/claim/cut.py" 587, .int 139 0, .int 2 0, .int 0 0, .int 0 0, .int 3 0, .ref 320, .bool true, .int 181 0, .ref 321, .none, .ref 322, .ref 323, .ref 324, .int 590 0, .int 139 0, .str "/claim/cut.py" 591], #[]⟩
def ob317 (P : Params) : Obj := ⟨.type "function", none, .func ⟨"holds", "Holding.holds", defArgs (cm 40 4), .stmts (defBody (cm 40 4)), defScope (cm 40 4), 3, [], .none, .none, .none, .str "fewasks.holding" 544, none, .ref 325, .none, 0⟩, #[]⟩
def ob318 (P : Params) : Obj := ⟨.type "tuple", none, .seq #[] 0, #[]⟩
def ob319 (P : Params) : Obj := ⟨.none, none, .fields #[], #[]⟩
def ob320 (P : Params) : Obj := ⟨.type "tuple", none, .seq #[.str "self" 596, .str "thing" 597] 0, #[]⟩
def ob321 (P : Params) : Obj := ⟨.type "tuple", none, .seq #[] 0, #[]⟩
def ob322 (P : Params) : Obj := ⟨.none, none, .func ⟨"holds_version", "Holding.holds_version", defArgs (cm 40 5), .stmts (defBody (cm 40 5)), defScope (cm 40 5), 0, [], .none, .none, .none, .none, none, .none, .none, 0⟩, #[]⟩
def ob323 (P : Params) : Obj := ⟨.type "code", none, .fields #[.str "holds_version" 593, .str "Holding.holds_version" 594, .str "/claim/cut.py" 595, .int 142 0, .int 2 0, .int 0 0, .int 0 0, .int 3 0, .ref 327, .bool true, .int 181 0, .ref 328, .none, .ref 329, .ref 330, .ref 331, .int 598 0, .int 142 0, .str "/claim/cut.py" 599], #[]⟩
def ob324 (P : Params) : Obj := ⟨.type "function", none, .func ⟨"holds_version", "Holding.holds_version", defArgs (cm 40 5), .stmts (defBody (cm 40 5)), defScope (cm 40 5), 3, [], .none, .none, .none, .str "fewasks.holding" 544, none, .ref 332, .none, 0⟩, #[]⟩
def ob325 (P : Params) : Obj := ⟨.type "tuple", none, .seq #[] 0, #[]⟩
def ob326 (P : Params) : Obj := ⟨.none, none, .fields #[], #[]⟩
def ob327 (P : Params) : Obj := ⟨.type "tuple", none, .seq #[.str "self" 604] 0, #[]⟩
def ob328 (P : Params) : Obj := ⟨.type "tuple", none, .seq #[] 0, #[]⟩
def ob329 (P : Params) : Obj := ⟨.none, none, .func ⟨"names", "Holding.names", defArgs (cm 40 6), .stmts (defBody (cm 40 6)), defScope (cm 40 6), 0, [], .none, .none, .none, .none, none, .none, .none, 0⟩, #[]⟩
def ob330 (P : Params) : Obj := ⟨.type "code", none, .fields #[.str "names" 601, .str "Holding.names" 602, .str "/claim/cut.py" 603, .int 145 0, .int 1 0, .int 0 0, .int 0 0, .int 3 0, .ref 334, .bool true, .int 181 0, .ref 335, .none, .ref 336, .ref 337, .ref 338, .int 605 0, .int 145 0, .str "/claim/cut.py" 606], #[]⟩
def ob331 (P : Params) : Obj := ⟨.type "function", none, .func ⟨"names", "Holding.names", defArgs (cm 40 6), .stmts (defBody (cm 40 6)), defScope (cm 40 6), 3, [], .none, .none, .none, .str "fewasks.holding" 544, none, .ref 339, .none, 0⟩, #[]⟩
def ob332 (P : Params) : Obj := ⟨.type "tuple", none, .seq #[] 0, #[]⟩
def ob333 (P : Params) : Obj := ⟨.none, none, .fields #[], #[]⟩
def ob334 (P : Params) : Obj := ⟨.type "tuple", none, .seq #[.str "self" 611] 0, #[]⟩
def ob335 (P : Params) : Obj := ⟨.type "tuple", none, .seq #[] 0, #[]⟩
def ob336 (P : Params) : Obj := ⟨.none, none, .func ⟨"versions", "Holding.versions", defArgs (cm 40 7), .stmts (defBody (cm 40 7)), defScope (cm 40 7), 0, [], .none, .none, .none, .none, none, .none, .none, 0⟩, #[]⟩
def ob337 (P : Params) : Obj := ⟨.type "code", none, .fields #[.str "versions" 608, .str "Holding.versions" 609, .str "/claim/cut.py" 610, .int 148 0, .int 1 0, .int 0 0, .int 0 0, .int 3 0, .ref 341, .bool true, .int 181 0, .ref 342, .none, .ref 343, .ref 344, .ref 345, .int 612 0, .int 148 0, .str "/claim/cut.py" 613], #[]⟩
def ob338 (P : Params) : Obj := ⟨.type "function", none, .func ⟨"versions", "Holding.versions", defArgs (cm 40 7), .stmts (defBody (cm 40 7)), defScope (cm 40 7), 3, [], .none, .none, .none, .str "fewasks.holding" 544, none, .ref 346, .none, 0⟩, #[]⟩
def ob339 (P : Params) : Obj := ⟨.type "tuple", none, .seq #[] 0, #[]⟩
def ob340 (P : Params) : Obj := ⟨.none, none, .fields #[], #[]⟩
def ob341 (P : Params) : Obj := ⟨.type "tuple", none, .seq #[.str "self" 618] 0, #[]⟩
def ob342 (P : Params) : Obj := ⟨.type "tuple", none, .seq #[] 0, #[]⟩
def ob343 (P : Params) : Obj := ⟨.none, none, .func ⟨"edges", "Holding.edges", defArgs (cm 40 8), .stmts (defBody (cm 40 8)), defScope (cm 40 8), 0, [], .none, .none, .none, .none, none, .none, .none, 0⟩, #[]⟩
def ob344 (P : Params) : Obj := ⟨.type "code", none, .fields #[.str "edges" 615, .str "Holding.edges" 616, .str "/claim/cut.py" 617, .int 151 0, .int 1 0, .int 0 0, .int 0 0, .int 3 0, .ref 348, .bool true, .int 181 0, .ref 349, .none, .ref 350, .ref 351, .ref 352, .int 619 0, .int 151 0, .str "/claim/cut.py" 620], #[]⟩
def ob345 (P : Params) : Obj := ⟨.type "function", none, .func ⟨"edges", "Holding.edges", defArgs (cm 40 8), .stmts (defBody (cm 40 8)), defScope (cm 40 8), 3, [], .none, .none, .none, .str "fewasks.holding" 544, none, .ref 353, .none, 0⟩, #[]⟩
def ob346 (P : Params) : Obj := ⟨.type "tuple", none, .seq #[] 0, #[]⟩
def ob347 (P : Params) : Obj := ⟨.none, none, .fields #[], #[]⟩
def ob348 (P : Params) : Obj := ⟨.type "tuple", none, .seq #[.str "self" 625, .str "version" 626] 0, #[]⟩
def ob349 (P : Params) : Obj := ⟨.type "tuple", none, .seq #[] 0, #[]⟩
def ob350 (P : Params) : Obj := ⟨.none, none, .func ⟨"has_parents", "Holding.has_parents", defArgs (cm 40 9), .stmts (defBody (cm 40 9)), defScope (cm 40 9), 0, [], .none, .none, .none, .none, none, .none, .none, 0⟩, #[]⟩
def ob351 (P : Params) : Obj := ⟨.type "code", none, .fields #[.str "has_parents" 622, .str "Holding.has_parents" 623, .str "/claim/cut.py" 624, .int 154 0, .int 2 0, .int 0 0, .int 0 0, .int 3 0, .ref 355, .bool true, .int 181 0, .ref 356, .none, .ref 357, .ref 358, .ref 359, .int 627 0, .int 154 0, .str "/claim/cut.py" 628], #[]⟩
def ob352 (P : Params) : Obj := ⟨.type "function", none, .func ⟨"has_parents", "Holding.has_parents", defArgs (cm 40 9), .stmts (defBody (cm 40 9)), defScope (cm 40 9), 3, [], .none, .none, .none, .str "fewasks.holding" 544, none, .ref 360, .none, 0⟩, #[]⟩
def ob353 (P : Params) : Obj := ⟨.type "tuple", none, .seq #[] 0, #[]⟩
def ob354 (P : Params) : Obj := ⟨.none, none, .fields #[], #[]⟩
def ob355 (P : Params) : Obj := ⟨.type "tuple", none, .seq #[.str "self" 633, .str "version" 634] 0, #[]⟩
def ob356 (P : Params) : Obj := ⟨.type "tuple", none, .seq #[] 0, #[]⟩
def ob357 (P : Params) : Obj := ⟨.none, none, .func ⟨"held_parents", "Holding.held_parents", defArgs (cm 40 10), .stmts (defBody (cm 40 10)), defScope (cm 40 10), 0, [], .none, .none, .none, .none, none, .none, .none, 0⟩, #[]⟩
def ob358 (P : Params) : Obj := ⟨.type "code", none, .fields #[.str "held_parents" 630, .str "Holding.held_parents" 631, .str "/claim/cut.py" 632, .int 157 0, .int 2 0, .int 0 0, .int 0 0, .int 3 0, .ref 362, .bool true, .int 181 0, .ref 363, .none, .ref 364, .ref 365, .ref 366, .int 635 0, .int 157 0, .str "/claim/cut.py" 636], #[]⟩
def ob359 (P : Params) : Obj := ⟨.type "function", none, .func ⟨"held_parents", "Holding.held_parents", defArgs (cm 40 10), .stmts (defBody (cm 40 10)), defScope (cm 40 10), 3, [], .none, .none, .none, .str "fewasks.holding" 544, none, .ref 367, .none, 0⟩, #[]⟩
def ob360 (P : Params) : Obj := ⟨.type "tuple", none, .seq #[.str "book" 638, .str "inside" 639, .str "ordered" 640] 0, #[]⟩
def ob361 (P : Params) : Obj := ⟨.type "dict", none, .dict #[⟨PyData.keyHash P "__module__", .str "__module__" 553, .str "fewasks.holding" 544⟩, ⟨PyData.keyHash P "__firstlineno__", .str "__firstlineno__" 557, .int 120 556⟩, ⟨PyData.keyHash P "__init__", .str "__init__" 563, .ref 300⟩, ⟨PyData.keyHash P "__len__", .str "__len__" 570, .ref 307⟩, ⟨PyData.keyHash P "__eq__", .str "__eq__" 578, .ref 314⟩, ⟨PyData.keyHash P "__str__", .str "__str__" 584, .ref 319⟩, ⟨PyData.keyHash P "holds", .str "holds" 592, .ref 326⟩, ⟨PyData.keyHash P "holds_version", .str "holds_version" 600, .ref 333⟩, ⟨PyData.keyHash P "names", .str "names" 607, .ref 340⟩, ⟨PyData.keyHash P "versions", .str "versions" 614, .ref 347⟩, ⟨PyData.keyHash P "edges", .str "edges" 621, .ref 354⟩, ⟨PyData.keyHash P "has_parents", .str "has_parents" 629, .ref 361⟩, ⟨PyData.keyHash P "held_parents", .str "held_parents" 637, .ref 368⟩, ⟨PyData.keyHash P "__static_attributes__", .str "__static_attributes__" 641, .ref 369⟩, ⟨PyData.keyHash P "__dict__", .str "__dict__" 643, .ref 372⟩, ⟨PyData.keyHash P "__weakref__", .str "__weakref__" 645, .ref 373⟩, ⟨PyData.keyHash P "__doc__", .str "__doc__" 646, .none⟩, ⟨PyData.keyHash P "__hash__", .str "__hash__" 647, .none⟩] 5, #[]⟩
def ob362 (P : Params) : Obj := ⟨.type "type", none, .cls ⟨"Holding", [.type "object"], [.ref 371, .type "object"], 370, "Holding", true, [], [], false, none, false⟩, #[none, none, some (.str "Holding" 546), some (.str "Holding" 554), some (.builtin "object.__new__"), some (.bool true)]⟩
def ob363 (P : Params) : Obj := ⟨.type "getset_descriptor", none, .fields #[.str "__dict__" 642, .ref 371, .builtin "function.__dict__", .builtin "function.__dict__#set"], #[]⟩
def ob364 (P : Params) : Obj := ⟨.type "getset_descriptor", none, .fields #[.str "__weakref__" 644, .ref 371, .builtin "ExceptionGroup.__weakref__", .none], #[]⟩
def ob365 (P : Params) : Obj := ⟨.type "super", none, .fields #[.ref 371, .ref 371, .ref 371], #[]⟩
def ob366 (P : Params) : Obj := ⟨.type "builtin_function_or_method", none, .fields #[.builtin "object.__init_subclass__", .ref 371], #[]⟩
def ob367 (P : Params) : Obj := ⟨.type "tuple", none, .seq #[] 0, #[]⟩
def ob368 (P : Params) : Obj := ⟨.type "builtin_function_or_method", none, .fields #[.builtin "type.__prepare__", .type "type"], #[]⟩
def ob369 (P : Params) : Obj := ⟨.type "dict", none, .dict #[⟨PyData.keyHash P "__module__", .str "__module__" 659, .str "fewasks.store" 650⟩, ⟨PyData.keyHash P "__qualname__", .str "__qualname__" 661, .str "Store" 660⟩, ⟨PyData.keyHash P "__firstlineno__", .str "__firstlineno__" 663, .int 160 662⟩, ⟨PyData.keyHash P "__init__", .str "__init__" 671, .ref 389⟩, ⟨PyData.keyHash P "__len__", .str "__len__" 678, .ref 396⟩, ⟨PyData.keyHash P "put", .str "put" 686, .ref 403⟩, ⟨PyData.keyHash P "write", .str "write" 695, .ref 410⟩, ⟨PyData.keyHash P "holds", .str "holds" 703, .ref 417⟩, ⟨PyData.keyHash P "held", .str "held" 710, .ref 424⟩, ⟨PyData.keyHash P "view", .str "view" 717, .ref 431⟩, ⟨PyData.keyHash P "changes", .str "changes" 724, .ref 438⟩, ⟨PyData.keyHash P "__static_attributes__", .str "__static_attributes__" 728, .ref 439⟩] 12, #[]⟩
def ob370 (P : Params) : Obj := ⟨.type "tuple", none, .seq #[] 0, #[]⟩
def ob371 (P : Params) : Obj := ⟨.none, none, .fields #[.int 162 0, .int 4 0, .ref 388, .int 167 0, .int 4 0, .ref 395, .int 170 0, .int 4 0, .ref 402, .int 179 0, .int 4 0, .ref 409, .int 184 0, .int 4 0, .ref 416, .int 187 0, .int 4 0, .ref 423, .int 190 0, .int 4 0, .ref 430, .int 193 0, .int 4 0, .ref 437], #[]⟩
def ob372 (P : Params) : Obj := ⟨.type "code", none, .fields #[.str "Store" 654, .str "Store" 655, .str "/claim/cut.py" 656, .int 160 0, .int 0 0, .int 0 0, .int 0 0, .int 0 0, .ref 379, .bool false, .int 181 0, .ref 380, .none, .none, .none, .none, .int 657 0, .int 160 0, .str "/claim/cut.py" 658], #[]⟩
def ob373 (P : Params) : Obj := ⟨.type "frame", none, .plain, #[some (.ref 381), some (.ref 3), some (.ref 378), none, some (.str "fewasks.store" 650), none, some (.ref 0)]⟩
def ob374 (P : Params) : Obj := ⟨.type "tuple", none, .seq #[] 0, #[]⟩
def ob375 (P : Params) : Obj := ⟨.none, none, .fields #[], #[]⟩
def ob376 (P : Params) : Obj := ⟨.type "tuple", none, .seq #[.str "self" 667, .str "book" 668] 0, #[]⟩
def ob377 (P : Params) : Obj := ⟨.type "tuple", none, .seq #[] 0, #[]⟩
def ob378 (P : Params) : Obj := ⟨.none, none, .func ⟨"__init__", "Store.__init__", defArgs (cm 42 0), .stmts (defBody (cm 42 0)), defScope (cm 42 0), 0, [], .none, .none, .none, .none, none, .none, .none, 0⟩, #[]⟩
def ob379 (P : Params) : Obj := ⟨.type "code", none, .fields #[.str "__init__" 664, .str "Store.__init__" 665, .str "/claim/cut.py" 666, .int 162 0, .int 2 0, .int 0 0, .int 0 0, .int 3 0, .ref 383, .bool true, .int 181 0, .ref 384, .none, .ref 385, .ref 386, .ref 387, .int 669 0, .int 162 0, .str "/claim/cut.py" 670], #[]⟩
def ob380 (P : Params) : Obj := ⟨.type "function", none, .func ⟨"__init__", "Store.__init__", defArgs (cm 42 0), .stmts (defBody (cm 42 0)), defScope (cm 42 0), 3, [], .none, .none, .none, .str "fewasks.store" 650, none, .ref 388, .none, 0⟩, #[]⟩
def ob381 (P : Params) : Obj := ⟨.type "tuple", none, .seq #[] 0, #[]⟩
def ob382 (P : Params) : Obj := ⟨.none, none, .fields #[], #[]⟩
def ob383 (P : Params) : Obj := ⟨.type "tuple", none, .seq #[.str "self" 675] 0, #[]⟩
def ob384 (P : Params) : Obj := ⟨.type "tuple", none, .seq #[] 0, #[]⟩
def ob385 (P : Params) : Obj := ⟨.none, none, .func ⟨"__len__", "Store.__len__", defArgs (cm 42 1), .stmts (defBody (cm 42 1)), defScope (cm 42 1), 0, [], .none, .none, .none, .none, none, .none, .none, 0⟩, #[]⟩
def ob386 (P : Params) : Obj := ⟨.type "code", none, .fields #[.str "__len__" 672, .str "Store.__len__" 673, .str "/claim/cut.py" 674, .int 167 0, .int 1 0, .int 0 0, .int 0 0, .int 3 0, .ref 390, .bool true, .int 181 0, .ref 391, .none, .ref 392, .ref 393, .ref 394, .int 676 0, .int 167 0, .str "/claim/cut.py" 677], #[]⟩
def ob387 (P : Params) : Obj := ⟨.type "function", none, .func ⟨"__len__", "Store.__len__", defArgs (cm 42 1), .stmts (defBody (cm 42 1)), defScope (cm 42 1), 3, [], .none, .none, .none, .str "fewasks.store" 650, none, .ref 395, .none, 0⟩, #[]⟩
def ob388 (P : Params) : Obj := ⟨.type "tuple", none, .seq #[] 0, #[]⟩
def ob389 (P : Params) : Obj := ⟨.none, none, .fields #[], #[]⟩
def ob390 (P : Params) : Obj := ⟨.type "tuple", none, .seq #[.str "self" 682, .str "name" 683] 0, #[]⟩
def ob391 (P : Params) : Obj := ⟨.type "tuple", none, .seq #[] 0, #[]⟩
def ob392 (P : Params) : Obj := ⟨.none, none, .func ⟨"put", "Store.put", defArgs (cm 42 2), .stmts (defBody (cm 42 2)), defScope (cm 42 2), 0, [], .none, .none, .none, .none, none, .none, .none, 0⟩, #[]⟩
def ob393 (P : Params) : Obj := ⟨.type "code", none, .fields #[.str "put" 679, .str "Store.put" 680, .str "/claim/cut.py" 681, .int 170 0, .int 2 0, .int 0 0, .int 0 0, .int 3 0, .ref 397, .bool true, .int 181 0, .ref 398, .none, .ref 399, .ref 400, .ref 401, .int 684 0, .int 170 0, .str "/claim/cut.py" 685], #[]⟩
def ob394 (P : Params) : Obj := ⟨.type "function", none, .func ⟨"put", "Store.put", defArgs (cm 42 2), .stmts (defBody (cm 42 2)), defScope (cm 42 2), 3, [], .none, .none, .none, .str "fewasks.store" 650, none, .ref 402, .none, 0⟩, #[]⟩
def ob395 (P : Params) : Obj := ⟨.type "tuple", none, .seq #[] 0, #[]⟩
def ob396 (P : Params) : Obj := ⟨.none, none, .fields #[], #[]⟩
def ob397 (P : Params) : Obj := ⟨.type "tuple", none, .seq #[.str "self" 690, .str "content" 691, .str "name" 692] 0, #[]⟩
def ob398 (P : Params) : Obj := ⟨.type "tuple", none, .seq #[] 0, #[]⟩
def ob399 (P : Params) : Obj := ⟨.none, none, .func ⟨"write", "Store.write", defArgs (cm 42 3), .stmts (defBody (cm 42 3)), defScope (cm 42 3), 0, [], .none, .none, .none, .none, none, .none, .none, 0⟩, #[]⟩
def ob400 (P : Params) : Obj := ⟨.type "code", none, .fields #[.str "write" 687, .str "Store.write" 688, .str "/claim/cut.py" 689, .int 179 0, .int 2 0, .int 0 0, .int 0 0, .int 3 0, .ref 404, .bool true, .int 181 0, .ref 405, .none, .ref 406, .ref 407, .ref 408, .int 693 0, .int 179 0, .str "/claim/cut.py" 694], #[]⟩
def ob401 (P : Params) : Obj := ⟨.type "function", none, .func ⟨"write", "Store.write", defArgs (cm 42 3), .stmts (defBody (cm 42 3)), defScope (cm 42 3), 3, [], .none, .none, .none, .str "fewasks.store" 650, none, .ref 409, .none, 0⟩, #[]⟩
def ob402 (P : Params) : Obj := ⟨.type "tuple", none, .seq #[] 0, #[]⟩
def ob403 (P : Params) : Obj := ⟨.none, none, .fields #[], #[]⟩
def ob404 (P : Params) : Obj := ⟨.type "tuple", none, .seq #[.str "self" 699, .str "name" 700] 0, #[]⟩
def ob405 (P : Params) : Obj := ⟨.type "tuple", none, .seq #[] 0, #[]⟩
def ob406 (P : Params) : Obj := ⟨.none, none, .func ⟨"holds", "Store.holds", defArgs (cm 42 4), .stmts (defBody (cm 42 4)), defScope (cm 42 4), 0, [], .none, .none, .none, .none, none, .none, .none, 0⟩, #[]⟩
def ob407 (P : Params) : Obj := ⟨.type "code", none, .fields #[.str "holds" 696, .str "Store.holds" 697, .str "/claim/cut.py" 698, .int 184 0, .int 2 0, .int 0 0, .int 0 0, .int 3 0, .ref 411, .bool true, .int 181 0, .ref 412, .none, .ref 413, .ref 414, .ref 415, .int 701 0, .int 184 0, .str "/claim/cut.py" 702], #[]⟩
def ob408 (P : Params) : Obj := ⟨.type "function", none, .func ⟨"holds", "Store.holds", defArgs (cm 42 4), .stmts (defBody (cm 42 4)), defScope (cm 42 4), 3, [], .none, .none, .none, .str "fewasks.store" 650, none, .ref 416, .none, 0⟩, #[]⟩
def ob409 (P : Params) : Obj := ⟨.type "tuple", none, .seq #[] 0, #[]⟩
def ob410 (P : Params) : Obj := ⟨.none, none, .fields #[], #[]⟩
def ob411 (P : Params) : Obj := ⟨.type "tuple", none, .seq #[.str "self" 707] 0, #[]⟩
def ob412 (P : Params) : Obj := ⟨.type "tuple", none, .seq #[] 0, #[]⟩
def ob413 (P : Params) : Obj := ⟨.none, none, .func ⟨"held", "Store.held", defArgs (cm 42 5), .stmts (defBody (cm 42 5)), defScope (cm 42 5), 0, [], .none, .none, .none, .none, none, .none, .none, 0⟩, #[]⟩
def ob414 (P : Params) : Obj := ⟨.type "code", none, .fields #[.str "held" 704, .str "Store.held" 705, .str "/claim/cut.py" 706, .int 187 0, .int 1 0, .int 0 0, .int 0 0, .int 3 0, .ref 418, .bool true, .int 181 0, .ref 419, .none, .ref 420, .ref 421, .ref 422, .int 708 0, .int 187 0, .str "/claim/cut.py" 709], #[]⟩
def ob415 (P : Params) : Obj := ⟨.type "function", none, .func ⟨"held", "Store.held", defArgs (cm 42 5), .stmts (defBody (cm 42 5)), defScope (cm 42 5), 3, [], .none, .none, .none, .str "fewasks.store" 650, none, .ref 423, .none, 0⟩, #[]⟩
def ob416 (P : Params) : Obj := ⟨.type "tuple", none, .seq #[] 0, #[]⟩
def ob417 (P : Params) : Obj := ⟨.none, none, .fields #[], #[]⟩
def ob418 (P : Params) : Obj := ⟨.type "tuple", none, .seq #[.str "self" 714] 0, #[]⟩
def ob419 (P : Params) : Obj := ⟨.type "tuple", none, .seq #[] 0, #[]⟩
def ob420 (P : Params) : Obj := ⟨.none, none, .func ⟨"view", "Store.view", defArgs (cm 42 6), .stmts (defBody (cm 42 6)), defScope (cm 42 6), 0, [], .none, .none, .none, .none, none, .none, .none, 0⟩, #[]⟩
def ob421 (P : Params) : Obj := ⟨.type "code", none, .fields #[.str "view" 711, .str "Store.view" 712, .str "/claim/cut.py" 713, .int 190 0, .int 1 0, .int 0 0, .int 0 0, .int 3 0, .ref 425, .bool true, .int 181 0, .ref 426, .none, .ref 427, .ref 428, .ref 429, .int 715 0, .int 190 0, .str "/claim/cut.py" 716], #[]⟩
def ob422 (P : Params) : Obj := ⟨.type "function", none, .func ⟨"view", "Store.view", defArgs (cm 42 6), .stmts (defBody (cm 42 6)), defScope (cm 42 6), 3, [], .none, .none, .none, .str "fewasks.store" 650, none, .ref 430, .none, 0⟩, #[]⟩
def ob423 (P : Params) : Obj := ⟨.type "tuple", none, .seq #[] 0, #[]⟩
def ob424 (P : Params) : Obj := ⟨.none, none, .fields #[], #[]⟩
def ob425 (P : Params) : Obj := ⟨.type "tuple", none, .seq #[.str "self" 721] 0, #[]⟩
def ob426 (P : Params) : Obj := ⟨.type "tuple", none, .seq #[] 0, #[]⟩
def ob427 (P : Params) : Obj := ⟨.none, none, .func ⟨"changes", "Store.changes", defArgs (cm 42 7), .stmts (defBody (cm 42 7)), defScope (cm 42 7), 0, [], .none, .none, .none, .none, none, .none, .none, 0⟩, #[]⟩
def ob428 (P : Params) : Obj := ⟨.type "code", none, .fields #[.str "changes" 718, .str "Store.changes" 719, .str "/claim/cut.py" 720, .int 193 0, .int 1 0, .int 0 0, .int 0 0, .int 3 0, .ref 432, .bool true, .int 181 0, .ref 433, .none, .ref 434, .ref 435, .ref 436, .int 722 0, .int 193 0, .str "/claim/cut.py" 723], #[]⟩
def ob429 (P : Params) : Obj := ⟨.type "function", none, .func ⟨"changes", "Store.changes", defArgs (cm 42 7), .stmts (defBody (cm 42 7)), defScope (cm 42 7), 3, [], .none, .none, .none, .str "fewasks.store" 650, none, .ref 437, .none, 0⟩, #[]⟩
def ob430 (P : Params) : Obj := ⟨.type "tuple", none, .seq #[.str "book" 725, .str "inside" 726, .str "many_changes" 727] 0, #[]⟩
def ob431 (P : Params) : Obj := ⟨.type "dict", none, .dict #[⟨PyData.keyHash P "__module__", .str "__module__" 659, .str "fewasks.store" 650⟩, ⟨PyData.keyHash P "__firstlineno__", .str "__firstlineno__" 663, .int 160 662⟩, ⟨PyData.keyHash P "__init__", .str "__init__" 671, .ref 389⟩, ⟨PyData.keyHash P "__len__", .str "__len__" 678, .ref 396⟩, ⟨PyData.keyHash P "put", .str "put" 686, .ref 403⟩, ⟨PyData.keyHash P "write", .str "write" 695, .ref 410⟩, ⟨PyData.keyHash P "holds", .str "holds" 703, .ref 417⟩, ⟨PyData.keyHash P "held", .str "held" 710, .ref 424⟩, ⟨PyData.keyHash P "view", .str "view" 717, .ref 431⟩, ⟨PyData.keyHash P "changes", .str "changes" 724, .ref 438⟩, ⟨PyData.keyHash P "__static_attributes__", .str "__static_attributes__" 728, .ref 439⟩, ⟨PyData.keyHash P "__dict__", .str "__dict__" 730, .ref 442⟩, ⟨PyData.keyHash P "__weakref__", .str "__weakref__" 732, .ref 443⟩, ⟨PyData.keyHash P "__doc__", .str "__doc__" 733, .none⟩] 4, #[]⟩
def ob432 (P : Params) : Obj := ⟨.type "type", none, .cls ⟨"Store", [.type "object"], [.ref 441, .type "object"], 440, "Store", true, [], [], false, none, false⟩, #[none, none, some (.str "Store" 652), some (.str "Store" 660), some (.builtin "object.__new__"), some (.bool true)]⟩
def ob433 (P : Params) : Obj := ⟨.type "getset_descriptor", none, .fields #[.str "__dict__" 729, .ref 441, .builtin "function.__dict__", .builtin "function.__dict__#set"], #[]⟩
def ob434 (P : Params) : Obj := ⟨.type "getset_descriptor", none, .fields #[.str "__weakref__" 731, .ref 441, .builtin "ExceptionGroup.__weakref__", .none], #[]⟩
def ob435 (P : Params) : Obj := ⟨.type "super", none, .fields #[.ref 441, .ref 441, .ref 441], #[]⟩
def ob436 (P : Params) : Obj := ⟨.type "builtin_function_or_method", none, .fields #[.builtin "object.__init_subclass__", .ref 441], #[]⟩
def tr43_0 (P : Params) : BT := SegH.insL (tr0_0 P) [(3, ob4 P), (12, ob5 P), (15, ob6 P), (16, ob7 P), (17, ob8 P), (18, ob9 P), (19, ob10 P), (20, ob11 P), (21, ob12 P), (22, ob13 P), (23, ob14 P), (24, ob15 P), (25, ob16 P), (26, ob17 P), (27, ob18 P), (28, ob19 P), (29, ob20 P), (30, ob21 P), (31, ob22 P), (32, ob23 P), (33, ob24 P), (34, ob25 P), (35, ob26 P), (36, ob27 P), (37, ob28 P), (38, ob29 P), (39, ob30 P), (40, ob31 P), (41, ob32 P), (42, ob33 P), (43, ob34 P), (44, ob35 P), (45, ob36 P), (46, ob37 P), (47, ob38 P), (48, ob39 P), (49, ob40 P), (50, ob41 P), (51, ob42 P), (52, ob43 P)]
def tr43_1 (P : Params) : BT := SegH.insL (tr43_0 P) [(53, ob44 P), (54, ob45 P), (55, ob46 P), (56, ob47 P), (57, ob48 P), (58, ob49 P), (59, ob50 P), (60, ob51 P), (61, ob52 P), (62, ob53 P), (63, ob54 P), (64, ob55 P), (65, ob56 P), (66, ob57 P), (67, ob58 P), (68, ob59 P), (69, ob60 P), (70, ob61 P), (71, ob62 P), (72, ob63 P), (73, ob64 P), (74, ob65 P), (75, ob66 P), (76, ob67 P), (77, ob68 P), (78, ob69 P), (79, ob70 P), (80, ob71 P), (81, ob72 P), (82, ob73 P), (83, ob74 P), (84, ob75 P), (85, ob76 P), (86, ob77 P), (87, ob78 P), (88, ob79 P), (89, ob80 P), (90, ob81 P), (91, ob82 P), (92, ob83 P)]
def tr43_2 (P : Params) : BT := SegH.insL (tr43_1 P) [(93, ob84 P), (94, ob85 P), (95, ob86 P), (96, ob87 P), (97, ob88 P), (98, ob89 P), (99, ob90 P), (100, ob91 P), (101, ob92 P), (102, ob93 P), (103, ob94 P), (104, ob95 P), (105, ob96 P), (106, ob97 P), (107, ob98 P), (108, ob99 P), (109, ob100 P), (110, ob101 P), (111, ob102 P), (112, ob103 P), (113, ob104 P), (114, ob105 P), (115, ob106 P), (116, ob107 P), (117, ob108 P), (118, ob109 P), (119, ob110 P), (120, ob111 P), (121, ob112 P), (122, ob113 P), (123, ob114 P), (124, ob115 P), (125, ob116 P), (126, ob117 P), (127, ob118 P), (128, ob119 P), (129, ob120 P), (130, ob121 P), (131, ob122 P), (132, ob123 P)]
def tr43_3 (P : Params) : BT := SegH.insL (tr43_2 P) [(133, ob124 P), (134, ob125 P), (135, ob126 P), (136, ob127 P), (137, ob128 P), (138, ob129 P), (139, ob130 P), (140, ob131 P), (141, ob132 P), (142, ob133 P), (143, ob134 P), (144, ob135 P), (145, ob136 P), (146, ob137 P), (147, ob138 P), (148, ob139 P), (149, ob140 P), (150, ob141 P), (151, ob142 P), (152, ob143 P), (153, ob144 P), (154, ob145 P), (155, ob146 P), (156, ob147 P), (157, ob148 P), (158, ob149 P), (159, ob150 P), (160, ob151 P), (161, ob152 P), (162, ob153 P), (163, ob154 P), (164, ob155 P), (165, ob156 P), (166, ob157 P), (167, ob158 P), (168, ob159 P), (169, ob160 P), (170, ob161 P), (171, ob162 P), (172, ob163 P)]
def tr43_4 (P : Params) : BT := SegH.insL (tr43_3 P) [(173, ob164 P), (174, ob165 P), (175, ob166 P), (176, ob167 P), (177, ob168 P), (178, ob169 P), (179, ob170 P), (180, ob171 P), (181, ob172 P), (182, ob173 P), (183, ob174 P), (184, ob175 P), (185, ob176 P), (186, ob177 P), (187, ob178 P), (188, ob179 P), (189, ob180 P), (190, ob181 P), (191, ob182 P), (192, ob183 P), (193, ob184 P), (194, ob185 P), (195, ob186 P), (196, ob187 P), (197, ob188 P), (198, ob189 P), (199, ob190 P), (200, ob191 P), (201, ob192 P), (202, ob193 P), (203, ob194 P), (204, ob195 P), (205, ob196 P), (206, ob197 P), (207, ob198 P), (208, ob199 P), (209, ob200 P), (210, ob201 P), (211, ob202 P), (212, ob203 P)]
def tr43_5 (P : Params) : BT := SegH.insL (tr43_4 P) [(213, ob204 P), (214, ob205 P), (215, ob206 P), (216, ob207 P), (217, ob208 P), (218, ob209 P), (219, ob210 P), (220, ob211 P), (221, ob212 P), (222, ob213 P), (223, ob214 P), (224, ob215 P), (225, ob216 P), (226, ob217 P), (227, ob218 P), (228, ob219 P), (229, ob220 P), (230, ob221 P), (231, ob222 P), (232, ob223 P), (233, ob224 P), (234, ob225 P), (235, ob226 P), (236, ob227 P), (237, ob228 P), (238, ob229 P), (239, ob230 P), (240, ob231 P), (241, ob232 P), (242, ob233 P), (243, ob234 P), (244, ob235 P), (245, ob236 P), (246, ob237 P), (247, ob238 P), (248, ob239 P), (249, ob240 P), (250, ob241 P), (251, ob242 P), (252, ob243 P)]
def tr43_6 (P : Params) : BT := SegH.insL (tr43_5 P) [(253, ob244 P), (254, ob245 P), (255, ob246 P), (256, ob247 P), (257, ob248 P), (258, ob249 P), (259, ob250 P), (260, ob251 P), (261, ob252 P), (262, ob253 P), (263, ob254 P), (264, ob255 P), (265, ob256 P), (266, ob257 P), (267, ob258 P), (268, ob259 P), (269, ob260 P), (270, ob261 P), (271, ob262 P), (272, ob263 P), (273, ob264 P), (274, ob265 P), (275, ob266 P), (276, ob267 P), (277, ob268 P), (278, ob269 P), (279, ob270 P), (280, ob271 P), (281, ob272 P), (282, ob273 P), (283, ob274 P), (284, ob275 P), (285, ob276 P), (286, ob277 P), (287, ob278 P), (288, ob279 P), (289, ob280 P), (290, ob281 P), (291, ob282 P), (292, ob283 P)]
def tr43_7 (P : Params) : BT := SegH.insL (tr43_6 P) [(293, ob284 P), (294, ob285 P), (295, ob286 P), (296, ob287 P), (297, ob288 P), (298, ob289 P), (299, ob290 P), (300, ob291 P), (301, ob292 P), (302, ob293 P), (303, ob294 P), (304, ob295 P), (305, ob296 P), (306, ob297 P), (307, ob298 P), (308, ob299 P), (309, ob300 P), (310, ob301 P), (311, ob302 P), (312, ob303 P), (313, ob304 P), (314, ob305 P), (315, ob306 P), (316, ob307 P), (317, ob308 P), (318, ob309 P), (319, ob310 P), (320, ob311 P), (321, ob312 P), (322, ob313 P), (323, ob314 P), (324, ob315 P), (325, ob316 P), (326, ob317 P), (327, ob318 P), (328, ob319 P), (329, ob320 P), (330, ob321 P), (331, ob322 P), (332, ob323 P)]
def tr43_8 (P : Params) : BT := SegH.insL (tr43_7 P) [(333, ob324 P), (334, ob325 P), (335, ob326 P), (336, ob327 P), (337, ob328 P), (338, ob329 P), (339, ob330 P), (340, ob331 P), (341, ob332 P), (342, ob333 P), (343, ob334 P), (344, ob335 P), (345, ob336 P), (346, ob337 P), (347, ob338 P), (348, ob339 P), (349, ob340 P), (350, ob341 P), (351, ob342 P), (352, ob343 P), (353, ob344 P), (354, ob345 P), (355, ob346 P), (356, ob347 P), (357, ob348 P), (358, ob349 P), (359, ob350 P), (360, ob351 P), (361, ob352 P), (362, ob353 P), (363, ob354 P), (364, ob355 P), (365, ob356 P), (366, ob357 P), (367, ob358 P), (368, ob359 P), (369, ob360 P), (370, ob361 P), (371, ob362 P), (372, ob363 P)]
def tr43_9 (P : Params) : BT := SegH.insL (tr43_8 P) [(373, ob364 P), (374, ob365 P), (375, ob366 P), (376, ob367 P), (377, ob368 P), (378, ob369 P), (379, ob370 P), (380, ob371 P), (381, ob372 P), (382, ob373 P), (383, ob374 P), (384, ob375 P), (385, ob376 P), (386, ob377 P), (387, ob378 P), (388, ob379 P), (389, ob380 P), (390, ob381 P), (391, ob382 P), (392, ob383 P), (393, ob384 P), (394, ob385 P), (395, ob386 P), (396, ob387 P), (397, ob388 P), (398, ob389 P), (399, ob390 P), (400, ob391 P), (401, ob392 P), (402, ob393 P), (403, ob394 P), (404, ob395 P), (405, ob396 P), (406, ob397 P), (407, ob398 P), (408, ob399 P), (409, ob400 P), (410, ob401 P), (411, ob402 P), (412, ob403 P)]
def tr43_10 (P : Params) : BT := SegH.insL (tr43_9 P) [(413, ob404 P), (414, ob405 P), (415, ob406 P), (416, ob407 P), (417, ob408 P), (418, ob409 P), (419, ob410 P), (420, ob411 P), (421, ob412 P), (422, ob413 P), (423, ob414 P), (424, ob415 P), (425, ob416 P), (426, ob417 P), (427, ob418 P), (428, ob419 P), (429, ob420 P), (430, ob421 P), (431, ob422 P), (432, ob423 P), (433, ob424 P), (434, ob425 P), (435, ob426 P), (436, ob427 P), (437, ob428 P), (438, ob429 P), (439, ob430 P), (440, ob431 P), (441, ob432 P), (442, ob433 P), (443, ob434 P), (444, ob435 P), (445, ob436 P)]
def st43 (w : World) (os : OsState) : SharedT := ⟨tr43_10 w.params, 446, { registered := [], finalised := [], alive := [], known := 0, ids := [], orphanDicts := [], counting := false, cnt := #[], zero := [], soft := 0, below := false, collecting := false, loading := false, debug := 0, thresholds := [2000, 10, 10], woke := false, asked := 0, gcEnabled := true, old := [], middle := [], young := 0, intoMiddle := false }, #[], ⟨0, 0, 0, 0⟩, 736, os⟩
abbrev n0 : Nat := 11
theorem run0 (w : World) (os : OsState) : SegH.pgo (stepQ (denQ tabQ) R.prog w) n0 an 12 (SegH.st0 w os) (topStub R.prog) = some (st0 w os, ⟨denQ tabQ (.body bd ev), cB, ⟨0, 0, 0, 0⟩, SegH.topB qB⟩) := by kernel_rfl
theorem runB (w : World) (os : OsState) : SegH.sgo (stepQ (denQ tabQ) R.prog w) n0 an 1 (st0 w os) (SegH.thB bd ev cB ⟨0, 0, 0, 0⟩ qB) = some (.next, st0 w os, cB, ⟨0, 0, 0, 0⟩) := by kernel_rfl
theorem run43 (w : World) (os : OsState) : SegH.sgo (stepQ (denQ tabQ) R.prog w) n0 an 3559 (st0 w os) (SegH.thP ((bd).take 43) ev cB ⟨0, 0, 0, 0⟩ qB) = some (.next, st43 w os, cB, ⟨160, 0, 194, 16⟩) := by kernel_rfl
theorem runZ1 (w : World) (os : OsState) : (goF (stepQ (denQ tabQ) R.prog w) n0 an 2241 (st43 w os) (SegH.thR (bd.drop 43) ev cB ⟨160, 0, 194, 16⟩ qB)).map (fun s => looksF R.prog (boot_heap w.params) s.abs) = some true := by kernel_rfl
theorem runZ2 (w : World) (os : OsState) : (goF (stepQ (denQ tabQ) R.prog w) n0 an 2241 (st43 w os) (SegH.thR (bd.drop 43) ev cB ⟨160, 0, 194, 16⟩ qB)).map (fun s => seenQ (PySem.W.view R.prog [73]) loose (importedModules R.prog.main.body) (fun s => xlAt (PySem.W.view R.prog [73]) [] s && recOk R.toRowW.records s) s.abs) = some (openGood (PySem.W.view R.prog [73]) loose) := by kernel_rfl
theorem runZ3 (w : World) (os : OsState) : (goF (stepQ (denQ tabQ) R.prog w) n0 an 2241 (st43 w os) (SegH.thR (bd.drop 43) ev cB ⟨160, 0, 194, 16⟩ qB)).map (fun s => ob s) = some (hk.val w) := by kernel_rfl
theorem boot_n (w : World) : (boot_heap w.params).objs.size = n0 := by kernel_rfl
theorem boot_a (w : World) : (boot_heap w.params).nsMap mainGlobals "__annotations__" = an := by kernel_rfl
theorem tops (w : World) (os : OsState) : ∃ s : SharedT, topRun treeTable R.prog w n0 an (12 + (1 + (3559 + (2241)))) (SegH.st0 w os).abs (topStub R.prog) = some s.abs ∧ (looksF R.prog (boot_heap w.params) s.abs, seenQ (PySem.W.view R.prog [73]) loose (importedModules R.prog.main.body) (fun s => xlAt (PySem.W.view R.prog [73]) [] s && recOk R.toRowW.records s) s.abs, hk.obs s.abs) = (true, openGood (PySem.W.view R.prog [73]) loose, hk.val w) := by
  obtain ⟨s, h1, g1⟩ := Option.map_eq_some_iff.mp (runZ1 w os)
  obtain ⟨s2, h2, g2⟩ := Option.map_eq_some_iff.mp (runZ2 w os)
  obtain ⟨s3, h3, g3⟩ := Option.map_eq_some_iff.mp (runZ3 w os)
  cases Option.some.inj (h1.symm.trans h2)
  cases Option.some.inj (h1.symm.trans h3)
  rw [ob_eq] at g3
  exact ⟨s, SegH.first_run (run0 w os) (runB w os) (SegH.one_run (run43 w os) (SegH.goQ h1)), Prod.ext g1 (Prod.ext g2 g3)⟩
end HD0
end K55
set_option Elab.async false
set_option linter.all false
set_option maxRecDepth 100000
set_option maxHeartbeats 4000000
namespace Fw
open PySem PySem.Spec PyProof.Rows L2
/-- the world of the run: a text's hash is the world's -/
class HasW where
  w : World
mutual
/-- the value v is the key k -/
inductive NKey (H : Hp) : NestedKey → V → Prop
  | non : NKey H .none .non
  | bl (b : Bool) : NKey H (.num (if b = true then 1 else 0)) (.bl b)
  | int (i : Int) : NKey H (.num i) (.int i)
  | str (x : Str) : NKey H (.text x) (.str x)
  | tup {a : Addr} {xs : List V} {ks : List NestedKey} : H a = some (.tup xs) → NKeys H ks xs → NKey H (.tup ks) (.ref a)
inductive NKeys (H : Hp) : List NestedKey → List V → Prop
  | nil : NKeys H [] []
  | cons {k : NestedKey} {ks : List NestedKey} {v : V} {vs : List V} : NKey H k v → NKeys H ks vs → NKeys H (k :: ks) (v :: vs)
end
mutual
theorem NKey.mono {H H' : Hp} (m : ∀ a xs, H a = some (.tup xs) → H' a = some (.tup xs)) : ∀ {k : NestedKey} {v : V}, NKey H k v → NKey H' k v
  | _, _, .non => .non
  | _, _, .bl b => .bl b
  | _, _, .int i => .int i
  | _, _, .str x => .str x
  | _, _, .tup h r => .tup (m _ _ h) (NKeys.mono m r)
theorem NKeys.mono {H H' : Hp} (m : ∀ a xs, H a = some (.tup xs) → H' a = some (.tup xs)) : ∀ {ks : List NestedKey} {vs : List V}, NKeys H ks vs → NKeys H' ks vs
  | _, _, .nil => .nil
  | _, _, .cons a b => .cons (NKey.mono m a) (NKeys.mono m b)
end
mutual
theorem NKey.is {P : Program} {w : World} {H : Hp} {h : Heap} (ok : HOk P w H h) : ∀ {k : NestedKey} {v : V} {u : Value}, NKey H k v → RelV v u → NestedIs h k u
  | _, _, u, .non, r => by
    obtain rfl : u = .none := r
    exact .none
  | _, _, u, .bl b, r => by
    obtain rfl : u = .bool b := r
    exact .bool rfl
  | _, _, u, .int i, r => by
    obtain ⟨t, rfl⟩ : ∃ t, u = .int i t := r
    exact .int i t
  | _, _, u, .str x, r => by
    obtain ⟨t, rfl⟩ : ∃ t, u = .str x t := r
    exact .text x t
  | _, _, u, @NKey.tup _ a xs ks e q, r => by
    obtain rfl : u = .ref a := r
    obtain ⟨_, its, rel, o, h1, h2, n, h3⟩ := (show ObjOk P w H h a (.tup xs) from ok a _ e)
    exact .tup h1 h2 h3 (by simpa using NKeys.is ok q rel)
theorem NKeys.is {P : Program} {w : World} {H : Hp} {h : Heap} (ok : HOk P w H h) : ∀ {ks : List NestedKey} {vs : List V} {us : List Value}, NKeys H ks vs → Vals vs us → NestedAll h ks us
  | _, _, _, .nil, .nil => .nil
  | _, _, _, .cons a b, .cons r t => .cons (NKey.is ok a r) (NKeys.is ok b t)
end
/-- an entry: the key, where its tuple stands, the value -/
abbrev NEnt := NestedKey × Addr × V
abbrev NRel : List NEnt → List (NestedKey × Addr × Value) → Prop := Paired fun p q => p.1 = q.1 ∧ p.2.1 = q.2.1 ∧ RelV p.2.2 q.2.2
def nEntry (w : World) (x : NestedKey × Addr × Value) : DictEntry := ⟨x.1.hash w, .ref x.2.1, x.2.2⟩
/-- what is true of the object at a -/
def NDφ (w : World) (a : Addr) (xs : List NEnt) : Heap → Prop := fun h =>
  xs.length ≤ sizeLine ∧ (a == sysModules) = false ∧ ∃ ys, NRel xs ys ∧ ∃ o es ep, h.get? a = some o ∧ o.ExactDict ∧ o.data = .dict es ep ∧ es.toList = ys.map (nEntry w) ∧ (ys.map (·.1)).Nodup
/-- a dict with nested keys -/
def ND [HasW] (a : Addr) (xs : List NEnt) : HO := .ext (NDφ HasW.w a xs)
/-- the keys of the entries stand as tracked tuples -/
def NKs (H : Hp) (xs : List NEnt) : Prop := ∀ x ∈ xs, NKey H x.1 (.ref x.2.1) ∧ x.1.depth ≤ 8
theorem NKs.mono {H H' : Hp} {xs : List NEnt} (k : NKs H xs) (m : ∀ a xs, H a = some (.tup xs) → H' a = some (.tup xs)) : NKs H' xs := fun x hx => ⟨(k x hx).1.mono m, (k x hx).2⟩
/-- the value at a key -/
def nAt (xs : List NEnt) (k : NestedKey) : Option V := (xs.find? fun x => decide (x.1 = k)).map (·.2.2)
def nPut (xs : List NEnt) (k : NestedKey) (b : Addr) (v : V) : List NEnt := if (nAt xs k).isSome then xs.map fun x => if x.1 = k then (x.1, x.2.1, v) else x else xs ++ [(k, b, v)]
theorem nPut_new {xs : List NEnt} {k : NestedKey} {b : Addr} {v : V} (h : nAt xs k = none) : nPut xs k b v = xs ++ [(k, b, v)] := by
  unfold nPut
  rw [h]
  rfl
theorem NRel.val {xs : List NEnt} {ys : List (NestedKey × Addr × Value)} (r : NRel xs ys) (k : NestedKey) : RelO (nAt xs k) ((atKey ys k).map (·.2)) := by
  induction r with
  | nil => exact True.intro
  | @cons p q ps qs h t ih =>
    obtain ⟨h1, _, h2⟩ := h
    by_cases e : p.1 = k
    · have e' : q.1 = k := h1.symm.trans e
      have b : atKey (q :: qs) k = some q.2 := by simp [atKey, List.find?_cons, e']
      have c : nAt (p :: ps) k = some p.2.2 := by simp [nAt, List.find?_cons, e]
      rw [c, b]; exact h2
    · have e' : ¬ q.1 = k := fun z => e (h1.trans z)
      have b : atKey (q :: qs) k = atKey qs k := by simp [atKey, List.find?_cons, e']
      have c : nAt (p :: ps) k = nAt ps k := by simp [nAt, List.find?_cons, e]
      rw [c, b]; exact ih
theorem NRel.put {xs : List NEnt} {ys : List (NestedKey × Addr × Value)} (r : NRel xs ys) (k : NestedKey) (b : Addr) {v : V} {u : Value} (rv : RelV v u) : NRel (nPut xs k b v) (storedH ys k b u) := by
  have e : (nAt xs k).isSome = (atKey ys k).isSome := by rw [(r.val k).isSome_eq, Option.isSome_map]
  unfold nPut storedH
  rw [e]
  by_cases q : (atKey ys k).isSome = true
  · rw [if_pos q, if_pos q]
    clear e q
    induction r with
    | nil => exact .nil
    | @cons p q ps qs h t ih =>
      rw [List.map_cons, List.map_cons]
      refine .cons ?_ ih
      obtain ⟨h1, h2, h3⟩ := h
      unfold putAt
      by_cases e : p.1 = k
      · rw [if_pos e, if_pos (h1.symm.trans e)]; exact ⟨h1, h2, rv⟩
      · rw [if_neg e, if_neg (fun z => e (h1.trans z))]; exact ⟨h1, h2, h3⟩
  · rw [if_neg q, if_neg q]; exact Paired.snoc r ⟨rfl, rfl, rv⟩
theorem length_nPut (xs : List NEnt) (k : NestedKey) (b : Addr) (v : V) : (nPut xs k b v).length ≤ xs.length + 1 := by
  unfold nPut
  split
  · rw [List.length_map]; omega
  · rw [List.length_append]; exact Nat.le_refl _
theorem nd_dict {P : Program} {w : World} {H : Hp} {h : Heap} {a : Addr} {xs : List NEnt} (ok : HOk P w H h) (ks : NKs H xs) (d : NDφ w a xs h) : xs.length ≤ sizeLine ∧ (a == sysModules) = false ∧ ∃ ys, NRel xs ys ∧ h.DictOfH (nestedKind P w) a ys := by
  obtain ⟨z, y, ys, r, o, es, ep, h1, h2, h3, h4, h5⟩ := d
  refine ⟨z, y, ys, r, o, es, ep, h1, h2, h3, h4, fun x hx => ?_, h5⟩
  have all : ∀ {l : List NEnt} {m : List (NestedKey × Addr × Value)}, NRel l m → NKs H l → ∀ x ∈ m, (nestedKind P w).is h x.1 x.2.1 := by
    intro l m q
    induction q with
    | nil => intro _ x hx; exact nomatch hx
    | @cons p q ps qs hq t ih =>
      intro kk x hx
      rcases List.mem_cons.mp hx with e | hx
      · subst e
        obtain ⟨k1, k2⟩ := kk p List.mem_cons_self
        rw [hq.1, hq.2.1] at k1
        rw [hq.1] at k2
        exact ⟨k1.is ok rfl, k2⟩
      · exact ih (fun x hx => kk x (List.mem_cons_of_mem _ hx)) x hx
  exact all r ks x hx
theorem nd_of [HasW] {P : Program} {H : Hp} {h : Heap} {a : Addr} {xs : List NEnt} (ok : HOk P HasW.w H h) (e : H a = some (ND a xs)) (ks : NKs H xs) : xs.length ≤ sizeLine ∧ (a == sysModules) = false ∧ ∃ ys, NRel xs ys ∧ h.DictOfH (nestedKind P HasW.w) a ys :=
  nd_dict ok ks (show ObjOk P HasW.w H h a (ND a xs) from ok a _ e).1
theorem nd_new {w : World} {a : Addr} {xs : List NEnt} {ys : List (NestedKey × Addr × Value)} {P : Program} {h : Heap} {H : Hp} (z : xs.length ≤ sizeLine) (y : (a == sysModules) = false) (r : NRel xs ys) (d : h.DictOfH (nestedKind P w) a ys) : ObjOk P w H h a (.ext (NDφ w a xs)) := by
  obtain ⟨o, es, ep, h1, h2, h3, h4, _, h5⟩ := d
  refine ⟨⟨z, y, ys, r, o, es, ep, h1, h2, h3, h4, h5⟩, ⟨o, h1⟩, ?_⟩
  rintro g1 g2 ⟨z, y, ys, r, o, es, ep, h1, h2, h3, h4, h5⟩ k
  exact ⟨z, y, ys, r, o, es, ep, k _ h1, h2, h3, h4, h5⟩
/-- what the dict at a holds at the key y -/
def NGet [HasW] (H : Hp) (a : Addr) (y : V) (r : Option V) : Prop := ∃ xs k b, H a = some (ND a xs) ∧ NKs H xs ∧ y = .ref b ∧ NKey H k y ∧ k.depth ≤ 8 ∧ r = nAt xs k
/-- the heap behind a[y] = v -/
def NPut [HasW] (H : Hp) (a : Addr) (y v : V) (H' : Hp) : Prop := ∃ xs k b, H a = some (ND a xs) ∧ NKs H xs ∧ y = .ref b ∧ NKey H k y ∧ k.depth ≤ 8 ∧ xs.length < sizeLine ∧ H' = upd H a (ND a (nPut xs k b v))
section
variable [HasW] {X : Cx} {pins : List (Addr × Obj)} {σ : L2.St} {H : Hp} {s : Shared} {a : Addr} {y v : V} {u r : Value} {o : Option V} {A : Around} {E : Value → Shared → Prop}
theorem room8 {A : Around} (hu : A.units + 64 < cLine) : A.in1.units + 8 < cLine := by
  rw [Around.in1_units]
  omega
theorem n_getItem {Q : Value → Shared → Prop} (hw : X.w = HasW.w) (hu : A.units + 64 < cLine) (I : Inv X pins σ H s) (g : NGet H a y (some v)) (ry : RelV y u) (h : ∀ w' s', Inv X pins σ H s' → RelV v w' → Q w' s') :
    wpAny (model X.prog X.w) A (getItem (.ref a) u) Q E s := by
  obtain ⟨xs, k, b, e, ks, rfl, key, dp, l⟩ := g
  cases (show u = Value.ref b from ry)
  have ok := I.hok
  rw [hw] at ok ⊢
  obtain ⟨z, hd, ys, rel, dd⟩ := nd_of ok e ks
  obtain ⟨w', hw', rw'⟩ := RelO.some_of (v := v) (o := (atKey ys k).map (·.2)) (by rw [l]; exact rel.val k)
  obtain ⟨p, hp, hp2⟩ := Option.map_eq_some_iff.mp hw'
  refine wpAny_getItem_heap (knd := nestedKind X.prog HasW.w) (room8 hu) ⟨key.is ok rfl, dp⟩ dd hp ?_
  rw [hp2]
  exact h w' _ (I.tok _) rw'
theorem n_notIn {Q : Value → Shared → Prop} (hw : X.w = HasW.w) (hu : A.units + 64 < cLine) (I : Inv X pins σ H s) (g : NGet H a y o) (ry : RelV y u) (h : ∀ s', Inv X pins σ H s' → Q (.bool (!o.isSome)) s') :
    wpAny (model X.prog X.w) A (compareOp .NotIn u (.ref a)) Q E s := by
  obtain ⟨xs, k, b, e, ks, rfl, key, dp, l⟩ := g
  cases (show u = Value.ref b from ry)
  have ok := I.hok
  rw [hw] at ok ⊢
  obtain ⟨z, hd, ys, rel, dd⟩ := nd_of ok e ks
  refine wpAny_notIn_heap (knd := nestedKind X.prog HasW.w) (room8 hu) ⟨key.is ok rfl, dp⟩ hd dd ?_
  have q := (rel.val k).isSome_eq
  rw [Option.isSome_map] at q
  rw [← q, ← l]
  exact h _ (I.tok _)
theorem n_setItem {H' : Hp} {Q : Unit → Shared → Prop} (hw : X.w = HasW.w) (hu : A.units + 64 < cLine) (I : Inv X pins σ H s) (g : NPut H a y v H') (ry : RelV y u) (rv : RelV v r) (h : ∀ s', Inv X pins σ H' s' → Q () s') :
    wpAny (model X.prog X.w) A (setItem (.ref a) u r) Q E s := by
  obtain ⟨xs, k, b, e, ks, rfl, key, dp, few, rfl⟩ := g
  cases (show u = Value.ref b from ry)
  have ok := I.hok
  have ok2 := I.hok
  rw [hw] at ok
  obtain ⟨z, hd, ys, rel, dd⟩ := nd_of ok e ks
  have hz : ys.length ≤ sizeLine := by rw [← Paired.length rel]; exact z
  have hl : (nPut xs k b v).length ≤ sizeLine := by have := length_nPut xs k b v; omega
  rw [← hw] at dd
  refine wpAny_setItem_heap (hsz := hz) (knd := nestedKind X.prog X.w) (room8 hu) ⟨key.is ok2 rfl, dp⟩ dd fun h' dd' hs => h _ ?_
  have he : ∃ q, h'.get? a = some q := let ⟨q, _, _, hq, _⟩ := dd'; ⟨q, hq⟩
  refine d_write I (by rw [e]; exact True.intro) hs he ?_
  have := nd_new (H := upd H a (ND a (nPut xs k b v))) hl hd (rel.put k b rv) dd'
  rw [hw] at this ⊢
  exact this
theorem n_typeIs (hw : X.w = HasW.w) (I : Inv X pins σ H s) {xs : List NEnt} (e : H a = some (ND a xs)) : s.TypeIs (.ref a) "dict" ∧ (∀ b, Value.ref a = .ref b → ∃ ob, s.heap.get? b = some ob ∧ ob.dict = none) := by
  obtain ⟨⟨z, y, ys, r, ob, es, ep, h1, h2, h3, h4, h5⟩, _⟩ := (show ObjOk X.prog X.w H s.heap a (ND a xs) from I.hok a _ e)
  refine ⟨⟨ob, h1, h2.1⟩, fun b q => ?_⟩
  cases q
  exact ⟨ob, h1, h2.2.1⟩
end
section
variable [HasW]
def tNGet (td ty : TE) : TE := fun σ H Q => td σ H fun x H1 => ty σ H1 fun y H2 => ∃ a v, x = .ref a ∧ NGet H2 a y (some v) ∧ Q v H2
def tNNotIn (ty td : TE) : TE := fun σ H Q => ty σ H fun y H1 => td σ H1 fun x H2 => ∃ a o, x = .ref a ∧ NGet H2 a y o ∧ Q (.bl (!o.isSome)) H2
def sNPut (td ty tv : TE) : TS := fun D σ H => tv σ H fun v H1 => td σ H1 fun x H2 => ty σ H2 fun y H3 => ∃ a H4, x = .ref a ∧ NPut H3 a y v H4 ∧ D.nx σ H4
/-- {} -/
def tNNew : TE := fun _ H Q => ∀ p, H p = none → Q (.ref p) (upd H p (ND p []))
end
section
variable [HasW] {X : Cx} {o i e value : Expr} {pos pos' apos cpos : Pos} {td ty tv : TE}
theorem pe_nget (hw : X.w = HasW.w) (hu : X.A.units + 64 < cLine) (ho : PE X o td) (hi : PE X i ty) (hs : NoSl i) : PE X (.Subscript o i pos) (tNGet td ty) := by
  refine ⟨fun pins s σ H Q I h => ?_⟩
  refine subD_of PySem.F.slot_dict_getitem.lookup hs (thn (ho.run pins s σ H _ I h) fun u s1 ⟨x, H1, I1, rx, q1⟩ => thn (hi.run pins s1 σ H1 _ I1 q1) fun iv s2 ⟨y, H2, I2, ry, a, v, ex, g, q2⟩ => ?_)
  subst ex
  obtain rfl : u = Value.ref a := rx
  refine ⟨?_, n_getItem hw hu I2 g ry fun w' s3 I3 rw' => ⟨v, H2, I3, rw', q2⟩⟩
  obtain ⟨xs, _, _, e, _⟩ := g
  exact (n_typeIs hw I2 e).1
theorem pc_nnotin (hw : X.w = HasW.w) (hu : X.A.units + 64 < cLine) (hi : PE X i ty) (ho : PE X o td) : PC X .NotIn i o (tNNotIn ty td) := by
  refine ⟨fun pins s σ H Q I h => ?_⟩
  refine thn (hi.run pins s σ H _ I h) fun iv s1 ⟨y, H1, I1, ry, q1⟩ => thn (ho.run pins s1 σ H1 _ I1 q1) fun u s2 ⟨x, H2, I2, rx, a, ov, ex, g, q2⟩ => ?_
  subst ex
  obtain rfl : u = Value.ref a := rx
  exact n_notIn hw hu I2 g ry fun s3 I3 => ⟨.bl (!ov.isSome), H2, I3, rfl, q2⟩
theorem ps_nput (hw : X.w = HasW.w) (hu : X.A.units + 64 < cLine) (ho : PE X o td) (hi : PE X i ty) (hv : PE X value tv) (hs : swapsWith value (some (.Subscript o i pos')) pos.line X.env = pure false) :
    PS X (.Assign [.Subscript o i pos'] value pos) (sNPut td ty tv) := by
  refine ⟨fun pins s σ H D I h => ?_⟩
  refine wpAny_Assign_Subscript (thn (hv.run pins s σ H _ I h) fun r s1 ⟨v, H1, I1, rv, q1⟩ => thn (ho.run pins s1 σ H1 _ I1 q1) fun u s2 ⟨x, H2, I2, rx, q2⟩ => thn (hi.run pins s2 σ H2 _ I2 q2) fun iv s3 ⟨y, H3, I3, ry, a, H4, ex, g, q3⟩ => ?_) hs
  subst ex
  obtain rfl : u = Value.ref a := rx
  exact n_setItem hw hu I3 g ry rv fun s4 I4 => ⟨σ, H4, I4, q3⟩
theorem pe_nnew (hw : X.w = HasW.w) : PE X (.Dict [] [] pos) tNNew := ⟨fun pins s σ H Q I h => by
  refine wpAny_Dict_empty ⟨.ref s.heap.objs.size, _, I.laid (a := s.heap.objs.size) (o := ND s.heap.objs.size []) (t' := s.toks) (fun _ _ q => Heap.get?_push_of_some _ q) (Nat.le_refl _) ?_, rfl, h _ (I.hok.fresh (Nat.le_refl _))⟩
  have hb := I.big
  have := nd_new (P := X.prog) (w := HasW.w) (xs := []) (H := upd H s.heap.objs.size (ND s.heap.objs.size [])) (Nat.zero_le _) (beq_eq_false_iff_ne.mpr (Ne.symm (Nat.ne_of_lt hb))) .nil (Heap.DictOfH.new (knd := nestedKind X.prog HasW.w) s.heap)
  rw [hw]
  exact this⟩
end
end Fw
set_option Elab.async false
set_option linter.all false
set_option maxRecDepth 100000
set_option maxHeartbeats 4000000
namespace Fw
open PySem PySem.Spec PyProof.Rows L2
def tMethX (C : Addr) (m : Str) (sp : Sp) (E : L2.St → XK) (ta : TE) (t : TA) : TE := fun σ H Q => ta σ H fun x H1 => ∃ a dx fs, x = .ref a ∧ H1 a = some (.ins C dx fs) ∧ fs.lookup m = none ∧
  t σ H1 fun vs H2 => sp (x :: vs) H2 Q (E σ)
section
variable {X : Cx} {CX : CXT} {k : Nat} {f C : Addr} {fd : FuncData} {ps : List Str} {sp : Sp} {E : L2.St → XK} {E1 : XK} {x m : Str} {p pos apos : Pos} {e o : Expr} {es : List Expr} {ta : TE} {t : TA}
/-- o.m(e, ..), which may raise -/
theorem pe_methX {pl : Sem Bool} (he : PE X o ta) (c : Cls X.K C) (hm : Meth X.K C m f) (F : FnOk X.prog X.w X.K X.mg X.base CX k f fd ps sp) (hr : Room k X.A) (hb : Binds X.K fd ps []) (hx : ∀ σ, PassesAt CX X σ (E σ)) (ha : PA X (e :: es) t)
    (hst : starEach (e :: es) X.env = (false, eval e X.env) :: starEach es X.env := by rfl) (hpl : (backTo pos (starEach es X.env)).any (·.1) = false := by rfl)
    (ht : eval (.Call (.Attribute o m apos) (e :: es) [] pos) X.env = (do
      let ov ← eval o X.env
      standAt apos.atName
      let (f, first) ← holding [ov] (getMethod ov m pl)
      callWith pos f first (backTo pos (starEach (e :: es) X.env)) (backToKw pos (keywordEach [] X.env))) := by rfl) :
    PE X (.Call (.Attribute o m apos) (e :: es) [] pos) (tMethX C m sp E ta t) := by
  refine ⟨fun pins s σ H Q I h => ?_⟩
  refine PySem.W.methodCall_KW (pl := pl) (thn (he.run pins s σ H _ I h) fun u s1 ⟨x, H1, I1, rx, a, dx, fs, ex, ea, l, q⟩ => ?_) ht
  subst ex
  obtain rfl : u = Value.ref a := rx
  refine getmeth_ok I1 ea c hm l ?_
  refine PySem.W.callWith_K (first := [.ref a]) (h₀ := X.base) I.ok.mod.kin hm.kp (thn (ha.run pos pins s1 σ H1 _ I1 q) fun us s2 ⟨vs, H2, I2, r, q2⟩ => ⟨I2.kIn, ?_⟩) hst hpl
  exact run_fnS (us := .ref a :: us) (vs := .ref a :: vs) F hr hb (hx σ) I2 (.cons rfl r) q2
/-- len(x), x of an own class -/
def rLenC (C : Addr) (sp : Sp) (E : XK) : List V → Hp → VK → Prop := fun xs H Q => ∃ a dx fs, xs = [.ref a] ∧ H a = some (.ins C dx fs) ∧ sp [.ref a] H (fun v H' => ∃ n : Nat, v = .int n ∧ n ≤ 1000000 ∧ Q (.int n) H') E
theorem call_lenC (F : FnOk X.prog X.w X.K X.mg X.base CX k f fd ps sp) (hm : Meth X.K C "__len__" f) (hr : Room (k + 1) X.A) (hb : Binds X.K fd ps []) (hx : Passes CX X E1) : CallR X (.builtin "len") (rLenC C sp E1) := by
  intro pins s σ H xs us Q I r h
  obtain ⟨a, dx, fs, rfl, ha, q⟩ := h
  obtain rfl : us = [Value.ref a] := by
    cases r with
    | cons h t =>
      cases t
      obtain rfl := (show _ = Value.ref a from h)
      rfl
  obtain ⟨mA, J, _⟩ := ins_get I.hok ha
  obtain ⟨od, J, _⟩ := J.look
  obtain ⟨m, hF⟩ := I.fr
  refine PySem.W.len_K hF I.ok.mod.kin J hm.at_ hm.fn ?_
  have e0 : Env0 X.prog X.w X.K X.mg X.base X.A.in1 X.stack s H := by
    have e := I.env0
    exact ⟨e.frames, e.mod, e.bs, e.bsz, e.funs, e.frf, e.hok, e.bare⟩
  have hl := F.len _ _ _ _ q
  refine wpAny_call (codeAny_mono (F.run X.A.in1 X.stack s H ⟨[.ref a], []⟩ [.ref a] [.ref a] _ E1 hr.in1 e0 (by
    have := hb s [.ref a] I.kIn (by simpa using hl)
    simpa using this) (.cons rfl .nil) q) fun r s' hq => ?_)
  cases r with
  | error e => exact hx pins σ H s e s' I hq
  | ok fl =>
    cases fl with
    | ret w =>
      obtain ⟨z, H', I', rz, n, ez, hn, hz⟩ := I.after hq
      subst ez
      obtain ⟨t, rfl⟩ : ∃ t, w = .int n t := rz
      refine ⟨⟨by omega, by omega⟩, .int n, H', I'.tok _, ⟨_, rfl⟩, hz⟩
    | next => exact False.elim hq
    | brk => exact False.elim hq
    | cont => exact False.elim hq
end
end Fw
set_option Elab.async false
set_option linter.all false
set_option maxRecDepth 100000
set_option maxHeartbeats 4000000
namespace Fw
open PySem PySem.Spec PyProof.Rows L2
/-- the members of the first i -/
def MemI (ks : List Int) (i : Nat) (S : Int → Bool) (n : Nat) : Prop := (∀ k, S k = true ↔ k ∈ ks.take i) ∧ n ≤ i
theorem MemI.zero (ks : List Int) : MemI ks 0 (fun _ => false) 0 := ⟨fun k => by simp, Nat.le_refl _⟩
theorem MemI.more {ks : List Int} {i n : Nat} {S : Int → Bool} {k : Int} (m : MemI ks i S n) (h : ks[i]? = some k) : MemI ks (i + 1) (fun j => S j || decide (j = k)) (if S k = true then n else n + 1) := by
  refine ⟨fun j => ?_, ?_⟩
  · rw [Bool.or_eq_true, m.1 j, decide_eq_true_eq, List.take_add_one, h, List.mem_append]
    simp
  · have := m.2
    split <;> omega
section
variable {P : Program} {w : World} {A : Around} {E : Value → Shared → Prop} {s : Shared}
theorem set_update_ints {I : Addr} {fp wr : List Addr} {G : Array GenState → Array GenState → Prop} {n : Nat} {Pv : Nat → Value → Prop} {St : Nat → Shared → Prop} {R : Result → Shared → Prop}
    (W : WalksS P w A.in1 I fp wr G n Pv St) (S : Addr) (hSf : S ∉ fp) (ks : List Int) (hn : n = ks.length) (hfew : ks.length < 64) (hval : ∀ i v, Pv i v → ∃ k t, ks[i]? = some k ∧ v = .int k t)
    (h0 : Heap) (hS0 : h0.get? S = none) (hw0 : ∀ b ∈ wr, h0.get? b = none) :
    ∀ (k i : Nat) (s : Shared), n - i = k → i ≤ n → St i s → (∀ b o, h0.get? b = some o → s.heap.get? b = some o) → (∃ T m, SetR w s.heap S T m ∧ MemI ks i T m) →
      (∀ s' T m, Moved (S :: wr) G s s' → SetR w s'.heap S T m → MemI ks n T m → (∀ b o, h0.get? b = some o → s'.heap.get? b = some o) → R (.ok (.ret .none)) s') →
      codeAny (model P w) A (.builtin "set.update.loop" ⟨[.ref S, .ref I], []⟩) R s := by
  have hSw : S ∉ wr := fun h => hSf (W.sub _ h)
  have hsub : ∀ b ∈ wr, b ∈ S :: wr := fun b hb => List.mem_cons_of_mem _ hb
  have keepM : ∀ {s s' : Shared}, Moved wr G s s' → (∀ b o, h0.get? b = some o → s.heap.get? b = some o) → ∀ b o, h0.get? b = some o → s'.heap.get? b = some o := fun hm hkp b o e =>
    hm.heap b o (fun hb => by rw [hw0 b hb] at e; cases e) (hkp b o e)
  intro k
  induction k with
  | zero =>
    intro i s hk' hi hst hkp ⟨T, m, hS, g⟩ hR
    have hin : i = n := by omega
    subst hin
    refine codeAny_builtin F.entry_set_update_loop ?_
    rw [Around.under_plainId F.plain_set_update_loop _]
    show wpAny _ A.in1 (pyNext (.ref I) >>= _) _ _ s
    refine wpAny_bind (W.done s _ _ hst fun s' hm => ?_)
    show wpAny _ A.in1 (ret Value.none) _ _ s'
    exact wpAny_pure (hR s' T m (hm.mono hsub) (hS.at fun o e => hm.heap S o hSw e) g (keepM hm hkp))
  | succ k ih =>
    intro i s hk' hi hst hkp ⟨T, m, hS, g⟩ hR
    have hlt : i < n := by omega
    refine codeAny_builtin F.entry_set_update_loop ?_
    rw [Around.under_plainId F.plain_set_update_loop _]
    show wpAny _ A.in1 (pyNext (.ref I) >>= _) _ _ s
    refine wpAny_bind (W.item i s _ _ hlt hst fun v s' hP hst' hm => ?_)
    obtain ⟨c, t, hp, rfl⟩ := hval i v hP
    have hkp' := keepM hm hkp
    have hS' : SetR w s'.heap S T m := hS.at fun o e => hm.heap S o hSw e
    show wpAny _ A.in1 (holding [Value.int c t] (setAdd S (.int c t)) >>= _) _ _ s'
    refine wpAny_bind (wpAny_holding ?_)
    unfold setAdd
    refine wpAny_holding ?_
    refine wpAny_bind ((intKind P w).pyHash (intKind_is P w c t) ?_)
    refine setR_add_hashed (s := { s' with toks := s'.toks + 1 }) hS' (by have := g.2; unfold scanBound; omega) fun h' hsb hS2 => ?_
    have g' := g.more hp
    have hkp2 : ∀ b o, h0.get? b = some o → h'.get? b = some o := fun b o e => (hsb.2 b (fun z => by rw [z, hS0] at e; cases e)).trans (hkp' b o e)
    refine wpAny_pure ⟨plainId_quiet F.plain_set_update_loop _, ih (i + 1) _ (by omega) hlt (W.frame _ s' _ _ hst' (Nat.le_add_right _ _) fun b hb o e => ?_) hkp2 ⟨_, _, hS2, g'⟩ fun s'' T2 m2 hm'' hS'' g'' hkp'' => ?_⟩
    · rw [hsb.2 b (fun h : b = S => hSf (by rw [← h]; exact hb))]; exact e
    · refine hR s'' T2 m2 (Moved.trans W.gtrans ((hm.mono hsub).then_heap (Nat.le_add_right _ _) fun b o hb e => ?_) hm'') hS'' g'' hkp''
      rw [hsb.2 b (fun h : b = S => hb (by rw [h]; exact List.mem_cons_self))]; exact e
set_option maxRecDepth 100000 in
set_option maxHeartbeats 3200000 in
theorem call_set_ints {l : Addr} {items : Array Value} (ks : List Int) {Q : Value → Shared → Prop} (hh : A.handled = none) (hl : s.heap.IsList l items) (hit : IntsAre items.toList ks) (hfew : ks.length < 64)
    (h : ∀ (h' : Heap) (tk : Nat) T m, SetR w h' s.heap.objs.size T m → MemI ks ks.length T m → (∀ b o, s.heap.get? b = some o → h'.get? b = some o) → Q (.ref s.heap.objs.size) { s with heap := h', toks := tk }) :
    wpAny (model P w) A (call (.type "set") [.ref l]) Q E s := by
  have hval0 : ∀ {vs : List Value} {ks : List Int}, IntsAre vs ks → vs.length = ks.length ∧ ∀ (i : Nat) (v : Value), vs[i]? = some v → ∃ k t, ks[i]? = some k ∧ v = Value.int k t := by
    intro vs ks q
    induction q with
    | nil => exact ⟨rfl, fun i v e => by simp at e⟩
    | @cons k t vs ks q ih =>
      refine ⟨by rw [List.length_cons, List.length_cons, ih.1], fun i v e => ?_⟩
      cases i with
      | zero =>
        simp at e
        exact ⟨k, t, by simp, e.symm⟩
      | succ i =>
        simp at e
        obtain ⟨a, b, c, d⟩ := ih.2 i v e
        exact ⟨a, b, by simpa using c, d⟩
  have hisz : items.size = ks.length := by
    have q := (hval0 hit).1
    rw [Array.length_toList] at q
    exact q
  obtain ⟨c, tl, hmro⟩ := F.called_set.mro
  have hmade := F.called_set.made
  have hsub := F.called_set.sub
  refine wpAny_call (codeAny_of_tree ?_)
  show wpAny _ _ (callAny (.type "set") _) _ _ _
  refine wpAny_pure ⟨Code.quiet_builtin _ (by decide +kernel), codeAny_builtin F.entry_type_call ?_⟩
  rw [Around.under_plain (weight_type_call_type "set" [.ref l] []) rfl]
  have h1 := F.called_set.notType
  have h2 := F.called_set.canCreate
  have hct := F.typeCall_set_1 (.ref l)
  repeat (any_goals (first | assumption | wp_step))
  refine codeAny_mono (code_set_led1 (.ref l) (E := E) (Q₁ := fun obj s₁ => obj = .ref s.heap.objs.size ∧ s₁ = { s with heap := s.heap.push { cls := .type "set", dict := none, data := .set #[] 0 (.fresh 0 0 (!w.params.followText "set-order")) } }) ⟨rfl, rfl⟩) fun r s₁ hr => ?_
  cases r with
  | error e => exact hr
  | ok fl =>
    cases fl with
    | ret obj =>
      obtain ⟨rfl, rfl⟩ := hr
      have hS : (s.heap.push { cls := .type "set", dict := none, data := .set #[] 0 (.fresh 0 0 (!w.params.followText "set-order")) }).get? s.heap.objs.size = some { cls := .type "set", dict := none, data := .set #[] 0 (.fresh 0 0 (!w.params.followText "set-order")) } := Heap.get?_push_size _ rfl
      have hT : Shared.TypeIs { s with heap := s.heap.push { cls := .type "set", dict := none, data := .set #[] 0 (.fresh 0 0 (!w.params.followText "set-order")) } } (.ref s.heap.objs.size) "set" := ⟨_, hS, rfl⟩
      have hli := F.called_set.init.lookup
      have hbi := F.called_set.init.bind (.ref s.heap.objs.size)
      repeat (any_goals (first | assumption | wp_step))
      refine codeAny_mono (codeAny_call_builtin (R := wants (fun r s₂ => r = .none ∧ ∃ h' tk T m, s₂ = { s with heap := h', toks := tk } ∧ SetR w h' s.heap.objs.size T m ∧ MemI ks ks.length T m ∧
          (∀ b o, s.heap.get? b = some o → h'.get? b = some o)) E) F.called_set.init.plain F.entry_set_init (check_set_init_1 hT ?_)) fun r₂ s₂ hr₂ => ?_
      · obtain ⟨ol, hol, hcl, nl, hdl⟩ := hl
        obtain ⟨ocls, odict, odata, oslots⟩ := ol
        simp only at hcl hdl
        subst hcl; subst hdl
        have hol' : (s.heap.push { cls := .type "set", dict := none, data := .set #[] 0 (.fresh 0 0 (!w.params.followText "set-order")) }).get? l = some { cls := .type "list", dict := odict, data := .seq items nl, slots := oslots } := Heap.get?_push_of_some _ hol
        have hsls := F.sub_list_set
        have hslf := F.sub_list_frozenset
        have hne : (Value.type "list" == Value.type "dict") = false := by decide
        have hl1 : (s.heap.push { cls := .type "set", dict := none, data := .set #[] 0 (.fresh 0 0 (!w.params.followText "set-order")) }).IsList l items := ⟨_, hol', rfl, nl, rfl⟩
        unfold Builtin.«set.__init__» noKeywords Builtin.Frozenset.updateFrom
        generalize hPI : pyIter = PI
        wp_walk
        subst hPI
        refine wpAny_pyIter_list hl1 ?_
        refine wpAny_bind (wpAny_runValue ?_)
        have hlS : l < s.heap.objs.size := Heap.lt_size hol
        have hh3 : A.in1.in1.in1.handled = none := by simp [hh]
        have hneI : l ≠ (s.heap.push { cls := .type "set", dict := none, data := .set #[] 0 (.fresh 0 0 (!w.params.followText "set-order")) }).objs.size := by
          rw [Heap.size_push]; exact Nat.ne_of_lt (Nat.lt_succ_of_lt hlS)
        have hSf : s.heap.objs.size ∉ [(s.heap.push { cls := .type "set", dict := none, data := .set #[] 0 (.fresh 0 0 (!w.params.followText "set-order")) }).objs.size, l] := by
          rw [Heap.size_push]; simp only [List.mem_cons, List.mem_singleton, List.not_mem_nil, or_false, not_or]
          exact ⟨Nat.ne_of_lt (Nat.lt_succ_self _), Nat.ne_of_gt hlS⟩
        have hval : ∀ (i : Nat) (v : Value), items[i]? = some v → ∃ k t, ks[i]? = some k ∧ v = .int k t := fun i v hv => (hval0 hit).2 i v (by rw [Array.getElem?_toList]; exact hv)
        have none_of : ∀ b, s.heap.objs.size ≤ b → s.heap.get? b = none := fun b hb => by
          cases q : s.heap.get? b with
          | none => rfl
          | some o => exact absurd (Nat.lt_of_lt_of_le (Heap.lt_size q) hb) (Nat.lt_irrefl _)
        refine set_update_ints ((Walks.list hh3 _ l hneI items).toS) s.heap.objs.size
          hSf ks hisz hfew hval s.heap (none_of _ (Nat.le_refl _)) (fun b hb => none_of b (by
            rw [List.mem_singleton.mp hb, Heap.size_push]
            exact Nat.le_succ _)) (items.size - 0) 0 _ (by omega) (Nat.zero_le _)
          ⟨⟨_, Heap.get?_push_size _ rfl, rfl, rfl⟩, (hl1.push _)⟩ (fun b o e => Heap.get?_push_of_some _ (Heap.get?_push_of_some _ e)) ?hS0 ?hR
        case hS0 => exact ⟨_, _, (setR_fresh w).at fun o e => Heap.get?_push_of_some _ e, MemI.zero ks⟩
        case hR =>
          intro s' T m hm hS' g' hkp
          obtain ⟨h', g2, d', tk', os'⟩ := s'
          have eg : g2 = s.gens := hm.gens
          have ed : d' = s.drawn := hm.drawn
          have eo : os' = s.os := hm.os
          subst eg; subst ed; subst eo
          show wpAny _ _ _ _ _ _
          refine wpAny_pure ?_
          show wpAny _ _ (ret Value.none) _ _ _
          rw [hisz] at g'
          exact wpAny_pure ⟨rfl, h', tk', T, m, rfl, hS', g', hkp⟩
      · cases r₂ with
        | error e => exact hr₂
        | ok fl₂ =>
          cases fl₂ with
          | ret r =>
            obtain ⟨rfl, h', tk, T, m, rfl, hS', g', hk'⟩ := hr₂
            repeat (any_goals (first | assumption | wp_step))
            exact h _ _ _ _ hS' g' hk'
          | _ => exact hr₂.elim
    | _ => exact hr.elim
end
/-- set(l) of ints -/
def rSetI (K : PySem.W.Frag) (w : World) : List V → Hp → VK → Prop := fun vs H Q => ∃ (a : Addr) (ns : List Int), vs = [.ref a] ∧ SqL K H a (ns.map V.int) ∧ ns.length < 64 ∧ ∀ (p : Addr) (S : Int → Bool) (n : Nat), H p = none → (∀ k, S k = true ↔ k ∈ ns) → n ≤ ns.length → Q (.ref p) (upd H p (SetO w p S n))
theorem cr_setI {X : Cx} (hc : X.calm = true) : CallR X (.type "set") (rSetI X.K X.w) := by
  intro pins s σ H vs us Q I r h
  obtain ⟨a, ns, rfl, hs, few, q⟩ := h
  obtain ⟨its, rv, hl, hz⟩ := I.list hs
  rw [Vals.ref1 r]
  have hi := rv.ints
  refine call_set_ints ns (I.ok.hd hc) hl.isList (show PyProof.Rows.IntsAre its.toArray.toList ns from hi) few fun h' tk T m R g k => ?_
  refine ⟨.ref s.heap.objs.size, upd H s.heap.objs.size (SetO X.w s.heap.objs.size T m), I.laid (t' := tk) k (Nat.le_refl _) (setO_new R), rfl, q _ _ _ (I.hok.fresh (Nat.le_refl _)) (fun k => ?_) g.2⟩
  rw [g.1 k, List.take_length]
/-- what follows from a reading -/
def tClo (te : TE) : TE := fun σ H Q => ∃ N : V → Hp → Prop, te σ H N ∧ ∀ x H1, N x H1 → Q x H1
theorem pe_clo {X : Cx} {e : Expr} {te : TE} (he : PE X e te) : PE X e (tClo te) := ⟨fun pins s σ H Q I ⟨N, h, m⟩ => wpAny_mono (he.run pins s σ H N I h) (fun u s1 ⟨x, H1, I1, r1, q⟩ => ⟨x, H1, I1, r1, m x H1 q⟩) fun _ _ z => z⟩
/-- sorted(set(l)) -/
def tSortSet (K : PySem.W.Frag) (te : TE) : TE := fun σ H Q => te σ H fun x H1 => ∃ (a : Addr) (ns : List Int), x = .ref a ∧ SqL K H1 a (ns.map V.int) ∧ ns.length < 64 ∧
  ∀ (ys : List Int) (q p : Addr) (u : HO), H1 q = none → upd H1 q u p = none → ys.Pairwise (· < ·) → (∀ k, k ∈ ys ↔ k ∈ ns) → ys.length ≤ ns.length → Q (.ref p) (upd (upd H1 q u) p (.lst (ys.map V.int)))
theorem pe_sortSet {X : Cx} {e : Expr} {te : TE} {p pos p2 pos2 : Pos} (hc : X.calm = true) (hg : Gl X "sorted") (hm : X.mg "sorted" = none) (hg2 : Gl X "set") (hm2 : X.mg "set" = none) (he : PE X e te)
    (hs : starEach [.Call (.Name "set" p2) [e] [] pos2] X.env = (false, eval (.Call (.Name "set" p2) [e] [] pos2) X.env) :: starEach [] X.env := by rfl)
    (hs2 : starEach [e] X.env = (false, eval e X.env) :: starEach [] X.env := by rfl) : PE X (.Call (.Name "sorted" p) [.Call (.Name "set" p2) [e] [] pos2] [] pos) (tSortSet X.K te) := by
  have inner : PE X (.Call (.Name "set" p2) [e] [] pos2) (tCB (rSetI X.K X.w) (tCons (tClo te) tNil)) := pe_callTy (cr_setI hc) hg2 hm2 (by decide +kernel) (pa_cons (pe_clo he) pa_nil hs2) (he := hs2)
  have outer := pe_callB (p := p) (pos := pos) (cr_sortedSet hc) hg hm (by decide +kernel) (pa_cons inner pa_nil hs) (he := hs)
  refine ⟨fun pins s σ H Q I h => outer.run pins s σ H Q I ⟨_, h, ?_⟩⟩
  rintro x H1 ⟨a, ns, rfl, hs, few, k⟩
  refine ⟨a, ns, rfl, hs, few, fun q S n hq mem hn => ⟨q, S, n, rfl, updS, by omega, fun ys p inc m2 len hp => ?_⟩⟩
  exact k ys q p _ hq hp inc (fun j => (m2 j).trans (mem j)) (by omega)
end Fw
set_option Elab.async false
set_option linter.all false
set_option maxRecDepth 100000
set_option maxHeartbeats 4000000
namespace Fw
open PySem PySem.Spec PyProof.Rows L2 PySem.W SrtO
def rSortK : List V → Hp → VK → Prop := fun vs H Q => ∃ (a : Addr) (kvs : List (Key × V)) (ns : List Int), vs = [.ref a] ∧ H a = some (.dK kvs) ∧ kvs.map (·.1) = ns.map Sum.inl ∧
  ∀ (ns' : List Int) (p : Addr), ns'.Perm ns → ns'.Pairwise (· ≤ ·) → H p = none → Q (.ref p) (upd H p (.lst (ns'.map V.int)))
theorem ints_at {ns : List Int} : ∀ {ks : List (Key × Value)} {vs : List Value} , ks.map (·.1) = ns.map Sum.inl → vs.length = ks.length → (∀ (j : Nat) (v : Value), vs[j]? = some v → ∃ k x, ks[j]? = some (k, x) ∧ keyIs k v = true) → IntsAre vs ns := by
  induction ns with
  | nil =>
    intro ks vs h1 h2 h3
    cases ks with
    | nil =>
      cases vs with
      | nil => exact .nil
      | cons v vs => simp at h2
    | cons k ks => simp at h1
  | cons n ns ih =>
    intro ks vs h1 h2 h3
    cases ks with
    | nil => simp at h1
    | cons k ks =>
      cases vs with
      | nil => simp at h2
      | cons v vs =>
        rw [List.map_cons, List.map_cons] at h1
        injection h1 with e1 e2
        obtain ⟨k', x, hx, hk⟩ := h3 0 v rfl
        have hx : k = (k', x) := by simpa using hx
        rw [hx] at e1
        rw [show k' = Sum.inl n from e1] at hk
        rcases keyIs_shape hk with ⟨i, t, e, ev⟩ | ⟨z, t, e, _⟩
        · cases e
          rw [ev]
          exact .cons n t (ih e2 (by simpa using h2) fun j u hu => by
            have := h3 (j + 1) u (by simpa using hu)
            simpa using this)
        · cases e
theorem cr_sortedK {X : Cx} (hc : X.calm = true) : CallR X (.builtin "sorted") rSortK := by
  intro pins s σ H xs us Q I r h
  obtain ⟨a, kvs, ns, rfl, ha, hk, q⟩ := h
  obtain rfl := Vals.ref1 r
  obtain ⟨z, hd, vs, rel, o, es, ep, hat0⟩ := dk_of I.hok ha
  have hat : s.heap.DictAt (mixKind X.prog X.w) a vs ep := ⟨o, es, hat0⟩
  have hks : vs.map (·.1) = ns.map Sum.inl := by rw [← hk]; exact rel.keys.symm
  have hlen : vs.length = ns.length := by
    have := congrArg List.length hks
    rwa [List.length_map, List.length_map] at this
  have hz : vs.length ≤ sizeLine := by
    have : kvs.length = ns.length := by
      have := congrArg List.length hk
      rwa [List.length_map, List.length_map] at this
    omega
  refine Calls.call_function_entry kind_sorted plain_sorted entry_sorted (args_sorted1 _) ?_
  unfold Builtin.«sorted»
  refine wpAny_bind (m := checkCount "sorted" 1 1 _) (wpAny_pure ?_)
  refine wpAny_bind (kdu_collect (A := X.A.in1) (kdl_dict (knd := mixKind X.prog X.w) (kvs := vs) (ep := ep) hd) (I.ok.hd hc) hat hz fun h' tk acc kp hacc => ?_)
  have hl : acc.toList.length = vs.length := by rw [Array.length_toList]; exact hacc.1
  have hi : IntsAre acc.toList ns := ints_at hks hl fun j v hv => hacc.2 j v (by rw [← Array.getElem?_toList]; exact hv)
  refine wpAny_bind (wpAny_newList ?_ (by rw [hl]; exact hz))
  have hoL : (h'.push { cls := .type "list", data := .seq acc.toList.toArray }).get? h'.objs.size = some (seqObj "list" acc.toList.toArray 0) := Heap.get?_push_size _ rfl
  have kp2 : ∀ b o, s.heap.get? b = some o → b ≠ h'.objs.size ∧ (h'.push { cls := .type "list", data := .seq acc.toList.toArray }).get? b = some o := fun b o e => ⟨Nat.ne_of_lt (Heap.lt_size (kp b o e)), Heap.get?_push_of_some _ (kp b o e)⟩
  have n0 : s.heap.get? h'.objs.size = none := by
    cases e : s.heap.get? h'.objs.size with
    | none => rfl
    | some o => exact absurd (Heap.lt_size (kp _ o e)) (Nat.lt_irrefl _)
  have nH : H h'.objs.size = none := (I.kept (h' := h') (t' := tk) kp).hok.fresh (Nat.le_refl _)
  refine wpAny_bind (wpAny_holding (wpAny_call_entry slot_list_sort ⟨_, hoL, rfl⟩ entry_list_sort (list_sort_ord swo_int hoL (by rw [hl]; exact hz) (fun h2 => ints_sortable hi h2) fun out hs hb => ⟨_, rfl, ?_⟩) (args_list_sort _)))
  obtain ⟨k1, k2, k3⟩ := ints_out hi hs hb
  obtain ⟨eF, heF⟩ := PyProof.Rows.sortedHeap_at (vs := acc.toList) (out := out.toArray) hoL
  have kF : ∀ b o, s.heap.get? b = some o → (sortedHeap (h'.push { cls := .type "list", data := .seq acc.toList.toArray }) h'.objs.size acc.toList out.toArray).get? b = some o := fun b o e => (PyProof.Rows.sortedHeap_old (kp2 b o e).1 (Heap.lt_size (kp2 b o e).2)).trans (kp2 b o e).2
  have hlen2 : ((out.map iv).map V.int).length ≤ sizeLine := by
    rw [List.length_map, k2.length_eq, ← hlen]
    exact hz
  exact wpAny_pure ⟨_, rfl, .ref _, upd H h'.objs.size (.lst ((out.map iv).map V.int)), I.laidN (t' := tk) kF n0 nH ⟨hlen2, out, eF, vals_of_ints k1, heF⟩, rfl, q _ _ k2 k3 nH⟩
end Fw
set_option Elab.async false
set_option linter.all false
set_option maxRecDepth 100000
set_option maxHeartbeats 4000000
namespace Fw
open PySem PySem.Spec PyProof.Rows L2
theorem meets_ext (l b : Addr) (xs ys : Array Value) (n m : Nat) (od : Option Addr) (sl : Array (Option Value)) (short : ¬(!xs.isEmpty && Builtin.List.listTooLong (xs.size + ys.size)) = true) (z1 : xs.size ≤ sizeLine) (z2 : xs.size + ys.size ≤ sizeLine + 1) :
    Meets (Builtin.«list.extend» ⟨[.ref l, .ref b], []⟩) (fun _ R s => s.heap.get? l = some ⟨.type "list", none, .seq xs n, #[]⟩ ∧ s.heap.get? b = some ⟨.type "tuple", od, .seq ys m, sl⟩ ∧ R (.ok (.ret Value.none)) { s with heap := s.heap.update l (Obj.mapSeq fun x => x ++ ys), toks := s.toks }) :=
  .of_wp fun prog w A R s h => by
    obtain ⟨hp, g, d, tk, os⟩ := s
    obtain ⟨hl, hb, h⟩ := h
    have f1 := AutoSeq1.idx_int
    have f2 := AutoSeq1.sub_tuple_tuple
    have f3 := AutoSeq1.sub_list_list
    have f4 := AutoSeq1.sub_tuple_list
    have f5 := AutoSeq1.sub_list_tuple
    have hz' : (xs ++ ys).size ≤ sizeLine + 1 := by rw [Array.size_append]; exact z2
    wp_walk using (wpAny_updateSeq hl rfl (hz := z1) (_hz' := hz')), AutoSeq1.wpAny_loadPart' hl, AutoSeq1.wpAny_loadPart' hb
    exact ⟨_, rfl, h⟩
/-- l.extend(b): b another list, or a tuple -/
def rExtendA (K : PySem.W.Frag) : V → List V → Hp → VK → Prop := fun x vs H Q => ∃ (l b : Addr) (xs ys : List V), x = .ref l ∧ vs = [.ref b] ∧ H l = some (.lst xs) ∧ (H b = some (.lst ys) ∨ H b = some (.tup ys)) ∧ xs.length + ys.length ≤ 100000 ∧ Q .non (upd H l (.lst (xs ++ ys)))
theorem mt_extendA {X : Cx} : MtM X "list.extend" (rExtendA X.K) := by
  intro pins s σ H x vs v us Q inv rx rs rd
  obtain ⟨l, b, xs, ys, rfl, rfl, hl, hb, few, q⟩ := rd
  have few2 : xs.length + ys.length ≤ sizeLine := Nat.le_trans few (by decide)
  rcases hb with hb | hb
  · exact mt_extend pins s σ H _ _ v us Q inv rx rs ⟨l, b, xs, ys, rfl, rfl, hl, hb, few2, q⟩
  · cases rx
    obtain ⟨u, rfl, ru⟩ := rs.one
    cases ru
    obtain ⟨_, its, n, r, e0, e⟩ := inv.lstM hl
    obtain ⟨_, its2, r2, o, e2, c2, m, d2⟩ := (show ObjOk X.prog X.w H s.heap b (.tup ys) from inv.hok b _ hb)
    obtain ⟨oc, od, dt, sl⟩ := o
    simp only at c2 d2
    subst c2 d2
    have l2 := r2.length
    have sz : its.toArray.size + its2.toArray.size ≤ sizeLine := by rw [List.size_toArray, List.size_toArray]; omega
    have lng : ¬ (!its.toArray.isEmpty && Builtin.List.listTooLong (its.toArray.size + its2.toArray.size)) = true := by
      rw [notLongL sz, Bool.and_false]
      exact Bool.false_ne_true
    refine call_meets F.slot_list_extend ⟨_, e, rfl⟩ F.entry_list_extend (F.args_list_extend_2 _ _) (meets_ext l b its.toArray its2.toArray n m od sl lng (by rw [List.size_toArray]; omega) (by omega)) ⟨e, e2, ?_⟩
    refine ⟨.non, _, inv.lset (its' := its ++ its2) hl e (by simp) (r.append r2) ?_, rfl, q⟩
    rw [List.length_append]
    omega
end Fw
set_option Elab.async false
set_option linter.all false
set_option maxRecDepth 100000
set_option maxHeartbeats 4000000
namespace Fw
open PySem L2 RZ RT
theorem Dk.upd {c D q : Addr} {ns : List Int} {t : Nat} {H : Hp} {o : HO} (d : Dk c D ns t H) (h1 : q ≠ c) (h2 : q ≠ D) : Dk c D ns t (L2.upd H q o) := by
  obtain ⟨a, b, e, i, n, u, h, r⟩ := d
  exact ⟨a, updN h1.symm b, e, i, n, u, updN h2.symm h, r⟩
theorem Dk.le {c D : Addr} {ns : List Int} {t t' : Nat} {H : Hp} (d : Dk c D ns t H) (h : t ≤ t') : Dk c D ns t' H := by
  obtain ⟨a, b, e, i, n, u, hh, r1, r2, r3, r4, r5⟩ := d
  exact ⟨a, b, e, i, n, u, hh, r1, r2, r3, r4, by omega⟩
theorem Dk.someD {c D : Addr} {ns : List Int} {t : Nat} {H : Hp} (d : Dk c D ns t H) : ∃ xs, H D = some (.lst xs) := by
  obtain ⟨_, _, _, _, _, _, h, _⟩ := d
  exact ⟨_, h⟩
theorem Dk.someC {c D : Addr} {ns : List Int} {t : Nat} {H : Hp} (d : Dk c D ns t H) : ∃ xs, H c = some (.lst xs) := ⟨_, d.2.1⟩
theorem Dk.neD {c D q : Addr} {ns : List Int} {t : Nat} {H : Hp} (d : Dk c D ns t H) (h : H q = none) : q ≠ D := by
  obtain ⟨xs, e⟩ := d.someD
  exact (ne_of_none e h).symm
theorem Dk.neC {c D q : Addr} {ns : List Int} {t : Nat} {H : Hp} (d : Dk c D ns t H) (h : H q = none) : q ≠ c := by
  obtain ⟨xs, e⟩ := d.someC
  exact (ne_of_none e h).symm
/-- all but the deck stands -/
def Kp (D : Addr) (H H' : Hp) : Prop := ∀ b o, H b = some o → b ≠ D → H' b = some o
theorem Kp.refl (D : Addr) (H : Hp) : Kp D H H := fun _ _ e _ => e
theorem Kp.trans {D : Addr} {H H1 H2 : Hp} (a : Kp D H H1) (b : Kp D H1 H2) : Kp D H H2 := fun x o e n => b x o (a x o e n) n
theorem Kp.fr {D : Addr} {H H' : Hp} (f : ∀ b, b ≠ D → H' b = H b) : Kp D H H' := fun b o e n => by rw [f b n]; exact e
theorem Kp.new {D q : Addr} {H : Hp} {o : HO} (n : H q = none) : Kp D H (L2.upd H q o) := fun b u e _ => updN (ne_of_none e n) e
theorem Kp.of_same {D : Addr} {H H' : Hp} (s : Same H H') : Kp D H H' := fun b o e _ => s b o e
theorem Kp.tup {D : Addr} {H H' : Hp} {c : Addr} {ns : List Int} {t : Nat} (k : Kp D H H') (d : Dk c D ns t H) (a : Addr) (xs : List V) (h : H a = some (.tup xs)) : H' a = some (.tup xs) := by
  obtain ⟨ys, e⟩ := d.someD
  exact k a _ h (ne_of h e (by intro z; cases z))
/-- what was free at first, behind what keeps -/
theorem Kp.free {D q : Addr} {H H' : Hp} (k : Kp D H H') (h : H' q = none) (n : q ≠ D) : H q = none := by
  cases e : H q with
  | none => rfl
  | some o => rw [k q o e n] at h; cases h
end Fw
set_option Elab.async false
set_option linter.all false
set_option maxRecDepth 100000
set_option maxHeartbeats 4000000
namespace Fw
open PySem L2 RZ RT
abbrev rLeS : R2 := fun x y H Q => ∃ i j, x = .str i ∧ y = .str j ∧ Q (.bl (!decide (j.cps.toList < i.cps.toList))) H
def fOrd : List V → Hp → VK → Prop := fun xs H Q => ∃ x, xs = [.str x] ∧ x.length = 1 ∧ Q (.int (x.cps.getD 0 0 : Nat)) H
def fJoin (K : PySem.W.Frag) : V → List V → Hp → VK → Prop := fun x xs H Q => ∃ a p, ∃ ys : List Str, x = .str a ∧ xs = [.ref p] ∧ (SqL K H p (ys.map V.str) ∨ SqT K H p (ys.map V.str)) ∧ (ys.map (·.length)).sum + ys.length * a.length ≤ 16777216 ∧ Q (.str (Txt.join a ys)) H
theorem ixS {K : PySem.W.Frag} {H : Hp} {z : Str} {i : Int} {c : Nat} {Q : VK} (hz : z.length ≤ 1000) (ha : atI z.cps.toList i = some c) (q : Q (.str ⟨#[c]⟩) H) : rIx K (.str z) (.int i) H Q := .inr (.inr ⟨z, i, c, rfl, rfl, Nat.le_trans hz (by decide), ha, q⟩)
theorem lenS {K : PySem.W.Frag} {H : Hp} {z : Str} {Q : VK} {σ : L2.St} (hz : z.length ≤ 1000) (q : Q (.int z.length) H) : tNil σ H fun ys H2 => fLen K (.str z :: ys) H2 Q := ⟨_, _, rfl, ⟨Nat.le_trans hz (by decide), rfl⟩, q⟩
theorem Same.upd {H : Hp} {p : Addr} {o : HO} (n : H p = none) : Same H (upd H p o) := fun b u e => updN (ne_of_none e n) e
theorem Same.updI {H H' : Hp} {p : Addr} {o : HO} (s : Same H H') (n : H p = none) : Same H (L2.upd H' p o) := fun b u e => updN (ne_of_none e n) (s b u e)
/-- a comprehension whose elements may make new things, nothing else -/
theorem lc_grow {J : It} {n : Nat} {G : Hp → Prop} {Y : Nat → Hp → V → Hp → Prop} (w : Walk J n G Y) (hY : ∀ i H x H', Y i H x H' → H' = H) {k : Nat} {te : TE} {vs : List Nat} {σ : L2.St} {H1 : Hp} {D : Addr} {Qd : Hp → Prop} {ys : List V}
    (hD : H1 D = none) (hl : ys.length = n) (hz : n ≤ 100000) (hG : ∀ H', Same H1 H' → G H')
    (hs : ∀ (i : Nat) (x y : V) (H' : Hp) (R : VK), i < n → Y i H' x H' → ys[i]? = some y → Same H1 H' → (∀ H'', Same H' H'' → R y H'') → wipe ((wipe σ vs).set k (some x)) vs = wipe σ vs ∧ te ((wipe σ vs).set k (some x)) H' R)
    (hd : ∀ H', Same H1 H' → H' D = some (.lst ys) → Qd H') :
    ∃ W : Nat → Nat → Hp → Prop, (∃ m, W 0 m (L2.upd H1 D (.lst []))) ∧ ∀ i m H, W i m H →
      (J.stop i H ∧ Qd H) ∨ (J.go i H ∧ ∃ Nx : Hp → Prop, (∀ H', Nx H' → ∃ m', m' < m ∧ W (i + 1) m' H') ∧ ∀ x H', J.yld i H x H' → gName k x (wipe σ vs) H' fun σ2 H2 => wipe σ2 vs = wipe σ vs ∧ tYes σ2 H2 fun b H3 =>
        if b = true then te σ2 H3 fun y H4 => ∃ acc, H4 D = some (.lst acc) ∧ acc.length < sizeLine ∧ Nx (L2.upd H4 D (.lst (acc ++ [y]))) else Nx H3) := by
  refine lc_it w (fun i H => Same H1 H ∧ H D = some (.lst (ys.take i))) ⟨Same.upd hD, updS⟩ (fun i H _ p => hG H p.1) (fun i x H H' hi p hy => ?_) (fun H p => hd H p.1 (by rw [p.2, List.take_of_length_le (by omega)]))
  have e := hY i H x H' hy
  subst e
  have hi2 : i < ys.length := by omega
  obtain ⟨q1, q2⟩ := hs i x ys[i] H' (fun y H4 => ∃ acc, H4 D = some (.lst acc) ∧ acc.length < sizeLine ∧ (Same H1 (L2.upd H4 D (.lst (acc ++ [y]))) ∧ L2.upd H4 D (.lst (acc ++ [y])) D = some (.lst (ys.take (i + 1))))) hi hy (List.getElem?_eq_getElem hi2) p.1 (fun H'' s => ⟨_, s _ _ p.2, Nat.lt_of_le_of_lt (by rw [List.length_take]; omega : (ys.take i).length ≤ 100000) (by decide), Same.updI (Same.trans p.1 s) hD, by rw [updS, List.take_add_one, List.getElem?_eq_getElem hi2]; rfl⟩)
  exact ⟨q1, q2⟩
/-- the same where each element draws: what it gives keeps P -/
theorem lc_deck {J : It} {n : Nat} {Y : Nat → Hp → V → Hp → Prop} (w : Walk J n (fun _ => True) Y) (hY : ∀ i H x H', Y i H x H' → H' = H) {α : Type} (f : α → V) (P : α → Prop) (st : Nat) {k : Nat} {te : TE} {vs : List Nat} {σ : L2.St} {H1 : Hp} {L : Addr} {Qd : Hp → Prop} {c D : Addr} {ns : List Int} {t : Nat}
    (hL : H1 L = none) (dk : Dk c D ns t H1) (hz : n ≤ 100000)
    (hs : ∀ (i : Nat) (x : V) (H' : Hp) (R : VK), i < n → Kp D H1 H' → Dk c D ns (t + st * i) H' → (∀ y H'', P y → Kp D H' H'' → Dk c D ns (t + st * i + st) H'' → R (f y) H'') → wipe ((wipe σ vs).set k (some x)) vs = wipe σ vs ∧ te ((wipe σ vs).set k (some x)) H' R)
    (hd : ∀ (ys : List α) (H' : Hp), ys.length = n → (∀ y ∈ ys, P y) → Kp D H1 H' → Dk c D ns (t + st * n) H' → H' L = some (.lst (ys.map f)) → Qd H') :
    ∃ W : Nat → Nat → Hp → Prop, (∃ m, W 0 m (L2.upd H1 L (.lst []))) ∧ ∀ i m H, W i m H →
      (J.stop i H ∧ Qd H) ∨ (J.go i H ∧ ∃ Nx : Hp → Prop, (∀ H', Nx H' → ∃ m', m' < m ∧ W (i + 1) m' H') ∧ ∀ x H', J.yld i H x H' → gName k x (wipe σ vs) H' fun σ2 H2 => wipe σ2 vs = wipe σ vs ∧ tYes σ2 H2 fun b H3 =>
        if b = true then te σ2 H3 fun y H4 => ∃ acc, H4 L = some (.lst acc) ∧ acc.length < sizeLine ∧ Nx (L2.upd H4 L (.lst (acc ++ [y]))) else Nx H3) := by
  have nLD : L ≠ D := dk.neD hL
  have nLC : L ≠ c := dk.neC hL
  refine lc_it w (fun i H => ∃ ys : List α, ys.length = i ∧ (∀ y ∈ ys, P y) ∧ Kp D H1 H ∧ Dk c D ns (t + st * i) H ∧ H L = some (.lst (ys.map f))) ⟨[], rfl, (fun _ h => by cases h), .new hL, dk.upd nLC nLD, updS⟩ (fun _ _ _ _ => True.intro) ?_ ?_
  · rintro i x H H' hi ⟨ys, hl, hp, kp, dk2, hLs⟩ hy
    have e := hY i H x H' hy
    subst e
    obtain ⟨q1, q2⟩ := hs i x H' (fun y H4 => ∃ acc, H4 L = some (.lst acc) ∧ acc.length < sizeLine ∧ ∃ ys : List α, ys.length = i + 1 ∧ (∀ y ∈ ys, P y) ∧ Kp D H1 (L2.upd H4 L (.lst (acc ++ [y]))) ∧ Dk c D ns (t + st * (i + 1)) (L2.upd H4 L (.lst (acc ++ [y]))) ∧ L2.upd H4 L (.lst (acc ++ [y])) L = some (.lst (ys.map f))) hi kp dk2 (fun y H'' py k2 d2 => by
      refine ⟨_, k2 _ _ hLs nLD, Nat.lt_of_le_of_lt (by rw [List.length_map]; omega : (ys.map f).length ≤ 100000) (by decide), ys ++ [y], by rw [List.length_append, hl]; rfl, fun z hz2 => ?_, fun b o e n => updN (ne_of_none e hL) ((kp.trans k2) b o e n), ?_, by rw [updS, List.map_append]; rfl⟩
      · rcases List.mem_append.mp hz2 with h | h
        · exact hp z h
        · cases List.mem_singleton.mp h
          exact py
      · have e2 : t + st * (i + 1) = t + st * i + st := by rw [Nat.mul_add, Nat.mul_one, Nat.add_assoc]
        rw [e2]
        exact d2.upd nLC nLD)
    exact ⟨q1, q2⟩
  · rintro H ⟨ys, hl, hp, kp, dk2, hLs⟩
    exact hd ys H hl hp kp dk2 hLs
theorem SameV.mono {H H' : Hp} (s : Same H H') : ∀ {n : Nat} {x y : V}, SameV H n x y → SameV H' n x y
  | 0, _, _, h => h
  | n + 1, x, y, h => by
    rcases h with h | ⟨p, q, xs, ys, rfl, rfl, h, hl, hz, hs⟩
    · exact .inl h
    · refine .inr ⟨p, q, xs, ys, rfl, rfl, h.imp (fun h => ⟨s _ _ h.1, s _ _ h.2⟩) (fun h => ⟨s _ _ h.1, s _ _ h.2⟩), hl, hz, fun i a b h1 h2 => (hs i a b h1 h2).mono s⟩
theorem SameV.strs {H : Hp} {n : Nat} {zs : List Str} : ∀ (i : Nat) (a b : V), (zs.map V.str)[i]? = some a → (zs.map V.str)[i]? = some b → SameV H (n + 1) a b := fun i a b h1 h2 => by
  have e : a = b := Option.some.inj (h1.symm.trans h2)
  rw [List.getElem?_map] at h1
  cases q : zs[i]? with
  | none => rw [q] at h1; cases h1
  | some z => rw [q] at h1; exact Or.inl ⟨e, .inr (.inr (.inr ⟨z, (Option.some.inj h1).symm⟩))⟩
def sp_same2N (_ : PySem.W.Frag) (n : Nat) : Sp := fun vs H Q _ => ∃ x y, vs = [x, y] ∧ SameV H n x y ∧ ∀ H', Same H H' → Q (.bl true) H'
abbrev sp_l_same2 (K : PySem.W.Frag) : Sp := sp_same2N K 6
theorem len_same2N {K : PySem.W.Frag} {vs : List V} {H : Hp} {Q : VK} {E : XK} {n : Nat} (h : sp_same2N K n vs H Q E) : vs.length = 2 := by
  obtain ⟨_, _, rfl, _⟩ := h
  rfl
def t_l_same2_loop (K : PySem.W.Frag) (n : Nat) : TS := (tSeq (tIfS (tTest (tOp rNe (tCB (fLen K) (tCons (tVar 0) tNil)) (tCB (fLen K) (tCons (tVar 1) tNil)))) (tRet (tC (.bl false))) tNext)
    (tSeq (tFor (iRng1 (tCons (tCB (fLen K) (tCons (tVar 1) tNil)) tNil)) (gName 2) (tIfS (tNot (tB (tCall (sp_same2N K n) [] E0 (tCons (tOp (rIx K) (tVar 0) (tVar 2)) (tCons (tOp (rIx K) (tVar 1) (tVar 2)) tNil))))) (tRet (tC (.bl false))) tNext))
    (tRet (tC (.bl true)))))
def t_l_same2_tail (K : PySem.W.Frag) (n : Nat) : TS := (tSeq (tIfS (tB (tCB (rIsi K) (tCons (tVar 1) (tCons (tC (.ty "dict")) tNil)))) tNever tNext)
    (tSeq (tIfS (tB (tCB (rIsi K) (tCons (tVar 1) (tCons (tC (.ty "bool")) tNil)))) (tRet (tAndV (tCB (rIsi K) (tCons (tVar 0) (tCons (tC (.ty "bool")) tNil))) (tOp rEq (tVar 0) (tVar 1)))) tNext)
    (tSeq (tIfS (tB (tCB (rIsi K) (tCons (tVar 1) (tCons (tC (.ty "int")) tNil)))) (tRet (tAndV (tCall (sp_l_int K) [] E0 (tCons (tVar 0) tNil)) (tOp rEq (tVar 0) (tVar 1)))) tNext)
    (tSeq (tIfS (tB (tCB (rIsi K) (tCons (tVar 1) (tCons (tC (.ty "str")) tNil)))) (tRet (tAndV (tCB (rIsi K) (tCons (tVar 0) (tCons (tC (.ty "str")) tNil))) (tOp rEq (tVar 0) (tVar 1)))) tNext)
    (tRet (tAndV (tOp fIsN (tVar 1) (tC .non)) (tOp fIsN (tVar 0) (tC .non))))))))
def t_l_same2 (K : PySem.W.Frag) (n : Nat) : TS := (tSeq (tIfS (tB (tCB (rIsiT K) (tCons (tVar 1) (tCons (tTup (tCons (tC (.ty "tuple")) (tCons (tC (.ty "list")) tNil))) tNil)))) (tSeq (tIfS (tOr (tTest (tOp rNe (tCB (rIsi K) (tCons (tVar 1) (tCons (tC (.ty "tuple")) tNil))) (tCB (rIsi K) (tCons (tVar 0) (tCons (tC (.ty "tuple")) tNil))))) (tTest (tOp rNe (tCB (rIsi K) (tCons (tVar 1) (tCons (tC (.ty "list")) tNil))) (tCB (rIsi K) (tCons (tVar 0) (tCons (tC (.ty "list")) tNil)))))) (tRet (tC (.bl false))) tNext)
    (t_l_same2_loop K n)) tNext)
    (t_l_same2_tail K n))
section
variable {K : PySem.W.Frag} {H : Hp} {x : V} {Q : VK} {σ : L2.St} {t : String} {b : Bool}
/-- isinstance(x, (tuple, list)) -/
theorem isi2 (ty : ∀ H', Same H H' → TyX K H' x (.type t)) {b1 b2 : Bool} (k1 : kitB t "tuple" = some b1) (k2 : kitB t "list" = some b2) (q : ∀ T, H T = none → Q (.bl (b1 || b2)) (upd H T (.tup [.ty "tuple", .ty "list"]))) :
    tCons (tTup (tCons (tC (.ty "tuple")) (tCons (tC (.ty "list")) tNil))) tNil σ H fun ys H2 => rIsiT K (x :: ys) H2 Q := by
  refine ⟨by show (2 : Nat) ≤ sizeLine; decide, fun T nT => ⟨x, T, _, _, [.type "tuple", .type "list"], (b1 || b2), rfl, updS, .cons (.ty _) (.cons (.ty _) .nil), ty _ (Same.upd nT), ?_, q T nT⟩⟩
  refine kitAny_cons (kit_ty k1) (fun e => ?_) (fun e => by rw [e]; rfl)
  subst e
  exact kitAny_cons (kit_ty k2) (fun e => by subst e; exact kitAny_nil) (fun e => by rw [e]; rfl)
end
theorem k_id : kitB "int" "dict" = some false := by decide +kernel
theorem k_bd : kitB "bool" "dict" = some false := by decide +kernel
theorem k_sd : kitB "str" "dict" = some false := by decide +kernel
theorem k_nd : kitB "NoneType" "dict" = some false := by decide +kernel
theorem pure_l_same2 {K : PySem.W.Frag} {n : Nat} {vs : List V} {H : Hp} {Q : VK} {E : XK} (h : sp_same2N K (n + 1) vs H Q E) : t_l_same2 K n { nx := fun _ H' => Q .non H', rt := Q } (start N_l_same vs) H := by
  obtain ⟨x, y, rfl, h, k⟩ := h
  rcases h with ⟨rfl, h⟩ | ⟨p, q, xs, ys, rfl, rfl, h, hl, hz, hs⟩
  · rcases h with rfl | ⟨i, rfl⟩ | ⟨b, rfl⟩ | ⟨z, rfl⟩
    · refine ⟨_, rfl, isi2 (fun _ _ => .base .non) k_nt k_nl fun T nT => ⟨_, rfl, iteF ?_⟩⟩
      refine ⟨_, rfl, isi (.base .non) k_nd ⟨_, rfl, iteF ?_⟩⟩
      refine ⟨_, rfl, isi (.base .non) k_nb ⟨_, rfl, iteF ?_⟩⟩
      refine ⟨_, rfl, isi (.base .non) k_ni ⟨_, rfl, iteF ?_⟩⟩
      refine ⟨_, rfl, isi (.base .non) k_ns ⟨_, rfl, iteF ?_⟩⟩
      exact ⟨_, rfl, rfl, _, rfl, iteT ⟨_, rfl, rfl, k _ (Same.upd nT)⟩⟩
    · refine ⟨_, rfl, isi2 (fun _ _ => .base (.int i)) k_it k_il fun T nT => ⟨_, rfl, iteF ?_⟩⟩
      refine ⟨_, rfl, isi (.base (.int i)) k_id ⟨_, rfl, iteF ?_⟩⟩
      refine ⟨_, rfl, isi (.base (.int i)) k_ib ⟨_, rfl, iteF ?_⟩⟩
      refine ⟨_, rfl, isi (.base (.int i)) k_ii ⟨_, rfl, iteT ?_⟩⟩
      refine ⟨_, rfl, i, rfl, _, rfl, iteT ⟨_, rfl, _, rfl, rfl, ?_⟩⟩
      rw [decide_eq_true rfl]
      exact k _ (Same.upd nT)
    · refine ⟨_, rfl, isi2 (fun _ _ => .base (.bl b)) k_bt k_bl fun T nT => ⟨_, rfl, iteF ?_⟩⟩
      refine ⟨_, rfl, isi (.base (.bl b)) k_bd ⟨_, rfl, iteF ?_⟩⟩
      refine ⟨_, rfl, isi (.base (.bl b)) k_bb ⟨_, rfl, iteT ?_⟩⟩
      refine ⟨_, rfl, isi (.base (.bl b)) k_bb ⟨_, rfl, iteT ⟨_, rfl, _, rfl, rfl, ?_⟩⟩⟩
      rw [decide_eq_true rfl]
      exact k _ (Same.upd nT)
    · refine ⟨_, rfl, isi2 (fun _ _ => .base (.str z)) k_st k_sl fun T nT => ⟨_, rfl, iteF ?_⟩⟩
      refine ⟨_, rfl, isi (.base (.str z)) k_sd ⟨_, rfl, iteF ?_⟩⟩
      refine ⟨_, rfl, isi (.base (.str z)) k_sb ⟨_, rfl, iteF ?_⟩⟩
      refine ⟨_, rfl, isi (.base (.str z)) k_si ⟨_, rfl, iteF ?_⟩⟩
      refine ⟨_, rfl, isi (.base (.str z)) k_ss ⟨_, rfl, iteT ?_⟩⟩
      refine ⟨_, rfl, isi (.base (.str z)) k_ss ⟨_, rfl, iteT ⟨_, rfl, _, rfl, rfl, ?_⟩⟩⟩
      rw [decide_eq_true rfl]
      exact k _ (Same.upd nT)
  · have loop : ∀ H0 : Hp, Same H H0 → (∃ o, (H p = some o ∧ (o = .lst xs ∨ o = .tup xs))) → (∃ o, (H q = some o ∧ (o = .lst ys ∨ o = .tup ys))) → ∀ z2 : Option V,
        t_l_same2_loop K n { nx := t_l_same2_tail K n { nx := fun _ H' => Q .non H', rt := Q }, rt := Q } [some (.ref p), some (.ref q), z2] H0 := by
      intro H0 s0 hp hq z2
      have hlen : ∀ {r : Addr} {zs : List V} {R : VK} {σ : L2.St} {H1 : Hp}, (∃ o, (H r = some o ∧ (o = .lst zs ∨ o = .tup zs))) → Same H H1 → R (.int zs.length) H1 → tNil σ H1 fun ws H2 => fLen K (.ref r :: ws) H2 R := by
        rintro r zs R σ H1 ⟨o, h1, rfl | rfl⟩ s h2
        · exact lenL (s _ _ h1) h2
        · exact lenT (s _ _ h1) h2
      have hix : ∀ {r : Addr} {zs : List V} {R : VK} {i : Int} {v : V} {H1 : Hp}, (∃ o, (H r = some o ∧ (o = .lst zs ∨ o = .tup zs))) → Same H H1 → atI zs i = some v → R v H1 → rIx K (.ref r) (.int i) H1 R := by
        rintro r zs R i v H1 ⟨o, h1, rfl | rfl⟩ s h2 h3
        · exact ixL (s _ _ h1) h2 h3
        · exact ixT (s _ _ h1) h2 h3
      refine ⟨_, rfl, hlen hp s0 ⟨_, rfl, hlen hq s0 ⟨rfl, _, rfl, ?_⟩⟩⟩
      rw [decide_eq_true (show V.int (xs.length : Int) = V.int (ys.length : Int) by rw [hl])]
      refine iteF ?_
      refine ⟨_, rfl, hlen hq s0 ⟨_, rfl, (len_le (by omega)).1, (len_le (by omega)).2, for_range (lo := 0) (n := ((ys.length : Int)).toNat) (fun i σ H' => Same H H' ∧ ∃ z, σ = [some (.ref p), some (.ref q), z]) ⟨s0, _, rfl⟩ ?_ ?_⟩⟩
      · rintro i σ H' hi ⟨s1, z, rfl⟩
        have hi1 : i < ys.length := by omega
        have hi2 : i < xs.length := by omega
        have e1 : atI xs (0 + (i : Int)) = some xs[i] := by rw [Int.zero_add]; exact atI_nat (List.getElem?_eq_getElem hi2)
        have e2 : atI ys (0 + (i : Int)) = some ys[i] := by rw [Int.zero_add]; exact atI_nat (List.getElem?_eq_getElem hi1)
        refine ⟨_, rfl, _, rfl, hix hp s1 e1 ⟨_, rfl, _, rfl, hix hq s1 e2 ⟨_, _, rfl, (hs i _ _ (List.getElem?_eq_getElem hi2) (List.getElem?_eq_getElem hi1)).mono s1, fun H2 s2 => ⟨_, rfl, iteF ?_⟩⟩⟩⟩
        exact ⟨s1.trans s2, _, rfl⟩
      · rintro σ H' ⟨s1, z, rfl⟩
        exact k _ s1
    rcases h with ⟨h1, h2⟩ | ⟨h1, h2⟩
    · have t1 : ∀ H', Same H H' → TyX K H' (.ref p) (.type "list") := fun H' s => .base (.lst (s _ _ h1))
      have t2 : ∀ H', Same H H' → TyX K H' (.ref q) (.type "list") := fun H' s => .base (.lst (s _ _ h2))
      refine ⟨_, rfl, isi2 t2 k_lt k_ll fun T nT => ⟨_, rfl, iteT ?_⟩⟩
      have s0 : Same H (upd H T (.tup [.ty "tuple", .ty "list"])) := Same.upd nT
      refine ⟨_, rfl, isi (t2 _ s0) k_lt ⟨_, rfl, isi (t1 _ s0) k_lt ⟨rfl, _, rfl, iteF ⟨_, rfl, isi (t2 _ s0) k_ll ⟨_, rfl, isi (t1 _ s0) k_ll ⟨rfl, _, rfl, iteF ?_⟩⟩⟩⟩⟩⟩
      exact loop _ s0 ⟨_, h1, .inl rfl⟩ ⟨_, h2, .inl rfl⟩ _
    · have t1 : ∀ H', Same H H' → TyX K H' (.ref p) (.type "tuple") := fun H' s => .base (.tup (s _ _ h1))
      have t2 : ∀ H', Same H H' → TyX K H' (.ref q) (.type "tuple") := fun H' s => .base (.tup (s _ _ h2))
      refine ⟨_, rfl, isi2 t2 k_tt k_tl fun T nT => ⟨_, rfl, iteT ?_⟩⟩
      have s0 : Same H (upd H T (.tup [.ty "tuple", .ty "list"])) := Same.upd nT
      refine ⟨_, rfl, isi (t2 _ s0) k_tt ⟨_, rfl, isi (t1 _ s0) k_tt ⟨rfl, _, rfl, iteF ⟨_, rfl, isi (t2 _ s0) k_tl ⟨_, rfl, isi (t1 _ s0) k_tl ⟨rfl, _, rfl, iteF ?_⟩⟩⟩⟩⟩⟩
      exact loop _ s0 ⟨_, h1, .inr rfl⟩ ⟨_, h2, .inr rfl⟩ _
end Fw
set_option Elab.async false
set_option linter.all false
set_option maxRecDepth 100000
set_option maxHeartbeats 4000000
namespace Fw
open PySem L2 RZ RT
def OkC (c : Nat) : Prop := 32 ≤ c ∧ c ≤ 126 ∧ c ≠ 37
def OkS (z : Str) : Prop := z.cps.size ≤ 40 ∧ ∀ c ∈ z.cps.toList, OkC c
inductive Pc where
  | take (b m : Nat)
  | put (rs : List Str)
def Pc.n : Pc → Nat
  | .take _ m => m
  | .put rs => rs.length
def Pc.ok : Pc → Prop
  | .take _ m => 1 ≤ m
  | .put rs => rs ≠ [] ∧ ∀ z ∈ rs, OkS z
def Pc.fits (L : Nat) : Pc → Prop
  | .take b m => b + m ≤ L
  | .put _ => True
def Pc.mk (bs : List Str) : Pc → List Str
  | .take b m => (bs.drop b).take m
  | .put rs => rs
def total (ps : List Pc) : Nat := (ps.map Pc.n).sum
structure ScOk (ps : List Pc) : Prop where
  ok : ∀ p ∈ ps, p.ok
  few : total ps ≤ 40
theorem Pc.one {p : Pc} (h : p.ok) : 1 ≤ p.n := by
  cases p with
  | take b m => exact h
  | put rs => exact List.length_pos_iff.mpr h.1
theorem len_le_total : ∀ {ps : List Pc}, (∀ p ∈ ps, p.ok) → ps.length ≤ total ps
  | [], _ => Nat.le_refl _
  | p :: ps, h => by
    have a := len_le_total (ps := ps) fun q hq => h q (List.mem_cons_of_mem _ hq)
    have b := Pc.one (h p (List.mem_cons_self ..))
    show ps.length + 1 ≤ p.n + (ps.map Pc.n).sum
    have e : total ps = (ps.map Pc.n).sum := rfl
    omega
theorem ScOk.len {ps : List Pc} (h : ScOk ps) : ps.length ≤ 40 := Nat.le_trans (len_le_total h.ok) h.few
def TM (H H' : Hp) : Prop := ∀ (a : Addr) (xs : List V), H a = some (.tup xs) → H' a = some (.tup xs)
theorem TM.of {H H' : Hp} (s : Same H H') : TM H H' := fun a xs h => s _ _ h
theorem TM.trans {H H1 H2 : Hp} (a : TM H H1) (b : TM H1 H2) : TM H H2 := fun x xs h => b _ _ (a _ _ h)
theorem Kp.tm {D : Addr} {H H' : Hp} {c : Addr} {ns : List Int} {t : Nat} (k : Kp D H H') (d : Dk c D ns t H) : TM H H' := fun a xs h => k.tup d a xs h
def RwAt (H : Hp) (a : Addr) (rs : List Str) : Prop := H a = some (.tup (rs.map V.str))
def PcAt (H : Hp) (a : Addr) : Pc → Prop
  | .take b m => H a = some (.tup [.str "take", .int (b : Int), .int (m : Int)])
  | .put rs => ∃ r, H a = some (.tup [.str "put", .ref r]) ∧ RwAt H r rs
theorem PcAt.mono {H H' : Hp} {a : Addr} {p : Pc} (h : PcAt H a p) (s : TM H H') : PcAt H' a p := by
  cases p with
  | take b m => exact s _ _ h
  | put rs =>
    obtain ⟨r, h1, h2⟩ := h
    exact ⟨r, s _ _ h1, s _ _ h2⟩
/-- the pieces at these addresses -/
def PsAt (H : Hp) (as : List Addr) (ps : List Pc) : Prop := as.length = ps.length ∧ ∀ (i : Nat) (a : Addr) (p : Pc), as[i]? = some a → ps[i]? = some p → PcAt H a p
theorem PsAt.mono {H H' : Hp} {as : List Addr} {ps : List Pc} (h : PsAt H as ps) (s : TM H H') : PsAt H' as ps := ⟨h.1, fun i a p h1 h2 => (h.2 i a p h1 h2).mono s⟩
theorem PsAt.nil {H : Hp} : PsAt H [] [] := ⟨rfl, fun i a p h => by cases h⟩
theorem PsAt.snoc {H : Hp} {as : List Addr} {ps : List Pc} {T : Addr} {p : Pc} (h : PsAt H as ps) (hT : PcAt H T p) : PsAt H (as ++ [T]) (ps ++ [p]) := by
  refine ⟨by rw [List.length_append, List.length_append, h.1]; rfl, fun i a m h1 h2 => ?_⟩
  by_cases hi : i < as.length
  · rw [List.getElem?_append_left hi] at h1
    rw [List.getElem?_append_left (by rw [← h.1]; exact hi)] at h2
    exact h.2 i a m h1 h2
  · have hi2 : i < (as ++ [T]).length := (List.getElem?_eq_some_iff.mp h1).1
    rw [List.length_append, List.length_singleton] at hi2
    have e : i = as.length := by omega
    rw [List.getElem?_append_right (by omega), e, Nat.sub_self] at h1
    rw [List.getElem?_append_right (by rw [← h.1]; omega), e, h.1, Nat.sub_self] at h2
    cases Option.some.inj h1
    cases Option.some.inj h2
    exact hT
def ScAt (H : Hp) (s : Addr) (ps : List Pc) : Prop := ∃ as : List Addr, H s = some (.tup (as.map V.ref)) ∧ PsAt H as ps
theorem ScAt.mono {H H' : Hp} {s : Addr} {ps : List Pc} (h : ScAt H s ps) (m : TM H H') : ScAt H' s ps := by
  obtain ⟨as, h1, h2⟩ := h
  exact ⟨as, m _ _ h1, h2.mono m⟩
/-- the word of a piece, its other parts -/
theorem PcAt.word {K : PySem.W.Frag} {H : Hp} {a : Addr} {p : Pc} {Q : VK} (h : PcAt H a p) (ht : ∀ b m, p = .take b m → Q (.str "take") H) (hp : ∀ rs, p = .put rs → Q (.str "put") H) : rIx K (.ref a) (.int 0) H Q := by
  cases p with
  | take b m => exact ixT h rfl (ht b m rfl)
  | put rs => obtain ⟨r, h1, h2⟩ := h; exact ixT h1 rfl (hp rs rfl)
def sp_is_sign (_ : PySem.W.Frag) : Sp := fun vs H Q _ => ∃ c : Nat, vs = [.str ⟨#[c]⟩] ∧ OkC c ∧ Q (.bl true) H
def sp_is_text (_ : PySem.W.Frag) : Sp := fun vs H Q _ => ∃ z : Str, vs = [.str z] ∧ OkS z ∧ ∀ H', Same H H' → Q (.bl true) H'
def sp_is_row (_ : PySem.W.Frag) : Sp := fun vs H Q _ => ∃ z : Str, vs = [.str z] ∧ OkS z ∧ ∀ H', Same H H' → Q (.bl true) H'
def sp_is_intI (_ : PySem.W.Frag) : Sp := fun vs H Q _ => ∃ i : Int, vs = [.int i] ∧ Q (.bl true) H
def sp_is_pairT (_ : PySem.W.Frag) : Sp := fun vs H Q _ => ∃ (a : Addr) (x y : V), vs = [.ref a] ∧ H a = some (.tup [x, y]) ∧ Q (.bl true) H
section
variable {K : PySem.W.Frag} {vs : List V} {H : Hp} {Q : VK} {E : XK}
theorem len_is_sign (h : sp_is_sign K vs H Q E) : vs.length = 1 := by obtain ⟨_, rfl, _⟩ := h; rfl
theorem len_is_text (h : sp_is_text K vs H Q E) : vs.length = 1 := by obtain ⟨_, rfl, _⟩ := h; rfl
theorem len_is_row (h : sp_is_row K vs H Q E) : vs.length = 1 := by obtain ⟨_, rfl, _⟩ := h; rfl
theorem len_is_intI (h : sp_is_intI K vs H Q E) : vs.length = 1 := by obtain ⟨_, rfl, _⟩ := h; rfl
theorem len_is_pairT (h : sp_is_pairT K vs H Q E) : vs.length = 1 := by obtain ⟨_, _, _, rfl, _⟩ := h; rfl
end
abbrev N_is_int : List Str := ["thing"]
def t_is_int (K : PySem.W.Frag) : TS := (tRet (tAndV (tCB (rIsi K) (tCons (tVar 0) (tCons (tC (.ty "int")) tNil))) (tNotV (tCB (rIsi K) (tCons (tVar 0) (tCons (tC (.ty "bool")) tNil))))))
abbrev N_is_text : List Str := ["thing", "sign"]
def t_is_text (K : PySem.W.Frag) : TS := (tRet (tAndV (tCB (rIsi K) (tCons (tVar 0) (tCons (tC (.ty "str")) tNil))) (tCB (rAll K) (tCons (tLc (iStr (tVar 0)) (gName 1) tYes (tCall (sp_is_sign K) [] E0 (tCons (tVar 1) tNil)) [1]) tNil))))
abbrev N_is_sign : List Str := ["sign"]
def t_is_sign (K : PySem.W.Frag) : TS := (tRet (tAndV (tChain rLeS rLeS (tC (.str " ")) (tVar 0) (tC (.str "~"))) (tOp rNe (tCB fOrd (tCons (tVar 0) tNil)) (tC (.int 37)))))
abbrev N_is_pair : List Str := ["thing"]
def t_is_pair (K : PySem.W.Frag) : TS := (tRet (tAndV (tCB (rIsi K) (tCons (tVar 0) (tCons (tC (.ty "tuple")) tNil))) (tOp rEq (tCB (fLen K) (tCons (tVar 0) tNil)) (tC (.int 2)))))
abbrev N_is_row : List Str := ["thing"]
def t_is_row (K : PySem.W.Frag) : TS := (tRet (tAndV (tCall (sp_is_text K) [] E0 (tCons (tVar 0) tNil)) (tOp rLeI (tCB (fLen K) (tCons (tVar 0) tNil)) (tC (.int 40)))))
theorem blT {p : Prop} [Decidable p] {Q : VK} {H : Hp} (h : p) (q : Q (.bl true) H) : Q (.bl (decide p)) H := by rw [decide_eq_true h]; exact q
theorem rep_get {n i : Nat} {y : V} {x : V} (h : (List.replicate n x)[i]? = some y) : y = x := by
  obtain ⟨_, e⟩ := List.getElem?_eq_some_iff.mp h
  rw [← e, List.getElem_replicate]
theorem all_rep (n : Nat) : (List.replicate n true).all id = true := by
  rw [List.all_eq_true]
  intro x hx
  rw [List.eq_of_mem_replicate hx]
  rfl
theorem yStr {z : Str} : ∀ (i : Nat) (H : Hp) (x : V) (H' : Hp), (H' = H ∧ ∃ c, z.cps[i]? = some c ∧ x = .str ⟨#[c]⟩) → H' = H := fun _ _ _ _ h => h.1
theorem yAt {xs : List V} : ∀ (i : Nat) (H : Hp) (x : V) (H' : Hp), YAt xs i H x H' → H' = H := fun _ _ _ _ h => h.1
theorem yFn {f : Nat → V} : ∀ (i : Nat) (H : Hp) (x : V) (H' : Hp), YFn f i H x H' → H' = H := fun _ _ _ _ h => h.1
theorem blank_le {c : Nat} (h : 32 ≤ c) : (!decide ((⟨#[c]⟩ : Str).cps.toList < (" " : Str).cps.toList)) = true := by
  have e : (" " : Str).cps.toList = [32] := by decide +kernel
  rw [e]
  show (!decide ([c] < [32])) = true
  rw [decide_eq_false]
  · rfl
  · intro h2
    rcases List.cons_lt_cons_iff.mp h2 with h3 | h3
    · omega
    · exact absurd h3.2 (by decide)
theorem le_tilde {c : Nat} (h : c ≤ 126) : (!decide (("~" : Str).cps.toList < (⟨#[c]⟩ : Str).cps.toList)) = true := by
  have e : ("~" : Str).cps.toList = [126] := by decide +kernel
  rw [e]
  show (!decide ([126] < [c])) = true
  rw [decide_eq_false]
  · rfl
  · intro h2
    rcases List.cons_lt_cons_iff.mp h2 with h3 | h3
    · omega
    · exact absurd h3.2 (by decide)
section
variable {K : PySem.W.Frag} {vs : List V} {H : Hp} {Q : VK} {E : XK}
theorem pure_is_intI (h : sp_is_intI K vs H Q E) : t_is_int K { nx := fun _ H' => Q .non H', rt := Q } (start N_is_int vs) H := by
  obtain ⟨i, rfl, k⟩ := h
  exact ⟨_, rfl, isi (.base (.int i)) k_ii ⟨_, rfl, iteT ⟨_, rfl, isi (.base (.int i)) k_ib ⟨_, rfl, k⟩⟩⟩⟩
theorem pure_is_pairT (h : sp_is_pairT K vs H Q E) : t_is_pair K { nx := fun _ H' => Q .non H', rt := Q } (start N_is_pair vs) H := by
  obtain ⟨a, x, y, rfl, ha, k⟩ := h
  exact ⟨_, rfl, isi (.base (.tup ha)) k_tt ⟨_, rfl, iteT ⟨_, rfl, lenT ha ⟨rfl, k⟩⟩⟩⟩
theorem pure_is_sign (h : sp_is_sign K vs H Q E) : t_is_sign K { nx := fun _ H' => Q .non H', rt := Q } (start N_is_sign vs) H := by
  obtain ⟨c, rfl, ⟨h1, h2, h3⟩, k⟩ := h
  refine ⟨_, rfl, _, _, rfl, rfl, _, rfl, ?_⟩
  rw [blank_le h1]
  refine iteT ⟨_, _, rfl, rfl, _, rfl, ?_⟩
  rw [le_tilde h2]
  refine iteT ⟨_, rfl, _, rfl, rfl, rfl, ?_⟩
  have e : decide (V.int (((⟨#[c]⟩ : Str).cps.getD 0 0 : Nat) : Int) = V.int 37) = false := decide_eq_false (by
    intro h
    injection h with h
    have h : (c : Int) = 37 := h
    omega)
  rw [e]
  exact k
theorem pure_is_text (h : sp_is_text K vs H Q E) : t_is_text K { nx := fun _ H' => Q .non H', rt := Q } (start N_is_text vs) H := by
  obtain ⟨z, rfl, ⟨h1, h2⟩, k⟩ := h
  refine ⟨_, rfl, isi (.base (.str z)) k_ss ⟨_, rfl, iteT ⟨_, rfl, z, rfl, fun L nL => ?_⟩⟩⟩
  refine lc_grow walk_str yStr (ys := List.replicate z.cps.size (.bl true)) nL List.length_replicate (by omega) (fun _ _ => True.intro) ?_ ?_
  · rintro i x y H' R hi ⟨_, c, hc, rfl⟩ hy s r
    refine ⟨rfl, ⟨_, rfl, c, rfl, ?_, ?_⟩⟩
    · exact h2 c (by obtain ⟨q1, q2⟩ := Array.getElem?_eq_some_iff.mp hc; rw [← q2]; exact Array.getElem_mem_toList q1)
    · rw [← rep_get hy]
      exact r _ (Same.refl _)
  · intro H' s hL
    refine ⟨L, List.replicate z.cps.size true, rfl, sqL (by rw [hL, List.map_replicate]), ?_⟩
    rw [all_rep]
    exact k _ s
theorem pure_is_row (h : sp_is_row K vs H Q E) : t_is_row K { nx := fun _ H' => Q .non H', rt := Q } (start N_is_row vs) H := by
  obtain ⟨z, rfl, o, k⟩ := h
  refine ⟨_, rfl, z, rfl, o, fun H' s => ⟨_, rfl, iteT ⟨_, rfl, lenS (Nat.le_trans o.1 (by decide)) ⟨_, _, rfl, rfl, ?_⟩⟩⟩⟩
  exact blT (Q := Q) (show ((z.length : Nat) : Int) ≤ 40 by have := o.1; show ((z.cps.size : Nat) : Int) ≤ 40; omega) (k _ s)
end
end Fw
set_option Elab.async false
set_option linter.all false
set_option maxRecDepth 100000
set_option maxHeartbeats 4000000
namespace Fw
open PySem L2 RZ RT
def StAt (H : Hp) (S : Addr) (st : List Str) : Prop := H S = some (.lst (st.map V.str)) ∧ 0 < st.length ∧ st.length ≤ 5 ∧ ∀ z ∈ st, OkS z
theorem StAt.kp {D : Addr} {H H' : Hp} {S : Addr} {st : List Str} (h : StAt H S st) (k : Kp D H H') (n : S ≠ D) : StAt H' S st := ⟨k _ _ h.1 n, h.2⟩
theorem StAt.same {H H' : Hp} {S : Addr} {st : List Str} (h : StAt H S st) (k : Same H H') : StAt H' S st := ⟨k _ _ h.1, h.2⟩
theorem Dk.same {c D : Addr} {ns : List Int} {t : Nat} {H H' : Hp} (d : Dk c D ns t H) (s : Same H H') : Dk c D ns t H' := by
  obtain ⟨a, b, e, i, n, u, h, r⟩ := d
  exact ⟨a, s _ _ b, e, i, n, u, s _ _ h, r⟩
theorem join_chars (ys : List Nat) : Txt.join ("" : Str) ((ys.map fun c => (⟨#[c]⟩ : Str))) = ⟨ys.toArray⟩ := by
  have e : ("" : Str) = ⟨#[]⟩ := by decide +kernel
  rw [e]
  unfold Txt.join
  have h := PyProof.Rows.join_nil_signs ⟨ys.toArray⟩
  rw [← StrLaws.glued_eq_join] at h
  exact h
theorem sum_ones : ∀ ys : List Nat, ((ys.map fun c => (⟨#[c]⟩ : Str)).map (·.length)).sum = ys.length
  | [] => rfl
  | y :: ys => by
    rw [List.map_cons, List.map_cons, List.sum_cons, sum_ones ys, List.length_cons]
    show 1 + ys.length = _
    omega
section
variable {K : PySem.W.Frag} {vs : List V} {H : Hp} {Q : VK} {E : XK}
/-- the state of the maker of scripts -/
structure SS (H0 : Hp) (c D L B S : Addr) (ns : List Int) (t : Nat) (bs st : List Str) (as : List Addr) (ps : List Pc) (H : Hp) : Prop where
  dk : Dk c D ns t H
  keep : Kp D H0 H
  hl : H L = some (.lst (as.map V.ref))
  pr : PsAt H as ps
  ok : ∀ p ∈ ps, p.ok
  fit : ∀ p ∈ ps, p.fits bs.length
  sub : ∀ p ∈ ps, ∀ rs, p = .put rs → ∀ z ∈ rs, z ∈ st
  nL : H0 L = none
  d0 : ∃ t0, Dk c D ns t0 H0
  hB : RwAt H0 B bs
  sa : StAt H0 S st
  nS : S ≠ D
section
variable {H0 H H' : Hp} {c D L B S q : Addr} {ns : List Int} {t t' : Nat} {bs st : List Str} {as : List Addr} {ps : List Pc} {o : HO}
theorem SS.nLD (s : SS H0 c D L B S ns t bs st as ps H) : L ≠ D := s.d0.choose_spec.neD s.nL
theorem SS.nLC (s : SS H0 c D L B S ns t bs st as ps H) : L ≠ c := s.d0.choose_spec.neC s.nL
theorem SS.add (s : SS H0 c D L B S ns t bs st as ps H) {T : Addr} {p : Pc} (hT : PcAt H T p) (ok : p.ok) (fit : p.fits bs.length) (sub : ∀ rs, p = .put rs → ∀ z ∈ rs, z ∈ st) : SS H0 c D L B S ns t bs st (as ++ [T]) (ps ++ [p]) (upd H L (.lst (as.map V.ref ++ [.ref T]))) := by
  have tm : TM H (upd H L (.lst (as.map V.ref ++ [.ref T]))) := fun a xs h => updN (ne_of h s.hl (by intro z; cases z)) h
  refine ⟨s.dk.upd s.nLC s.nLD, fun b u e n => updN (ne_of_none e s.nL) (s.keep b u e n), by rw [updS, List.map_append]; rfl, (s.pr.snoc hT).mono tm, fun q hq => ?_, fun q hq => ?_, fun q hq => ?_, s.nL, s.d0, s.hB, s.sa, s.nS⟩
  · rcases List.mem_append.mp hq with h | h
    · exact s.ok q h
    · cases List.mem_singleton.mp h
      exact ok
  · rcases List.mem_append.mp hq with h | h
    · exact s.fit q h
    · cases List.mem_singleton.mp h
      exact fit
  · rcases List.mem_append.mp hq with h | h
    · exact s.sub q h
    · cases List.mem_singleton.mp h
      exact sub
end
theorem min2_eq {i j : Int} : (if j < i then j else i) ≤ i ∧ (if j < i then j else i) ≤ j := by
  by_cases h : j < i
  · rw [if_pos h]; omega
  · rw [if_neg h]; omega
end
end Fw
set_option Elab.async false
set_option linter.all false
set_option maxRecDepth 100000
set_option maxHeartbeats 4000000
namespace Fw
open PySem L2 RZ RT
inductive Ct where
  | leaf (rows : List Str)
  | tree (es : List (Str × Int))
  | ver (ps : List Int) (root stamp : Int)
deriving DecidableEq
namespace Ct
def word : Ct → Str
  | .leaf _ => "leaf"
  | .tree _ => "tree"
  | .ver _ _ _ => "version"
def key : Ct → NestedKey
  | .leaf rows => .tup [.text "leaf", .tup (rows.map NestedKey.text)]
  | .tree es => .tup [.text "tree", .tup (es.map fun e => .tup [.text e.1, .num e.2])]
  | .ver ps r s => .tup [.text "version", .tup (ps.map NestedKey.num), .num r, .num s]
def parts : Ct → List Int
  | .leaf _ => []
  | .tree es => es.map (·.2)
  | .ver ps r _ => ps ++ [r]
end Ct
def OkLab (z : Str) : Prop := 1 ≤ z.cps.size ∧ z.cps.size ≤ 8 ∧ ∀ c ∈ z.cps.toList, 97 ≤ c ∧ c ≤ 122
def ltS (a b : Str) : Prop := a.cps.toList < b.cps.toList
def Ct.form : Ct → Prop
  | .leaf rows => rows.length ≤ 40 ∧ ∀ z ∈ rows, OkS z
  | .tree es => es.length ≤ 20 ∧ (∀ e ∈ es, OkLab e.1) ∧ es.Pairwise fun a b => ltS a.1 b.1
  | .ver ps _ s => ps.length ≤ 4 ∧ ps.Pairwise (· < ·) ∧ 0 ≤ s ∧ s ≤ 1000000000000000000
theorem wv_lt : ("leaf" : Str) ≠ "tree" := by decide +kernel
theorem wv_lv : ("leaf" : Str) ≠ "version" := by decide +kernel
theorem wv_tv : ("tree" : Str) ≠ "version" := by decide +kernel
theorem map_inj {α β : Type} {f : α → β} (h : ∀ a b, f a = f b → a = b) : ∀ {l m : List α}, l.map f = m.map f → l = m
  | [], [], _ => rfl
  | a :: l, b :: m, e => by
    rw [List.map_cons, List.map_cons] at e
    injection e with e1 e2
    rw [h a b e1, map_inj h e2]
theorem Ct.key_inj {c d : Ct} (h : c.key = d.key) : c = d := by
  cases c <;> cases d <;> (unfold Ct.key at h; injection h with h)
  · injection h with _ h
    injection h with h _
    injection h with h
    rw [map_inj (fun a b e => by injection e) h]
  · injection h with h _
    injection h with h
    exact absurd h wv_lt
  · injection h with h _
    injection h with h
    exact absurd h wv_lv
  · injection h with h _
    injection h with h
    exact absurd h wv_lt.symm
  · injection h with _ h
    injection h with h _
    injection h with h
    rw [map_inj (fun a b e => by
      injection e with e
      injection e with e1 e
      injection e1 with e1
      injection e with e2 _
      injection e2 with e2
      exact Prod.ext e1 e2) h]
  · injection h with h _
    injection h with h
    exact absurd h wv_tv
  · injection h with h _
    injection h with h
    exact absurd h wv_lv.symm
  · injection h with h _
    injection h with h
    exact absurd h wv_tv.symm
  · injection h with _ h
    injection h with h1 h
    injection h1 with h1
    injection h with h2 h
    injection h2 with h2
    injection h with h3 _
    injection h3 with h3
    rw [map_inj (fun a b e => by injection e) h1, h2, h3]
/-- the greatest, nought if there is none -/
def dmax : List Int → Int
  | [] => 0
  | x :: xs => xs.foldl max x
def depOf (ds : List Int) : Ct → Int
  | .tree es => 1 + dmax (es.map fun e => ds.getD e.2.toNat 0)
  | _ => 0
def deps (cs : List Ct) : List Int := cs.foldl (fun ds c => ds ++ [depOf ds c]) []
theorem deps_snoc (cs : List Ct) (c : Ct) : deps (cs ++ [c]) = deps cs ++ [depOf (deps cs) c] := by
  unfold deps
  rw [List.foldl_append]
  rfl
theorem deps_len : ∀ (cs : List Ct), (deps cs).length = cs.length := by
  have : ∀ (cs : List Ct) (ds : List Int), (cs.foldl (fun ds c => ds ++ [depOf ds c]) ds).length = ds.length + cs.length := by
    intro cs
    induction cs with
    | nil => intro ds; rfl
    | cons c cs ih =>
      intro ds
      rw [List.foldl_cons, ih, List.length_append, List.length_singleton, List.length_cons]
      omega
  intro cs
  have h := this cs []
  rw [List.length_nil, Nat.zero_add] at h
  exact h
/-- a name of the book, of one of these kinds -/
def hasK (cs : List Ct) (ks : List Str) (i : Int) : Bool := decide (0 ≤ i) && (decide (i < cs.length) && ks.contains ((cs.getD i.toNat (.leaf [])).word))
def Ct.inB (cs : List Ct) : Ct → Bool
  | .leaf _ => true
  | .tree es => es.all (fun e => hasK cs ["leaf", "tree"] e.2) && decide (depOf (deps cs) (.tree es) ≤ 8)
  | .ver ps r _ => ps.all (hasK cs ["version"]) && hasK cs ["tree"] r
theorem hasK_mono {cs more : List Ct} {ks : List Str} {i : Int} (h : hasK cs ks i = true) : hasK (cs ++ more) ks i = true := by
  unfold hasK at *
  simp only [Bool.and_eq_true, decide_eq_true_eq] at *
  obtain ⟨h1, h2, h3⟩ := h
  refine ⟨h1, by rw [List.length_append]; omega, ?_⟩
  rw [List.getD_eq_getElem?_getD, List.getElem?_append_left (by omega), ← List.getD_eq_getElem?_getD]
  exact h3
theorem hasK_lt {cs : List Ct} {ks : List Str} {i : Int} (h : hasK cs ks i = true) : 0 ≤ i ∧ i.toNat < cs.length := by
  unfold hasK at h
  simp only [Bool.and_eq_true, decide_eq_true_eq] at h
  omega
theorem deps_pre : ∀ {more cs : List Ct}, ∃ r, deps (cs ++ more) = deps cs ++ r
  | [], cs => ⟨[], by simp⟩
  | c :: more, cs => by
    obtain ⟨r, hr⟩ := deps_pre (more := more) (cs := cs ++ [c])
    rw [List.append_assoc] at hr
    exact ⟨depOf (deps cs) c :: r, by rw [show cs ++ c :: more = cs ++ ([c] ++ more) from rfl, hr, deps_snoc]; simp⟩
theorem depOf_mono {cs more : List Ct} {es : List (Str × Int)} (h : es.all (fun e => hasK cs ["leaf", "tree"] e.2) = true) : depOf (deps (cs ++ more)) (.tree es) = depOf (deps cs) (.tree es) := by
  obtain ⟨r, hr⟩ := deps_pre (cs := cs) (more := more)
  show 1 + dmax (es.map fun e => (deps (cs ++ more)).getD e.2.toNat 0) = 1 + dmax (es.map fun e => (deps cs).getD e.2.toNat 0)
  rw [hr]
  congr 2
  refine List.map_congr_left fun e he => ?_
  have hl := hasK_lt (List.all_eq_true.mp h e he)
  rw [List.getD_eq_getElem?_getD, List.getD_eq_getElem?_getD, List.getElem?_append_left (by rw [deps_len]; omega)]
theorem Ct.inB_mono {cs more : List Ct} {c : Ct} (h : c.inB cs = true) : c.inB (cs ++ more) = true := by
  cases c with
  | leaf rows => rfl
  | tree es =>
    unfold Ct.inB at *
    rw [Bool.and_eq_true] at *
    refine ⟨List.all_eq_true.mpr fun e he => hasK_mono (List.all_eq_true.mp h.1 e he), ?_⟩
    rw [depOf_mono h.1]
    exact h.2
  | ver ps r s =>
    unfold Ct.inB at *
    rw [Bool.and_eq_true] at *
    exact ⟨List.all_eq_true.mpr fun e he => hasK_mono (List.all_eq_true.mp h.1 e he), hasK_mono h.2⟩
def CtAt (H : Hp) (a : Addr) : Ct → Prop
  | .leaf rows => ∃ r, H a = some (.tup [.str "leaf", .ref r]) ∧ H r = some (.tup (rows.map V.str))
  | .tree es => ∃ (r : Addr) (as : List Addr), H a = some (.tup [.str "tree", .ref r]) ∧ H r = some (.tup (as.map V.ref)) ∧ as.length = es.length ∧ ∀ (i : Nat) (b : Addr) (e : Str × Int), as[i]? = some b → es[i]? = some e → H b = some (.tup [.str e.1, .int e.2])
  | .ver ps root stamp => ∃ r, H a = some (.tup [.str "version", .ref r, .int root, .int stamp]) ∧ H r = some (.tup (ps.map V.int))
theorem CtAt.mono {H H' : Hp} {a : Addr} {c : Ct} (h : CtAt H a c) (m : TM H H') : CtAt H' a c := by
  cases c with
  | leaf rows =>
    obtain ⟨r, h1, h2⟩ := h
    exact ⟨r, m _ _ h1, m _ _ h2⟩
  | tree es =>
    obtain ⟨r, as, h1, h2, h3, h4⟩ := h
    exact ⟨r, as, m _ _ h1, m _ _ h2, h3, fun i b e x y => m _ _ (h4 i b e x y)⟩
  | ver ps r s =>
    obtain ⟨r, h1, h2⟩ := h
    exact ⟨r, m _ _ h1, m _ _ h2⟩
theorem nkeys_strs {H : Hp} : ∀ rows : List Str, NKeys H (rows.map NestedKey.text) (rows.map V.str)
  | [] => .nil
  | z :: rows => .cons (.str z) (nkeys_strs rows)
theorem nkeys_ints {H : Hp} : ∀ ns : List Int, NKeys H (ns.map NestedKey.num) (ns.map V.int)
  | [] => .nil
  | z :: ns => .cons (.int z) (nkeys_ints ns)
theorem nkeys_ents {H : Hp} : ∀ (as : List Addr) (es : List (Str × Int)), as.length = es.length → (∀ (i : Nat) (b : Addr) (e : Str × Int), as[i]? = some b → es[i]? = some e → H b = some (.tup [.str e.1, .int e.2])) →
    NKeys H (es.map fun e => NestedKey.tup [.text e.1, .num e.2]) (as.map V.ref)
  | [], [], _, _ => .nil
  | [], _ :: _, h, _ => by simp at h
  | _ :: _, [], h, _ => by simp at h
  | a :: as, e :: es, h, f => .cons (.tup (f 0 a e rfl rfl) (.cons (.str _) (.cons (.int _) .nil))) (nkeys_ents as es (by simpa using h) fun i b e' h1 h2 => f (i + 1) b e' (by simpa using h1) (by simpa using h2))
theorem CtAt.nkey {H : Hp} {a : Addr} {c : Ct} (h : CtAt H a c) : NKey H c.key (.ref a) := by
  cases c with
  | leaf rows =>
    obtain ⟨r, h1, h2⟩ := h
    exact .tup h1 (.cons (.str _) (.cons (.tup h2 (nkeys_strs rows)) .nil))
  | tree es =>
    obtain ⟨r, as, h1, h2, h3, h4⟩ := h
    exact .tup h1 (.cons (.str _) (.cons (.tup h2 (nkeys_ents as es h3 h4)) .nil))
  | ver ps r s =>
    obtain ⟨r, h1, h2⟩ := h
    exact .tup h1 (.cons (.str _) (.cons (.tup h2 (nkeys_ints ps)) (.cons (.int _) (.cons (.int _) .nil))))
theorem depthAll_flat {f : α → NestedKey} (h : ∀ a, (f a).depth ≤ 1) : ∀ l : List α, NestedKey.depthAll (l.map f) ≤ 1
  | [] => Nat.zero_le _
  | a :: l => by
    have h1 := h a
    have h2 := depthAll_flat h l
    rw [List.map_cons, NestedKey.depthAll]
    omega
theorem Ct.depth (c : Ct) : c.key.depth ≤ 8 := by
  have t : ∀ z : Str, (NestedKey.text z).depth ≤ 1 := fun z => by simp [NestedKey.depth]
  have n : ∀ z : Int, (NestedKey.num z).depth ≤ 1 := fun z => by simp [NestedKey.depth]
  cases c with
  | leaf rows =>
    have := depthAll_flat t rows
    simp only [Ct.key, NestedKey.depth, NestedKey.depthAll]
    omega
  | tree es =>
    have := depthAll_flat (f := fun e : Str × Int => NestedKey.tup [.text e.1, .num e.2]) (fun e => by simp [NestedKey.depth, NestedKey.depthAll]) es
    simp only [Ct.key, NestedKey.depth, NestedKey.depthAll]
    omega
  | ver ps r s =>
    have := depthAll_flat n ps
    simp only [Ct.key, NestedKey.depth, NestedKey.depthAll]
    omega
/-- the contents at these addresses -/
def CsAt (H : Hp) (as : List Addr) (cs : List Ct) : Prop := as.length = cs.length ∧ ∀ (i : Nat) (a : Addr) (c : Ct), as[i]? = some a → cs[i]? = some c → CtAt H a c
theorem CsAt.mono {H H' : Hp} {as : List Addr} {cs : List Ct} (h : CsAt H as cs) (m : TM H H') : CsAt H' as cs := ⟨h.1, fun i a c h1 h2 => (h.2 i a c h1 h2).mono m⟩
theorem CsAt.nil {H : Hp} : CsAt H [] [] := ⟨rfl, fun i a p h => by cases h⟩
theorem CsAt.snoc {H : Hp} {as : List Addr} {cs : List Ct} {T : Addr} {c : Ct} (h : CsAt H as cs) (hT : CtAt H T c) : CsAt H (as ++ [T]) (cs ++ [c]) := by
  refine ⟨by rw [List.length_append, List.length_append, h.1]; rfl, fun i a m h1 h2 => ?_⟩
  by_cases hi : i < as.length
  · rw [List.getElem?_append_left hi] at h1
    rw [List.getElem?_append_left (by rw [← h.1]; exact hi)] at h2
    exact h.2 i a m h1 h2
  · have hi2 : i < (as ++ [T]).length := (List.getElem?_eq_some_iff.mp h1).1
    rw [List.length_append, List.length_singleton] at hi2
    have e : i = as.length := by omega
    rw [List.getElem?_append_right (by omega), e, Nat.sub_self] at h1
    rw [List.getElem?_append_right (by rw [← h.1]; omega), e, h.1, Nat.sub_self] at h2
    cases Option.some.inj h1
    cases Option.some.inj h2
    exact hT
theorem CsAt.get {H : Hp} {as : List Addr} {cs : List Ct} (h : CsAt H as cs) {i : Nat} {c : Ct} (hc : cs[i]? = some c) : ∃ a, as[i]? = some a ∧ CtAt H a c := by
  have hi := (List.getElem?_eq_some_iff.mp hc).1
  have : i < as.length := by rw [h.1]; exact hi
  exact ⟨as[i], List.getElem?_eq_getElem this, h.2 i _ _ (List.getElem?_eq_getElem this) hc⟩
/-- a book's entries -/
def ents : Nat → List Ct → List Addr → List NEnt
  | n, c :: cs, a :: as => (c.key, a, .int (n : Int)) :: ents (n + 1) cs as
  | _, _, _ => []
theorem ents_snoc : ∀ (n : Nat) (cs : List Ct) (as : List Addr) (c : Ct) (a : Addr), as.length = cs.length → ents n (cs ++ [c]) (as ++ [a]) = ents n cs as ++ [(c.key, a, .int ((n + cs.length : Nat) : Int))]
  | n, [], [], c, a, _ => rfl
  | n, [], _ :: _, _, _, h => by simp at h
  | n, _ :: _, [], _, _, h => by simp at h
  | n, d :: cs, b :: as, c, a, h => by
    have := ents_snoc (n + 1) cs as c a (by simpa using h)
    rw [List.cons_append, List.cons_append, ents, this, ents, List.cons_append, List.length_cons]
    rw [show n + 1 + cs.length = n + (cs.length + 1) from by omega]
theorem ents_len : ∀ (n : Nat) (cs : List Ct) (as : List Addr), (ents n cs as).length ≤ cs.length
  | _, [], _ => Nat.zero_le _
  | _, _ :: _, [] => Nat.zero_le _
  | n, _ :: cs, _ :: as => by
    have := ents_len (n + 1) cs as
    rw [ents, List.length_cons, List.length_cons]
    omega
theorem nAt_pos {p : NEnt} {r : List NEnt} {k : NestedKey} (e : p.1 = k) : nAt (p :: r) k = some p.2.2 := by simp [nAt, List.find?_cons, e]
theorem nAt_neg {p : NEnt} {r : List NEnt} {k : NestedKey} (e : ¬ p.1 = k) : nAt (p :: r) k = nAt r k := by simp [nAt, List.find?_cons, e]
theorem ents_none : ∀ (n : Nat) (cs : List Ct) (as : List Addr) {c : Ct}, c ∉ cs → nAt (ents n cs as) c.key = none
  | _, [], _, _, _ => rfl
  | _, _ :: _, [], _, _ => rfl
  | n, d :: cs, a :: as, c, h => by
    rw [ents, nAt_neg fun e => h (by rw [Ct.key_inj e]; exact List.mem_cons_self ..)]
    exact ents_none (n + 1) cs as fun z => h (List.mem_cons_of_mem _ z)
theorem ents_some : ∀ (n : Nat) (cs : List Ct) (as : List Addr) {i : Nat} {c : Ct}, as.length = cs.length → cs.Nodup → cs[i]? = some c → nAt (ents n cs as) c.key = some (.int ((n + i : Nat) : Int))
  | _, [], _, _, _, _, _, h => by simp at h
  | _, _ :: _, [], _, _, h, _, _ => by simp at h
  | n, d :: cs, a :: as, i, c, hl, nd, h => by
    rw [List.nodup_cons] at nd
    cases i with
    | zero =>
      simp at h
      subst h
      rw [ents, nAt_pos rfl]
      rfl
    | succ i =>
      simp at h
      rw [ents, nAt_neg fun e => nd.1 (by rw [Ct.key_inj e]; exact List.mem_of_getElem? h), ents_some (n + 1) cs as (by simpa using hl) nd.2 h, show n + 1 + i = n + (i + 1) from by omega]
theorem ents_keys {H : Hp} : ∀ (n : Nat) (cs : List Ct) (as : List Addr), CsAt H as cs → NKs H (ents n cs as)
  | _, [], _, _ => fun x hx => nomatch hx
  | _, _ :: _, [], _ => fun x hx => nomatch hx
  | n, c :: cs, a :: as, h => fun x hx => by
    rw [ents] at hx
    rcases List.mem_cons.mp hx with rfl | hx
    · exact ⟨(h.2 0 a c rfl rfl).nkey, c.depth⟩
    · exact ents_keys (n + 1) cs as ⟨by simpa using h.1, fun i b d h1 h2 => h.2 (i + 1) b d (by simpa using h1) (by simpa using h2)⟩ x hx
/-- what the class Book must have -/
structure BkC (K : PySem.W.Frag) : Prop where
  cl : Cls K (He.ga K "Book")
  n1 : NoAttr K (He.ga K "Book") "contents"
  n2 : NoAttr K (He.ga K "Book") "depths"
  n3 : NoAttr K (He.ga K "Book") "given"
structure BkA where
  B : Addr
  L : Addr
  E : Addr
  G : Addr
/-- the book's object -/
def BO (K : PySem.W.Frag) (H : Hp) (b : BkA) : Prop := ∃ (dx : Addr) (fs : List (Str × V)), H b.B = some (.ins (He.ga K "Book") dx fs) ∧ fs.lookup ("contents" : Str) = some (.ref b.L) ∧ fs.lookup ("depths" : Str) = some (.ref b.E) ∧ fs.lookup ("given" : Str) = some (.ref b.G) ∧
  ∀ m ∈ (["named", "name_of", "thing", "kind", "parts", "parents", "root", "stamp", "entries", "leaf_rows", "is_name", "is_version", "is_content", "has_kinds", "depth", "give_next"] : List Str), fs.lookup m = none
structure BkAt [HasW] (K : PySem.W.Frag) (H : Hp) (b : BkA) (cs : List Ct) (as : List Addr) : Prop where
  bc : BkC K
  bo : BO K H b
  hL : H b.L = some (.lst (as.map V.ref))
  hE : H b.E = some (.lst ((deps cs).map V.int))
  hG : H b.G = some (ND b.G (ents 0 cs as))
  at_ : CsAt H as cs
  nd : cs.Nodup
  few : cs.length ≤ 400
  ok : ∀ c ∈ cs, c.form ∧ c.inB cs = true
  ne : b.L ≠ b.E
/-- all but the book's three stands -/
def Kb (b : BkA) (H H' : Hp) : Prop := ∀ a o, H a = some o → a ≠ b.L → a ≠ b.E → a ≠ b.G → H' a = some o
theorem Kb.refl {b : BkA} {H : Hp} : Kb b H H := fun _ _ h _ _ _ => h
theorem Kb.trans {b : BkA} {H H1 H2 : Hp} (x : Kb b H H1) (y : Kb b H1 H2) : Kb b H H2 := fun a o h h1 h2 h3 => y a o (x a o h h1 h2 h3) h1 h2 h3
theorem Kb.same {b : BkA} {H H' : Hp} (s : Same H H') : Kb b H H' := fun a o h _ _ _ => s a o h
theorem Kb.up {b : BkA} {H H' : Hp} {q : Addr} {o : HO} (k : Kb b H H') (h : q = b.L ∨ q = b.E ∨ q = b.G) : Kb b H (upd H' q o) := fun a u e h1 h2 h3 => updN (by rcases h with rfl | rfl | rfl; exact h1; exact h2; exact h3) (k a u e h1 h2 h3)
section
variable [HasW] {K : PySem.W.Frag} {H H' : Hp} {b : BkA} {cs : List Ct} {as : List Addr}
theorem nd_ne_lst {a : Addr} {xs : List NEnt} {ys : List V} : ND a xs ≠ .lst ys := fun h => by unfold ND at h; cases h
theorem nd_ne_tup {a : Addr} {xs : List NEnt} {ys : List V} : ND a xs ≠ .tup ys := fun h => by unfold ND at h; cases h
theorem nd_ne_ins {a : Addr} {xs : List NEnt} {C d : Addr} {fs : List (Str × V)} : ND a xs ≠ .ins C d fs := fun h => by unfold ND at h; cases h
theorem BkAt.neG (k : BkAt K H b cs as) : b.L ≠ b.G ∧ b.E ≠ b.G := ⟨ne_of k.hL k.hG fun h => nd_ne_lst h.symm, ne_of k.hE k.hG fun h => nd_ne_lst h.symm⟩
theorem BkAt.tup (k : BkAt K H b cs as) (x : Kb b H H') : TM H H' := fun a xs h => x a _ h (ne_of h k.hL fun z => by cases z) (ne_of h k.hE fun z => by cases z) (ne_of h k.hG fun z => nd_ne_tup z.symm)
theorem BkAt.boK (k : BkAt K H b cs as) (x : Kb b H H') : BO K H' b := by
  obtain ⟨dx, fs, h, r⟩ := k.bo
  exact ⟨dx, fs, x _ _ h (ne_of h k.hL fun z => by cases z) (ne_of h k.hE fun z => by cases z) (ne_of h k.hG fun z => nd_ne_ins z.symm), r⟩
theorem BkAt.keep (k : BkAt K H b cs as) (x : Kb b H H') (eL : H' b.L = H b.L) (eE : H' b.E = H b.E) (eG : H' b.G = H b.G) : BkAt K H' b cs as :=
  ⟨k.bc, k.boK x, by rw [eL]; exact k.hL, by rw [eE]; exact k.hE, by rw [eG]; exact k.hG, k.at_.mono (k.tup x), k.nd, k.few, k.ok, k.ne⟩
theorem BkAt.same (k : BkAt K H b cs as) (s : Same H H') : BkAt K H' b cs as := k.keep (.same s) (by rw [k.hL, s _ _ k.hL]) (by rw [k.hE, s _ _ k.hE]) (by rw [k.hG, s _ _ k.hG])
/-- what changes elsewhere -/
theorem BkAt.kp {D : Addr} (k : BkAt K H b cs as) (x : Kp D H H') (h1 : D ≠ b.B) (h2 : D ≠ b.L) (h3 : D ≠ b.E) (h4 : D ≠ b.G) (ht : TM H H') : BkAt K H' b cs as := by
  obtain ⟨dx, fs, hB, r⟩ := k.bo
  exact ⟨k.bc, ⟨dx, fs, x _ _ hB h1.symm, r⟩, x _ _ k.hL h2.symm, x _ _ k.hE h3.symm, x _ _ k.hG h4.symm, k.at_.mono ht, k.nd, k.few, k.ok, k.ne⟩
variable {Q : VK} {σ : L2.St} {i : Nat}
theorem BkAt.fL (k : BkAt K H b cs as) (e : σ[i]? = some (some (.ref b.B))) (q : Q (.ref b.L) H) : tFld K (tVar i) "contents" σ H Q := by
  obtain ⟨dx, fs, hx, h1, h2, h3, h4⟩ := k.bo
  exact ⟨_, e, b.B, _, dx, fs, _, rfl, hx, k.bc.cl, k.bc.n1, h1, q⟩
theorem BkAt.fE (k : BkAt K H b cs as) (e : σ[i]? = some (some (.ref b.B))) (q : Q (.ref b.E) H) : tFld K (tVar i) "depths" σ H Q := by
  obtain ⟨dx, fs, hx, h1, h2, h3, h4⟩ := k.bo
  exact ⟨_, e, b.B, _, dx, fs, _, rfl, hx, k.bc.cl, k.bc.n2, h2, q⟩
theorem BkAt.fG (k : BkAt K H b cs as) (e : σ[i]? = some (some (.ref b.B))) (q : Q (.ref b.G) H) : tFld K (tVar i) "given" σ H Q := by
  obtain ⟨dx, fs, hx, h1, h2, h3, h4⟩ := k.bo
  exact ⟨_, e, b.B, _, dx, fs, _, rfl, hx, k.bc.cl, k.bc.n3, h3, q⟩
/-- a method called on the book -/
theorem BkAt.me {m : Str} {sp : Sp} {E : XK} {ta : TA} (k : BkAt K H b cs as) (hm : m ∈ (["named", "name_of", "thing", "kind", "parts", "parents", "root", "stamp", "entries", "leaf_rows", "is_name", "is_version", "is_content", "has_kinds", "depth", "give_next"] : List Str)) (e : σ[i]? = some (some (.ref b.B))) (q : ta σ H fun vs H2 => sp (.ref b.B :: (vs ++ [])) H2 Q E) : tMeth (He.ga K "Book") m sp [] E (tVar i) ta σ H Q := by
  obtain ⟨dx, fs, hx, h1, h2, h3, h4⟩ := k.bo
  exact ⟨_, e, b.B, dx, fs, rfl, hx, h4 m hm, q⟩
end
end Fw
set_option Elab.async false
set_option linter.all false
set_option maxRecDepth 100000
set_option maxHeartbeats 4000000
namespace Fw
open PySem PySem.Spec PyProof.Rows L2 PySem.W.Datum PySem.W
/-- a walk over a list or a tuple -/
def iOr (w1 w2 : TI) : TI := fun σ H R => w1 σ H R ∨ w2 σ H R
theorem pi_or {X : Cx} {tg e : Expr} {w1 w2 : TI} (h1 : PI X tg e w1) (h2 : PI X tg e w2) : PI X tg e (iOr w1 w2) := ⟨fun pins s σ H R I h => h.elim (h1.run pins s σ H R I) (h2.run pins s σ H R I)⟩
/-- max(l, default=d) of ints -/
def maxD (d : Int) : List Int → Int
  | [] => d
  | x :: xs => xs.foldl max x
def rMaxD0 (K : PySem.W.Frag) : List V → List V → Hp → VK → Prop := fun vs zs H Q => ∃ (a : Addr) (ns : List Int) (d : Int), vs = [.ref a] ∧ zs = [.int d] ∧ SqL K H a (ns.map V.int) ∧ Q (.int (maxD d ns)) H
theorem maxOf_fold : ∀ (xs : List Int) (x : Int), maxOf x xs = xs.foldl max x
  | [], x => rfl
  | z :: xs, x => by
    have e : maxOf x (z :: xs) = maxOf (if DatumOrd.lt x z = true then z else x) xs := rfl
    rw [e, List.foldl_cons]
    by_cases h : x < z
    · rw [if_pos (show DatumOrd.lt x z = true from decide_eq_true h), maxOf_fold xs z, show max x z = z from Int.max_eq_right (Int.le_of_lt h)]
    · rw [if_neg (show ¬ DatumOrd.lt x z = true from fun q => h (of_decide_eq_true q)), maxOf_fold xs x, show max x z = x from Int.max_eq_left (Int.not_lt.mp h)]
theorem dp_intsD {K : PySem.W.Frag} {H : Hp} : ∀ ns : List Int, DpAll K H (ns.map V.int) (ns.map PyData.int)
  | [] => .nil
  | n :: ns => .cons (.int n) (dp_intsD ns)
theorem cr_maxD0 {X : Cx} (hc : X.calm = true) (hu : X.A.units + 64 < cLine) : CallRK X (.builtin "max") [Str.ofString "default"] (rMaxD0 X.K) := by
  intro pins s σ H xs zs us ws Q I r rz q
  obtain ⟨a, ns, d, rfl, rfl, hs, q⟩ := q
  obtain ⟨its, rv, hl, hz⟩ := I.list hs
  rw [Vals.ref1 r]
  obtain ⟨w1, rfl, e1⟩ := Vals.one rz
  obtain ⟨t1, rfl⟩ : ∃ t, w1 = Value.int d t := e1
  obtain ⟨as, rd⟩ := Dp.readsAll I _ _ its (dp_intsD ns) rv
  refine max_list_datum_default (α := Int) (xs := ns) (I.ok.hd hc) hl.isList ⟨as, rd⟩ (by show X.A.units + 1 + 0 < cLine; omega) (fun e h' tk hk => ?_) fun y ys i v h' tk e hi hold hk => ?_
  · subst e
    exact ⟨.int d, H, I.kept hk, ⟨_, rfl⟩, q⟩
  · subst e
    obtain ⟨bs, rd2⟩ := hold
    have rd2 : Reads h' v (.int (maxOf y ys)) bs := rd2
    rw [maxOf_fold] at rd2
    cases rd2 with
    | int _ t => exact ⟨.int _, H, I.kept hk, ⟨_, rfl⟩, q⟩
end Fw
set_option Elab.async false
set_option linter.all false
set_option maxRecDepth 100000
set_option maxHeartbeats 4000000
namespace Fw
open PySem PySem.Spec PyProof.Rows L2
theorem str_ext {x y : Str} (h : x.cps.toList = y.cps.toList) : x = y := by
  obtain ⟨⟨x⟩⟩ := x
  obtain ⟨⟨y⟩⟩ := y
  have : x = y := h
  rw [this]
theorem le_antisymm_l {x y : List Nat} (a : x ≤ y) (b : y ≤ x) : x = y := by
  rcases Classical.em (x = y) with h | h
  · exact h
  · exact List.le_antisymm a b
end Fw
set_option Elab.async false
set_option linter.all false
set_option maxRecDepth 100000
set_option maxHeartbeats 4000000
namespace Fw
open PySem L2 RZ RT
abbrev rSlE (K : PySem.W.Frag) : V → Option Int → Option Int → Hp → VK → Prop := fun x lo hi H Q => rSlA K x lo hi H Q ∨ rSlL K x lo hi H Q
abbrev rLtSS : R2 := fun x y H Q => ∃ i j, x = .str i ∧ y = .str j ∧ Q (.bl (decide (i.cps.toList < j.cps.toList))) H
abbrev fLtIS : R2 := fun x y H Q => rLtI x y H Q ∨ rLtSS x y H Q
def ltV : V → V → Prop
  | .int i, .int j => i < j
  | .str i, .str j => ltS i j
  | _, _ => False
theorem ltV.run {x y : V} {H : Hp} {Q : VK} (h : ltV x y) (q : Q (.bl true) H) : fLtIS x y H Q := by
  cases x <;> cases y <;> try exact h.elim
  · exact .inl ⟨_, _, rfl, rfl, by rw [show (fun i j : Int => V.bl (decide (i < j))) _ _ = V.bl true from congrArg V.bl (decide_eq_true (show _ < _ from h))]; exact q⟩
  · exact .inr ⟨_, _, rfl, rfl, by rw [decide_eq_true (show _ < _ from h)]; exact q⟩
theorem drop1 (xs : List V) : cutV xs (some 1) none = xs.drop 1 := by
  unfold cutV
  rw [show HT.sIx xs.length 0 (some 1) = min 1 xs.length from HT.sIx_nat xs.length 0 1, HT.sIx_none]
  cases xs with
  | nil => rfl
  | cons x r =>
    rw [show min 1 (x :: r).length = 1 by
      rw [List.length_cons]
      omega]
    rw [List.take_of_length_le]
    rw [List.length_drop]
    omega
/-- a comprehension over zip of two tuples, or two lists -/
theorem lcz_tup {K : PySem.W.Frag} {a b : Addr} {xs ys : List V} {g : TG} {tt : TT} {te : TE} {vs : List Nat} {σ : L2.St} {H1 : Hp} {D : Addr} {Qd : Hp → Prop} (n : Nat) (hn : n = min xs.length ys.length) (Pv : Nat → Hp → Prop) (h0 : Pv 0 (upd H1 D (.lst [])))
    (hl : ∀ i H, Pv i H → SqT K H a xs ∧ SqT K H b ys)
    (hs : ∀ (i : Nat) (x y : V) (T : Addr) (H : Hp), xs[i]? = some x → ys[i]? = some y → Pv i H → H T = none → g (.ref T) (wipe σ vs) (upd H T (.tup [x, y])) fun σ2 H2 => wipe σ2 vs = wipe σ vs ∧ tt σ2 H2 fun b H3 =>
      if b = true then te σ2 H3 fun y H4 => ∃ acc, H4 D = some (.lst acc) ∧ acc.length < sizeLine ∧ Pv (i + 1) (upd H4 D (.lst (acc ++ [y]))) else Pv (i + 1) H3) (hd : ∀ H, Pv n H → Qd H) :
    ∃ W : Nat → Nat → Hp → Prop, (∃ m, W 0 m (upd H1 D (.lst []))) ∧ ∀ i m H, W i m H →
      ((ItzT K a b).stop i H ∧ Qd H) ∨ ((ItzT K a b).go i H ∧ ∃ Nx : Hp → Prop, (∀ H', Nx H' → ∃ m', m' < m ∧ W (i + 1) m' H') ∧ ∀ x H', (ItzT K a b).yld i H x H' → g x (wipe σ vs) H' fun σ2 H2 => wipe σ2 vs = wipe σ vs ∧ tt σ2 H2 fun b H3 =>
        if b = true then te σ2 H3 fun y H4 => ∃ acc, H4 D = some (.lst acc) ∧ acc.length < sizeLine ∧ Nx (upd H4 D (.lst (acc ++ [y]))) else Nx H3) := by
  refine ⟨fun i m H => m = n - i ∧ i ≤ n ∧ Pv i H, ⟨n, by simp, Nat.zero_le _, h0⟩, ?_⟩
  rintro i m H ⟨rfl, hi, p⟩
  obtain ⟨qa, qb⟩ := hl i H p
  by_cases hlt : i < n
  · have l1 : i < xs.length := by omega
    have l2 : i < ys.length := by omega
    refine .inr ⟨⟨xs, ys, xs[i], ys[i], qa, qb, List.getElem?_eq_getElem l1, List.getElem?_eq_getElem l2⟩, Pv (i + 1), fun H' p' => ⟨n - (i + 1), by omega, rfl, hlt, p'⟩, fun x H' y => ?_⟩
    obtain ⟨T, x1, x2, rfl, nT, rfl, f1, f2⟩ := y
    exact hs i x1 x2 T H (f1 _ qa) (f2 _ qb) p nT
  · have e : i = n := by omega
    subst e
    exact .inl ⟨⟨xs, ys, qa, qb, by omega⟩, hd H p⟩
theorem lcz_lst {K : PySem.W.Frag} {a b : Addr} {xs ys : List V} {g : TG} {tt : TT} {te : TE} {vs : List Nat} {σ : L2.St} {H1 : Hp} {D : Addr} {Qd : Hp → Prop} (n : Nat) (hn : n = min xs.length ys.length) (Pv : Nat → Hp → Prop) (h0 : Pv 0 (upd H1 D (.lst [])))
    (hl : ∀ i H, Pv i H → SqL K H a xs ∧ SqL K H b ys)
    (hs : ∀ (i : Nat) (x y : V) (T : Addr) (H : Hp), xs[i]? = some x → ys[i]? = some y → Pv i H → H T = none → g (.ref T) (wipe σ vs) (upd H T (.tup [x, y])) fun σ2 H2 => wipe σ2 vs = wipe σ vs ∧ tt σ2 H2 fun b H3 =>
      if b = true then te σ2 H3 fun y H4 => ∃ acc, H4 D = some (.lst acc) ∧ acc.length < sizeLine ∧ Pv (i + 1) (upd H4 D (.lst (acc ++ [y]))) else Pv (i + 1) H3) (hd : ∀ H, Pv n H → Qd H) :
    ∃ W : Nat → Nat → Hp → Prop, (∃ m, W 0 m (upd H1 D (.lst []))) ∧ ∀ i m H, W i m H →
      ((Itz K a b).stop i H ∧ Qd H) ∨ ((Itz K a b).go i H ∧ ∃ Nx : Hp → Prop, (∀ H', Nx H' → ∃ m', m' < m ∧ W (i + 1) m' H') ∧ ∀ x H', (Itz K a b).yld i H x H' → g x (wipe σ vs) H' fun σ2 H2 => wipe σ2 vs = wipe σ vs ∧ tt σ2 H2 fun b H3 =>
        if b = true then te σ2 H3 fun y H4 => ∃ acc, H4 D = some (.lst acc) ∧ acc.length < sizeLine ∧ Nx (upd H4 D (.lst (acc ++ [y]))) else Nx H3) := by
  refine ⟨fun i m H => m = n - i ∧ i ≤ n ∧ Pv i H, ⟨n, by simp, Nat.zero_le _, h0⟩, ?_⟩
  rintro i m H ⟨rfl, hi, p⟩
  obtain ⟨qa, qb⟩ := hl i H p
  by_cases hlt : i < n
  · have l1 : i < xs.length := by omega
    have l2 : i < ys.length := by omega
    refine .inr ⟨⟨xs, ys, xs[i], ys[i], qa, qb, List.getElem?_eq_getElem l1, List.getElem?_eq_getElem l2⟩, Pv (i + 1), fun H' p' => ⟨n - (i + 1), by omega, rfl, hlt, p'⟩, fun x H' y => ?_⟩
    obtain ⟨T, x1, x2, rfl, nT, rfl, f1, f2⟩ := y
    exact hs i x1 x2 T H (f1 _ qa) (f2 _ qb) p nT
  · have e : i = n := by omega
    subst e
    exact .inl ⟨⟨xs, ys, qa, qb, by omega⟩, hd H p⟩
/-- a comprehension over a tuple of pairs of a text and an int -/
theorem lc_pairs {K : PySem.W.Frag} {r : Addr} {as : List Addr} {es : List (Str × Int)} {i j : Nat} {te : TE} {vs : List Nat} {σ : L2.St} {H1 : Hp} {D : Addr} {Qd : Hp → Prop} {ys : List V}
    (hD : H1 D = none) (hr : H1 r = some (.tup (as.map V.ref))) (hl : as.length = es.length) (hz : es.length ≤ 100000) (hy : ys.length = es.length) (ha : ∀ (n : Nat) (b : Addr) (e : Str × Int), as[n]? = some b → es[n]? = some e → H1 b = some (.tup [.str e.1, .int e.2]))
    (hs : ∀ (n : Nat) (e : Str × Int) (y : V) (H' : Hp) (R : VK), es[n]? = some e → ys[n]? = some y → Same H1 H' → (∀ H'', Same H' H'' → R y H'') → wipe (((wipe σ vs).set i (some (.str e.1))).set j (some (.int e.2))) vs = wipe σ vs ∧ te (((wipe σ vs).set i (some (.str e.1))).set j (some (.int e.2))) H' R)
    (hd : ∀ H', Same H1 H' → H' D = some (.lst ys) → Qd H') :
    ∃ W : Nat → Nat → Hp → Prop, (∃ m, W 0 m (L2.upd H1 D (.lst []))) ∧ ∀ i' m H, W i' m H →
      ((Itt K r).stop i' H ∧ Qd H) ∨ ((Itt K r).go i' H ∧ ∃ Nx : Hp → Prop, (∀ H', Nx H' → ∃ m', m' < m ∧ W (i' + 1) m' H') ∧ ∀ x H', (Itt K r).yld i' H x H' → gTup K 2 (gCons (gName i) (gCons (gName j) gNil)) x (wipe σ vs) H' fun σ2 H2 => wipe σ2 vs = wipe σ vs ∧ tYes σ2 H2 fun b H3 =>
        if b = true then te σ2 H3 fun y H4 => ∃ acc, H4 D = some (.lst acc) ∧ acc.length < sizeLine ∧ Nx (L2.upd H4 D (.lst (acc ++ [y]))) else Nx H3) := by
  refine lc_it (walk_tup (xs := as.map V.ref)) (fun i H => Same H1 H ∧ H D = some (.lst (ys.take i))) ⟨Same.upd hD, updS⟩ (fun i H _ p => sqT (p.1 _ _ hr)) (fun n x H H' hi p hyy => ?_) (fun H p => hd H p.1 (by rw [p.2, List.length_map, List.take_of_length_le (by omega)]))
  obtain ⟨rfl, hx⟩ := hyy
  rw [List.length_map] at hi
  rw [List.getElem?_map, List.getElem?_eq_getElem hi] at hx
  cases Option.some.inj hx
  have he : es[n]? = some (es[n]'(by omega)) := List.getElem?_eq_getElem _
  have hi2 : n < ys.length := by omega
  have hb := p.1 _ _ (ha n _ _ (List.getElem?_eq_getElem hi) he)
  obtain ⟨q1, q2⟩ := hs n _ ys[n] H' (fun y H4 => ∃ acc, H4 D = some (.lst acc) ∧ acc.length < sizeLine ∧ (Same H1 (L2.upd H4 D (.lst (acc ++ [y]))) ∧ L2.upd H4 D (.lst (acc ++ [y])) D = some (.lst (ys.take (n + 1))))) he (List.getElem?_eq_getElem hi2) p.1 (fun H'' s => ⟨_, s _ _ p.2, Nat.lt_of_le_of_lt (by rw [List.length_take]; omega : (ys.take n).length ≤ 100000) (by decide), Same.updI (Same.trans p.1 s) hD, by rw [updS, List.take_add_one, List.getElem?_eq_getElem hi2]; rfl⟩)
  exact ⟨_, _, rfl, sqT hb, rfl, _, _, rfl, _, _, rfl, rfl, q1, q2⟩
def sp_is_rows (_ : PySem.W.Frag) : Sp := fun vs H Q _ => ∃ (r : Addr) (rows : List Str), vs = [.ref r] ∧ H r = some (.tup (rows.map V.str)) ∧ rows.length ≤ 40 ∧ (∀ z ∈ rows, OkS z) ∧ ∀ H', Same H H' → Q (.bl true) H'
def sp_is_label (_ : PySem.W.Frag) : Sp := fun vs H Q _ => ∃ z : Str, vs = [.str z] ∧ OkLab z ∧ ∀ H', Same H H' → Q (.bl true) H'
def sp_is_entry (_ : PySem.W.Frag) : Sp := fun vs H Q _ => ∃ (b : Addr) (z : Str) (n : Int), vs = [.ref b] ∧ H b = some (.tup [.str z, .int n]) ∧ OkLab z ∧ ∀ H', Same H H' → Q (.bl true) H'
def sp_rises (_ : PySem.W.Frag) : Sp := fun vs H Q _ => ∃ (p : Addr) (xs : List V), vs = [.ref p] ∧ (H p = some (.lst xs) ∨ H p = some (.tup xs)) ∧ xs.length ≤ 100000 ∧ (∀ (i : Nat) (x y : V), xs[i]? = some x → xs[i + 1]? = some y → ltV x y) ∧ ∀ H', Same H H' → Q (.bl true) H'
def sp_is_entries (_ : PySem.W.Frag) : Sp := fun vs H Q _ => ∃ (r : Addr) (as : List Addr) (es : List (Str × Int)), vs = [.ref r] ∧ H r = some (.tup (as.map V.ref)) ∧ as.length = es.length ∧ (∀ (i : Nat) (b : Addr) (e : Str × Int), as[i]? = some b → es[i]? = some e → H b = some (.tup [.str e.1, .int e.2])) ∧ es.length ≤ 20 ∧ (∀ e ∈ es, OkLab e.1) ∧ (es.Pairwise fun a b => ltS a.1 b.1) ∧ ∀ H', Same H H' → Q (.bl true) H'
def sp_is_ints (_ : PySem.W.Frag) : Sp := fun vs H Q _ => ∃ (r : Addr) (ns : List Int), vs = [.ref r] ∧ H r = some (.tup (ns.map V.int)) ∧ ns.length ≤ 1000 ∧ ∀ H', Same H H' → Q (.bl true) H'
def sp_is_rising (_ : PySem.W.Frag) : Sp := fun vs H Q _ => ∃ (r : Addr) (ns : List Int), vs = [.ref r] ∧ H r = some (.tup (ns.map V.int)) ∧ ns.length ≤ 1000 ∧ ns.Pairwise (· < ·) ∧ ∀ H', Same H H' → Q (.bl true) H'
def sp_is_stamp (_ : PySem.W.Frag) : Sp := fun vs H Q _ => ∃ s : Int, vs = [.int s] ∧ 0 ≤ s ∧ s ≤ 1000000000000000000 ∧ Q (.bl true) H
def sp_is_version_form (_ : PySem.W.Frag) : Sp := fun vs H Q _ => ∃ (a : Addr) (ps : List Int) (r s : Int), vs = [.ref a] ∧ CtAt H a (.ver ps r s) ∧ (Ct.ver ps r s).form ∧ ∀ H', Same H H' → Q (.bl true) H'
def sp_is_content_form (_ : PySem.W.Frag) : Sp := fun vs H Q _ => ∃ (a : Addr) (c : Ct), vs = [.ref a] ∧ CtAt H a c ∧ c.form ∧ ∀ H', Same H H' → Q (.bl true) H'
section
variable {K : PySem.W.Frag} {vs : List V} {H : Hp} {Q : VK} {E : XK}
theorem len_is_rows (h : sp_is_rows K vs H Q E) : vs.length = 1 := by obtain ⟨_, _, rfl, _⟩ := h; rfl
theorem len_is_label (h : sp_is_label K vs H Q E) : vs.length = 1 := by obtain ⟨_, rfl, _⟩ := h; rfl
theorem len_is_entry (h : sp_is_entry K vs H Q E) : vs.length = 1 := by obtain ⟨_, _, _, rfl, _⟩ := h; rfl
theorem len_rises (h : sp_rises K vs H Q E) : vs.length = 1 := by obtain ⟨_, _, rfl, _⟩ := h; rfl
theorem len_is_entries (h : sp_is_entries K vs H Q E) : vs.length = 1 := by obtain ⟨_, _, _, rfl, _⟩ := h; rfl
theorem len_is_ints (h : sp_is_ints K vs H Q E) : vs.length = 1 := by obtain ⟨_, _, rfl, _⟩ := h; rfl
theorem len_is_rising (h : sp_is_rising K vs H Q E) : vs.length = 1 := by obtain ⟨_, _, rfl, _⟩ := h; rfl
theorem len_is_stamp (h : sp_is_stamp K vs H Q E) : vs.length = 1 := by obtain ⟨_, rfl, _⟩ := h; rfl
theorem len_is_version_form (h : sp_is_version_form K vs H Q E) : vs.length = 1 := by obtain ⟨_, _, _, _, rfl, _⟩ := h; rfl
theorem len_is_content_form (h : sp_is_content_form K vs H Q E) : vs.length = 1 := by obtain ⟨_, _, rfl, _⟩ := h; rfl
end
abbrev N_is_rows : List Str := ["thing", "row"]
def t_is_rows (K : PySem.W.Frag) : TS := (tRet (tAndV (tCB (rIsi K) (tCons (tVar 0) (tCons (tC (.ty "tuple")) tNil))) (tAndV (tOp rLeI (tCB (fLen K) (tCons (tVar 0) tNil)) (tC (.int 40))) (tCB (rAll K) (tCons (tLc (iTup K (tVar 0)) (gName 1) tYes (tCall (sp_is_row K) [] E0 (tCons (tVar 1) tNil)) [1]) tNil)))))
abbrev N_is_label : List Str := ["thing", "sign"]
def t_is_label (K : PySem.W.Frag) : TS := (tSeq (tIfS (tOr (tNot (tB (tCB (rIsi K) (tCons (tVar 0) (tCons (tC (.ty "str")) tNil))))) (tNot (tTest (tChain rLeI rLeI (tC (.int 1)) (tCB (fLen K) (tCons (tVar 0) tNil)) (tC (.int 8)))))) (tRet (tC (.bl false))) tNext)
    (tRet (tCB (rAll K) (tCons (tLc (iStr (tVar 0)) (gName 1) tYes (tChain rLeS rLeS (tC (.str "a")) (tVar 1) (tC (.str "z"))) [1]) tNil))))
abbrev N_is_entry : List Str := ["thing"]
def t_is_entry (K : PySem.W.Frag) : TS := (tRet (tAndV (tCall (sp_is_pairT K) [] E0 (tCons (tVar 0) tNil)) (tAndV (tCall (sp_is_label K) [] E0 (tCons (tOp (rIx K) (tVar 0) (tC (.int 0))) tNil)) (tCall (sp_is_intI K) [] E0 (tCons (tOp (rIx K) (tVar 0) (tC (.int 1))) tNil)))))
abbrev N_rises : List Str := ["things", "low", "high"]
def t_rises (K : PySem.W.Frag) : TS := (tRet (tCB (rAll K) (tCons (tLc (iZipA K (tCons (tVar 0) (tCons (tSl (rSlE K) (tVar 0) (tPart (tC (.int 1))) tNoPart) tNil))) (gTup K 2 (gCons (gName 1) (gCons (gName 2) gNil))) tYes (tOp fLtIS (tVar 1) (tVar 2)) [1, 2]) tNil)))
abbrev N_is_entries : List Str := ["thing", "entry"]
def t_is_entries (K : PySem.W.Frag) : TS := (tSeq (tIfS (tOr (tNot (tB (tCB (rIsi K) (tCons (tVar 0) (tCons (tC (.ty "tuple")) tNil))))) (tTest (tOp rGtI (tCB (fLen K) (tCons (tVar 0) tNil)) (tC (.int 20))))) (tRet (tC (.bl false))) tNext)
    (tRet (tAndV (tCB (rAll K) (tCons (tLc (iTup K (tVar 0)) (gName 1) tYes (tCall (sp_is_entry K) [] E0 (tCons (tVar 1) tNil)) [1]) tNil)) (tCall (sp_rises K) [] E0 (tCons (tLc (iTup K (tVar 0)) (gName 1) tYes (tOp (rIx K) (tVar 1) (tC (.int 0))) [1]) tNil)))))
abbrev N_is_ints : List Str := ["thing", "part"]
def t_is_ints (K : PySem.W.Frag) : TS := (tRet (tAndV (tCB (rIsi K) (tCons (tVar 0) (tCons (tC (.ty "tuple")) tNil))) (tCB (rAll K) (tCons (tLc (iTup K (tVar 0)) (gName 1) tYes (tCall (sp_is_intI K) [] E0 (tCons (tVar 1) tNil)) [1]) tNil))))
abbrev N_is_rising : List Str := ["thing"]
def t_is_rising (K : PySem.W.Frag) : TS := (tRet (tAndV (tCall (sp_is_ints K) [] E0 (tCons (tVar 0) tNil)) (tCall (sp_rises K) [] E0 (tCons (tVar 0) tNil))))
abbrev N_is_stamp : List Str := ["thing"]
def t_is_stamp (K : PySem.W.Frag) : TS := (tRet (tAndV (tCall (sp_is_intI K) [] E0 (tCons (tVar 0) tNil)) (tChain rLeI rLeI (tC (.int 0)) (tVar 0) (tC (.int 1000000000000000000)))))
abbrev N_is_version_form : List Str := ["thing"]
def t_is_version_form (K : PySem.W.Frag) : TS := (tSeq (tIfS (tOr (tTest (tOp rNe (tCB (fLen K) (tCons (tVar 0) tNil)) (tC (.int 4)))) (tNot (tB (tCall (sp_is_rising K) [] E0 (tCons (tOp (rIx K) (tVar 0) (tC (.int 1))) tNil))))) (tRet (tC (.bl false))) tNext)
    (tRet (tAndV (tOp rLeI (tCB (fLen K) (tCons (tOp (rIx K) (tVar 0) (tC (.int 1))) tNil)) (tC (.int 4))) (tAndV (tCall (sp_is_intI K) [] E0 (tCons (tOp (rIx K) (tVar 0) (tC (.int 2))) tNil)) (tCall (sp_is_stamp K) [] E0 (tCons (tOp (rIx K) (tVar 0) (tC (.int 3))) tNil))))))
abbrev N_is_content_form : List Str := ["thing"]
def t_is_content_form (K : PySem.W.Frag) : TS := (tSeq (tIfS (tOr (tNot (tB (tCB (rIsi K) (tCons (tVar 0) (tCons (tC (.ty "tuple")) tNil))))) (tTest (tOp rEq (tCB (fLen K) (tCons (tVar 0) tNil)) (tC (.int 0))))) (tRet (tC (.bl false))) tNext)
    (tSeq (tIfS (tTest (tOp rEq (tOp (rIx K) (tVar 0) (tC (.int 0))) (tC (.str "leaf")))) (tRet (tAndV (tOp rEq (tCB (fLen K) (tCons (tVar 0) tNil)) (tC (.int 2))) (tCall (sp_is_rows K) [] E0 (tCons (tOp (rIx K) (tVar 0) (tC (.int 1))) tNil)))) tNext)
    (tSeq (tIfS (tTest (tOp rEq (tOp (rIx K) (tVar 0) (tC (.int 0))) (tC (.str "tree")))) (tRet (tAndV (tOp rEq (tCB (fLen K) (tCons (tVar 0) tNil)) (tC (.int 2))) (tCall (sp_is_entries K) [] E0 (tCons (tOp (rIx K) (tVar 0) (tC (.int 1))) tNil)))) tNext)
    (tRet (tAndV (tOp rEq (tOp (rIx K) (tVar 0) (tC (.int 0))) (tC (.str "version"))) (tCall (sp_is_version_form K) [] E0 (tCons (tVar 0) tNil)))))))
theorem one_le {c d : Nat} (h : d ≤ c) : (!decide ((⟨#[c]⟩ : Str).cps.toList < (⟨#[d]⟩ : Str).cps.toList)) = true := by
  show (!decide ([c] < [d])) = true
  rw [decide_eq_false]
  · rfl
  · intro h2
    rcases List.cons_lt_cons_iff.mp h2 with h3 | h3
    · omega
    · exact absurd h3.2 (by decide)
theorem str_a : ("a" : Str) = ⟨#[97]⟩ := by decide +kernel
theorem str_z : ("z" : Str) = ⟨#[122]⟩ := by decide +kernel
theorem samN {H : Hp} {p : Addr} {o : HO} (n : H p = none) : Same H (upd H p o) := Same.upd n
section
variable {K : PySem.W.Frag} {vs : List V} {H : Hp} {Q : VK} {E : XK}
theorem pure_is_rows (h : sp_is_rows K vs H Q E) : t_is_rows K { nx := fun _ H' => Q .non H', rt := Q } (start N_is_rows vs) H := by
  obtain ⟨r, rows, rfl, hr, few, ok, k⟩ := h
  refine ⟨_, rfl, isi (.base (.tup hr)) k_tt ⟨_, rfl, iteT ⟨_, rfl, lenT hr ⟨_, _, rfl, rfl, _, rfl, ?_⟩⟩⟩⟩
  rw [decide_eq_true (show ((rows.map V.str).length : Int) ≤ 40 by rw [List.length_map]; omega)]
  refine iteT ⟨_, rfl, r, rfl, ⟨_, sqT hr⟩, fun L nL => ?_⟩
  refine lc_grow (walk_tup (xs := rows.map V.str)) yAt (ys := List.replicate (rows.map V.str).length (.bl true)) nL List.length_replicate (by rw [List.length_map]; omega) (fun H' s => sqT (s _ _ hr)) ?_ ?_
  · rintro i x y H' R hi ⟨_, hx⟩ hy s q
    rw [List.getElem?_map] at hx
    cases e : rows[i]? with
    | none => rw [e] at hx; cases hx
    | some z =>
      rw [e] at hx
      cases Option.some.inj hx
      refine ⟨rfl, _, rfl, z, rfl, ok z (List.mem_of_getElem? e), fun H'' s2 => ?_⟩
      rw [rep_get hy] at q
      exact q _ s2
  · intro H' s hL
    refine ⟨L, List.replicate (rows.map V.str).length true, rfl, sqL (by rw [hL, List.map_replicate]), ?_⟩
    rw [all_rep]
    exact k _ s
theorem pure_is_label (h : sp_is_label K vs H Q E) : t_is_label K { nx := fun _ H' => Q .non H', rt := Q } (start N_is_label vs) H := by
  obtain ⟨z, rfl, ⟨h1, h2, h3⟩, k⟩ := h
  have hz : z.length ≤ 1000 := by show z.cps.size ≤ 1000; omega
  refine ⟨_, rfl, isi (.base (.str z)) k_ss ⟨_, rfl, iteF ⟨_, rfl, lenS hz ⟨_, _, rfl, rfl, _, rfl, ?_⟩⟩⟩⟩
  rw [decide_eq_true (show (1 : Int) ≤ (z.length : Int) by show (1 : Int) ≤ (z.cps.size : Int); omega)]
  refine iteT ⟨_, _, rfl, rfl, _, rfl, ?_⟩
  rw [decide_eq_true (show (z.length : Int) ≤ 8 by show (z.cps.size : Int) ≤ 8; omega)]
  refine iteF ⟨_, rfl, z, rfl, fun L nL => ?_⟩
  refine lc_grow walk_str yStr (ys := List.replicate z.cps.size (.bl true)) nL List.length_replicate (by omega) (fun _ _ => True.intro) ?_ ?_
  · rintro i x y H' R hi ⟨_, c, hc, rfl⟩ hy s r
    have hm : c ∈ z.cps.toList := by obtain ⟨q1, q2⟩ := Array.getElem?_eq_some_iff.mp hc; rw [← q2]; exact Array.getElem_mem_toList q1
    obtain ⟨l1, l2⟩ := h3 c hm
    refine ⟨rfl, _, rfl, _, _, rfl, rfl, _, rfl, ?_⟩
    rw [str_a, one_le l1]
    refine iteT ⟨_, _, rfl, rfl, ?_⟩
    rw [str_z, one_le l2]
    rw [← rep_get hy]
    exact r _ (Same.refl _)
  · intro H' s hL
    refine ⟨L, List.replicate z.cps.size true, rfl, sqL (by rw [hL, List.map_replicate]), ?_⟩
    rw [all_rep]
    exact k _ s
theorem pure_is_entry (h : sp_is_entry K vs H Q E) : t_is_entry K { nx := fun _ H' => Q .non H', rt := Q } (start N_is_entry vs) H := by
  obtain ⟨b, z, n, rfl, hb, ok, k⟩ := h
  refine ⟨_, rfl, b, _, _, rfl, hb, _, rfl, iteT ⟨_, rfl, ixT hb rfl ⟨z, rfl, ok, fun H' s => ⟨_, rfl, iteT ⟨_, rfl, ixT (s _ _ hb) rfl ⟨n, rfl, k _ s⟩⟩⟩⟩⟩⟩
theorem pure_rises (h : sp_rises K vs H Q E) : t_rises K { nx := fun _ H' => Q .non H', rt := Q } (start N_rises vs) H := by
  obtain ⟨p, xs, rfl, hp, hz, hc, k⟩ := h
  have fin : ∀ {H1 H2 : Hp} {D : Addr}, Same H H1 → Same H1 H2 → H2 D = some (.lst (List.replicate (xs.length - 1) (.bl true))) → rAll K [V.ref D] H2 Q := fun {H1 H2 D} s1 s2 hD => by
    refine ⟨D, List.replicate (xs.length - 1) true, rfl, sqL (by rw [hD, List.map_replicate]), ?_⟩
    rw [all_rep]
    exact k _ (s1.trans s2)
  have step : ∀ {H1 H2 : Hp} {D T : Addr} {i : Nat} {x y : V} {Qn : Hp → Prop}, xs[i]? = some x → (xs.drop 1)[i]? = some y → Same H1 H2 ∧ H2 D = some (.lst (List.replicate i (.bl true))) → H1 D = none → H2 T = none → (∀ H', Same H1 H' → H' D = some (.lst (List.replicate (i + 1) (.bl true))) → Qn H') →
      gTup K 2 (gCons (gName 1) (gCons (gName 2) gNil)) (.ref T) (wipe (start N_rises [V.ref p]) [1, 2]) (upd H2 T (.tup [x, y])) fun σ2 H2 => wipe σ2 [1, 2] = wipe (start N_rises [V.ref p]) [1, 2] ∧ tYes σ2 H2 fun b H3 =>
        if b = true then tOp fLtIS (tVar 1) (tVar 2) σ2 H3 fun y H4 => ∃ acc, H4 D = some (.lst acc) ∧ acc.length < sizeLine ∧ Qn (upd H4 D (.lst (acc ++ [y]))) else Qn H3 := by
    intro H1 H2 D T i x y Qn hx hy s2 nD nT q
    rw [List.getElem?_drop, Nat.add_comm] at hy
    have hi := (List.getElem?_eq_some_iff.mp hy).1
    have nTD : D ≠ T := ne_of_none s2.2 nT
    have sT : Same H1 (upd H2 T (.tup [x, y])) := fun b o e => updN (ne_of_none (s2.1 _ _ e) nT) (s2.1 _ _ e)
    refine ⟨T, [x, y], rfl, sqT updS, rfl, x, [y], rfl, y, [], rfl, rfl, rfl, ?_⟩
    refine ⟨_, rfl, _, rfl, (hc i x y hx hy).run ⟨_, updN nTD s2.2, ?_, q _ (fun b o e => updN (ne_of_none e nD) (sT _ _ e)) ?_⟩⟩
    · refine Nat.lt_of_le_of_lt (?_ : _ ≤ 100000) (by decide)
      rw [List.length_replicate]
      omega
    · rw [updS, List.replicate_succ']
  rcases hp with hp | hp
  · refine ⟨_, rfl, _, rfl, _, rfl, .inr ⟨p, _, rfl, sqL hp, fun q nq => ?_⟩⟩
    rw [drop1]
    have s1 : Same H (upd H q (.lst (xs.drop 1))) := samN nq
    refine ⟨p, q, xs, _, rfl, .inl ⟨sqL (s1 _ _ hp), sqL updS, fun D nD => ?_⟩⟩
    have hq1 : upd H q (.lst (xs.drop 1)) q = some (.lst (xs.drop 1)) := updS
    have hp1 := s1 _ _ hp
    generalize upd H q (.lst (xs.drop 1)) = H1 at s1 hq1 hp1 nD ⊢
    exact lcz_lst (K := K) (a := p) (b := q) (xs := xs) (ys := xs.drop 1) (xs.length - 1) (by rw [List.length_drop]; omega) (fun i H2 => Same H1 H2 ∧ H2 D = some (.lst (List.replicate i (.bl true)))) ⟨samN nD, updS⟩ (fun i H2 s2 => ⟨sqL (s2.1 _ _ hp1), sqL (s2.1 _ _ hq1)⟩) (fun i x y T H2 hx hy s2 nT => step hx hy s2 nD nT fun H' a b => ⟨a, b⟩) (fun H2 s2 => fin s1 s2.1 s2.2)
  · have main : ∀ (q : Addr) (H1 : Hp), Same H H1 → H1 q = some (.tup (xs.drop 1)) → ∀ D, H1 D = none → ∃ W : Nat → Nat → Hp → Prop, (∃ m, W 0 m (upd H1 D (.lst []))) ∧ ∀ i m H, W i m H →
        ((ItzT K p q).stop i H ∧ tNil (start N_rises [V.ref p]) H fun ys H2 => rAll K (.ref D :: ys) H2 Q) ∨ ((ItzT K p q).go i H ∧ ∃ Nx : Hp → Prop, (∀ H', Nx H' → ∃ m', m' < m ∧ W (i + 1) m' H') ∧ ∀ x H', (ItzT K p q).yld i H x H' → gTup K 2 (gCons (gName 1) (gCons (gName 2) gNil)) x (wipe (start N_rises [V.ref p]) [1, 2]) H' fun σ2 H2 => wipe σ2 [1, 2] = wipe (start N_rises [V.ref p]) [1, 2] ∧ tYes σ2 H2 fun b H3 =>
          if b = true then tOp fLtIS (tVar 1) (tVar 2) σ2 H3 fun y H4 => ∃ acc, H4 D = some (.lst acc) ∧ acc.length < sizeLine ∧ Nx (upd H4 D (.lst (acc ++ [y]))) else Nx H3) := by
      intro q H1 sm hq D nD
      exact lcz_tup (K := K) (a := p) (b := q) (xs := xs) (ys := xs.drop 1) (xs.length - 1) (by rw [List.length_drop]; omega) (fun i H2 => Same H1 H2 ∧ H2 D = some (.lst (List.replicate i (.bl true)))) ⟨samN nD, updS⟩ (fun i H2 s2 => ⟨sqT (s2.1 _ _ (sm _ _ hp)), sqT (s2.1 _ _ hq)⟩) (fun i x y T H2 hx hy s2 nT => step hx hy s2 nD nT fun H' a b => ⟨a, b⟩) (fun H2 s2 => fin sm s2.1 s2.2)
    refine ⟨_, rfl, _, rfl, _, rfl, .inl ⟨p, xs, rfl, sqT hp, fun e => ?_, fun e q nq => ?_⟩⟩
    · have e0 : xs.drop 1 = xs := by
        have e1 := e.1
        rw [show HT.sIx xs.length 0 (some 1) = min 1 xs.length from HT.sIx_nat xs.length 0 1] at e1
        have : xs.length = 0 := by omega
        rw [List.eq_nil_of_length_eq_zero this]
        rfl
      exact ⟨p, p, xs, xs, rfl, .inr ⟨sqT hp, sqT hp, main p H (Same.refl H) (by rw [e0]; exact hp)⟩⟩
    · have s1 : Same H (upd H q (.tup (cutV xs (some 1) none))) := fun b o e => updN (ne_of_none e nq) e
      refine ⟨p, q, xs, _, rfl, .inr ⟨sqT (s1 _ _ hp), sqT updS, main q _ s1 ?_⟩⟩
      rw [updS, drop1]
theorem pure_is_entries (h : sp_is_entries K vs H Q E) : t_is_entries K { nx := fun _ H' => Q .non H', rt := Q } (start N_is_entries vs) H := by
  obtain ⟨r, as, es, rfl, hr, hl, ha, few, ok, pw, k⟩ := h
  refine ⟨_, rfl, isi (.base (.tup hr)) k_tt ⟨_, rfl, iteF ⟨_, rfl, lenT hr ⟨_, _, rfl, rfl, _, rfl, ?_⟩⟩⟩⟩
  rw [decide_eq_false (show ¬ (20 : Int) < ((as.map V.ref).length : Int) by rw [List.length_map]; omega)]
  refine iteF ⟨_, rfl, r, rfl, ⟨_, sqT hr⟩, fun L nL => ?_⟩
  refine lc_grow (walk_tup (xs := as.map V.ref)) yAt (ys := List.replicate (as.map V.ref).length (.bl true)) nL List.length_replicate (by rw [List.length_map]; omega) (fun H' s => sqT (s _ _ hr)) ?_ ?_
  · rintro i x y H' R hi ⟨_, hx⟩ hy s q
    rw [List.length_map] at hi
    rw [List.getElem?_map, List.getElem?_eq_getElem hi] at hx
    cases Option.some.inj hx
    have he : es[i]? = some (es[i]'(by omega)) := List.getElem?_eq_getElem _
    refine ⟨rfl, _, rfl, as[i], _, _, rfl, s _ _ (ha i _ _ (List.getElem?_eq_getElem hi) he), ok _ (List.mem_of_getElem? he), fun H'' s2 => ?_⟩
    rw [rep_get hy] at q
    exact q _ s2
  · intro H' s hL
    refine ⟨L, List.replicate (as.map V.ref).length true, rfl, sqL (by rw [hL, List.map_replicate]), ?_⟩
    rw [all_rep]
    refine ⟨_, rfl, iteT ⟨_, rfl, r, rfl, ⟨_, sqT (s _ _ hr)⟩, fun L2 nL2 => ?_⟩⟩
    refine lc_grow (walk_tup (xs := as.map V.ref)) yAt (ys := (es.map fun e => V.str e.1)) nL2 (by rw [List.length_map, List.length_map, hl]) (by rw [List.length_map]; omega) (fun H2 s2 => sqT (s2 _ _ (s _ _ hr))) ?_ ?_
    · rintro i x y H2 R hi ⟨_, hx⟩ hy s2 q
      rw [List.length_map] at hi
      rw [List.getElem?_map, List.getElem?_eq_getElem hi] at hx
      cases Option.some.inj hx
      have he : es[i]? = some (es[i]'(by omega)) := List.getElem?_eq_getElem _
      have hb := ha i _ _ (List.getElem?_eq_getElem hi) he
      rw [List.getElem?_map, he] at hy
      cases Option.some.inj hy
      exact ⟨rfl, _, rfl, ixT (s2 _ _ (s _ _ hb)) rfl (q _ (Same.refl _))⟩
    · intro H2 s2 hL2
      refine ⟨L2, _, rfl, .inl hL2, by rw [List.length_map]; omega, fun i x y hx hy => ?_, fun H3 s3 => k _ ((s.trans s2).trans s3)⟩
      rw [List.getElem?_map] at hx hy
      cases e1 : es[i]? with
      | none => rw [e1] at hx; cases hx
      | some a =>
        cases e2 : es[i + 1]? with
        | none => rw [e2] at hy; cases hy
        | some b =>
          rw [e1] at hx
          rw [e2] at hy
          cases Option.some.inj hx
          cases Option.some.inj hy
          obtain ⟨h1, e1⟩ := List.getElem?_eq_some_iff.mp e1
          obtain ⟨h2, e2⟩ := List.getElem?_eq_some_iff.mp e2
          have := List.pairwise_iff_getElem.mp pw i (i + 1) h1 h2 (Nat.lt_succ_self _)
          rw [e1, e2] at this
          exact this
theorem pure_is_ints (h : sp_is_ints K vs H Q E) : t_is_ints K { nx := fun _ H' => Q .non H', rt := Q } (start N_is_ints vs) H := by
  obtain ⟨r, ns, rfl, hr, few, k⟩ := h
  refine ⟨_, rfl, isi (.base (.tup hr)) k_tt ⟨_, rfl, iteT ⟨_, rfl, r, rfl, ⟨_, sqT hr⟩, fun L nL => ?_⟩⟩⟩
  refine lc_grow (walk_tup (xs := ns.map V.int)) yAt (ys := List.replicate (ns.map V.int).length (.bl true)) nL List.length_replicate (by rw [List.length_map]; omega) (fun H' s => sqT (s _ _ hr)) ?_ ?_
  · rintro i x y H' R hi ⟨_, hx⟩ hy s q
    rw [List.getElem?_map] at hx
    cases e : ns[i]? with
    | none => rw [e] at hx; cases hx
    | some z =>
      rw [e] at hx
      cases Option.some.inj hx
      refine ⟨rfl, _, rfl, z, rfl, ?_⟩
      rw [rep_get hy] at q
      exact q _ (Same.refl _)
  · intro H' s hL
    refine ⟨L, List.replicate (ns.map V.int).length true, rfl, sqL (by rw [hL, List.map_replicate]), ?_⟩
    rw [all_rep]
    exact k _ s
theorem pure_is_rising (h : sp_is_rising K vs H Q E) : t_is_rising K { nx := fun _ H' => Q .non H', rt := Q } (start N_is_rising vs) H := by
  obtain ⟨r, ns, rfl, hr, few, pw, k⟩ := h
  refine ⟨_, rfl, r, ns, rfl, hr, few, fun H' s => ⟨_, rfl, iteT ⟨_, rfl, r, ns.map V.int, rfl, .inr (s _ _ hr), by rw [List.length_map]; omega, fun i x y hx hy => ?_, fun H'' s2 => k _ (s.trans s2)⟩⟩⟩
  rw [List.getElem?_map] at hx hy
  cases e1 : ns[i]? with
  | none => rw [e1] at hx; cases hx
  | some a =>
    cases e2 : ns[i + 1]? with
    | none => rw [e2] at hy; cases hy
    | some b =>
      rw [e1] at hx
      rw [e2] at hy
      cases Option.some.inj hx
      cases Option.some.inj hy
      obtain ⟨h1, e1⟩ := List.getElem?_eq_some_iff.mp e1
      obtain ⟨h2, e2⟩ := List.getElem?_eq_some_iff.mp e2
      have := List.pairwise_iff_getElem.mp pw i (i + 1) h1 h2 (Nat.lt_succ_self _)
      rw [e1, e2] at this
      exact this
theorem pure_is_stamp (h : sp_is_stamp K vs H Q E) : t_is_stamp K { nx := fun _ H' => Q .non H', rt := Q } (start N_is_stamp vs) H := by
  obtain ⟨s, rfl, h0, h1, k⟩ := h
  refine ⟨_, rfl, s, rfl, _, rfl, iteT ⟨_, rfl, _, _, rfl, rfl, _, rfl, ?_⟩⟩
  rw [decide_eq_true h0]
  refine iteT ⟨_, _, rfl, rfl, ?_⟩
  exact blT (Q := Q) h1 k
theorem pure_is_version_form (h : sp_is_version_form K vs H Q E) : t_is_version_form K { nx := fun _ H' => Q .non H', rt := Q } (start N_is_version_form vs) H := by
  obtain ⟨a, ps, r, s, rfl, ⟨p, ha, hp⟩, ⟨f1, f2, f3, f4⟩, k⟩ := h
  refine ⟨_, rfl, lenT ha ⟨rfl, _, rfl, iteF ⟨_, rfl, ixT ha rfl ⟨p, ps, rfl, hp, by omega, f2, fun H' s1 => ⟨_, rfl, iteF ?_⟩⟩⟩⟩⟩
  refine ⟨_, rfl, ixT (s1 _ _ ha) rfl (lenT (s1 _ _ hp) ⟨_, _, rfl, rfl, _, rfl, ?_⟩)⟩
  rw [decide_eq_true (show ((ps.map V.int).length : Int) ≤ 4 by rw [List.length_map]; omega)]
  refine iteT ⟨_, rfl, ixT (s1 _ _ ha) rfl ⟨r, rfl, _, rfl, iteT ⟨_, rfl, ixT (s1 _ _ ha) rfl ⟨s, rfl, f3, f4, k _ s1⟩⟩⟩⟩
theorem pure_is_content_form (h : sp_is_content_form K vs H Q E) : t_is_content_form K { nx := fun _ H' => Q .non H', rt := Q } (start N_is_content_form vs) H := by
  obtain ⟨a, c, rfl, ha, f, k⟩ := h
  have ww : ∀ {x y : Str}, x ≠ y → decide (V.str x = V.str y) = false := fun {x y} h => decide_eq_false fun e => h (by injection e)
  cases c with
  | leaf rows =>
    obtain ⟨r, h1, h2⟩ := ha
    refine ⟨_, rfl, isi (.base (.tup h1)) k_tt ⟨_, rfl, iteF ⟨_, rfl, lenT h1 ⟨rfl, _, rfl, iteF ⟨_, rfl, ixT h1 rfl ⟨rfl, _, rfl, ?_⟩⟩⟩⟩⟩⟩
    rw [decide_eq_true rfl]
    refine iteT ⟨_, rfl, lenT h1 ⟨rfl, _, rfl, iteT ⟨_, rfl, ixT h1 rfl ⟨r, rows, rfl, h2, f.1, f.2, k⟩⟩⟩⟩
  | tree es =>
    obtain ⟨r, as, h1, h2, h3, h4⟩ := ha
    refine ⟨_, rfl, isi (.base (.tup h1)) k_tt ⟨_, rfl, iteF ⟨_, rfl, lenT h1 ⟨rfl, _, rfl, iteF ⟨_, rfl, ixT h1 rfl ⟨rfl, _, rfl, ?_⟩⟩⟩⟩⟩⟩
    rw [ww wv_lt.symm]
    refine iteF ⟨_, rfl, ixT h1 rfl ⟨rfl, _, rfl, ?_⟩⟩
    rw [decide_eq_true rfl]
    refine iteT ⟨_, rfl, lenT h1 ⟨rfl, _, rfl, iteT ⟨_, rfl, ixT h1 rfl ⟨r, as, es, rfl, h2, h3, h4, f.1, f.2.1, f.2.2, k⟩⟩⟩⟩
  | ver ps r s =>
    obtain ⟨p, h1, h2⟩ := id ha
    refine ⟨_, rfl, isi (.base (.tup h1)) k_tt ⟨_, rfl, iteF ⟨_, rfl, lenT h1 ⟨rfl, _, rfl, iteF ⟨_, rfl, ixT h1 rfl ⟨rfl, _, rfl, ?_⟩⟩⟩⟩⟩⟩
    rw [ww wv_lv.symm]
    refine iteF ⟨_, rfl, ixT h1 rfl ⟨rfl, _, rfl, ?_⟩⟩
    rw [ww wv_tv.symm]
    refine iteF ⟨_, rfl, ixT h1 rfl ⟨rfl, _, rfl, ?_⟩⟩
    rw [decide_eq_true rfl]
    exact iteT ⟨_, rfl, a, ps, r, s, rfl, ha, f, k⟩
end
end Fw
set_option Elab.async false
set_option linter.all false
set_option maxRecDepth 100000
set_option maxHeartbeats 4000000
namespace Fw
open PySem L2 RZ RT
section
variable [HasW]
def sp_Book_init (K : PySem.W.Frag) : Sp := fun vs H Q _ => ∃ (x dx : Addr), vs = [.ref x] ∧ BkC K ∧ H x = some (.ins (He.ga K "Book") dx []) ∧
  ∀ (b : BkA) (H' : Hp), b.B = x → (∀ a o, H a = some o → a ≠ x → H' a = some o) → H b.L = none → H b.E = none → H b.G = none → BkAt K H' b [] [] → Q .non H'
def sp_Book_is_name (K : PySem.W.Frag) : Sp := fun vs H Q _ => ∃ (b : BkA) (cs : List Ct) (as : List Addr) (i : Int), vs = [.ref b.B, .int i] ∧ BkAt K H b cs as ∧ Q (.bl (decide (0 ≤ i) && decide (i < (cs.length : Nat)))) H
def sp_Book_has_kinds (K : PySem.W.Frag) : Sp := fun vs H Q _ => ∃ (b : BkA) (cs : List Ct) (as : List Addr) (n q : Addr) (ns : List Int) (ks : List Str), vs = [.ref b.B, .ref n, .ref q] ∧ BkAt K H b cs as ∧ (H n = some (.lst (ns.map V.int)) ∨ H n = some (.tup (ns.map V.int))) ∧ ns.length ≤ 1000 ∧ H q = some (.tup (ks.map V.str)) ∧
  ∀ H', Same H H' → Q (.bl (ns.all (hasK cs ks))) H'
def sp_Book_depth (K : PySem.W.Frag) : Sp := fun vs H Q _ => ∃ (b : BkA) (ds : List Int) (a : Addr) (c : Ct), vs = [.ref b.B, .ref a] ∧ BkC K ∧ BO K H b ∧ H b.E = some (.lst (ds.map V.int)) ∧ CtAt H a c ∧ c.form ∧ (∀ es, c = .tree es → ∀ e ∈ es, 0 ≤ e.2 ∧ e.2.toNat < ds.length) ∧
  ∀ H', Same H H' → Q (.int (depOf ds c)) H'
def sp_Book_is_content (K : PySem.W.Frag) : Sp := fun vs H Q _ => ∃ (b : BkA) (cs : List Ct) (as : List Addr) (a : Addr) (c : Ct), vs = [.ref b.B, .ref a] ∧ BkAt K H b cs as ∧ CtAt H a c ∧ c.form ∧ ∀ H', Same H H' → Q (.bl (c.inB cs)) H'
def sp_Book_give_next (K : PySem.W.Frag) : Sp := fun vs H Q _ => ∃ (b : BkA) (cs : List Ct) (as : List Addr) (a : Addr) (c : Ct), vs = [.ref b.B, .ref a] ∧ BkAt K H b cs as ∧ CtAt H a c ∧ c.form ∧ c.inB cs = true ∧ c ∉ cs ∧ cs.length < 400 ∧
  ∀ H', Kb b H H' → BkAt K H' b (cs ++ [c]) (as ++ [a]) → Q .non H'
def sp_Book_named (K : PySem.W.Frag) : Sp := fun vs H Q _ => ∃ (b : BkA) (cs : List Ct) (as : List Addr) (a : Addr) (c : Ct), vs = [.ref b.B, .ref a] ∧ BkAt K H b cs as ∧ CtAt H a c ∧ c.form ∧ c.inB cs = true ∧ (c ∉ cs → cs.length < 400) ∧
  (∀ (i : Nat) (H' : Hp), cs[i]? = some c → Same H H' → Q (.int (i : Int)) H') ∧ (c ∉ cs → ∀ H', Kb b H H' → BkAt K H' b (cs ++ [c]) (as ++ [a]) → Q (.int (cs.length : Nat)) H')
end
section
variable [HasW] {K : PySem.W.Frag} {vs : List V} {H : Hp} {Q : VK} {E : XK}
theorem len_Book_init (h : sp_Book_init K vs H Q E) : vs.length = 1 := by obtain ⟨_, _, rfl, _⟩ := h; rfl
theorem len_Book_is_name (h : sp_Book_is_name K vs H Q E) : vs.length = 2 := by obtain ⟨_, _, _, _, rfl, _⟩ := h; rfl
theorem len_Book_has_kinds (h : sp_Book_has_kinds K vs H Q E) : vs.length = 3 := by obtain ⟨_, _, _, _, _, _, _, rfl, _⟩ := h; rfl
theorem len_Book_depth (h : sp_Book_depth K vs H Q E) : vs.length = 2 := by obtain ⟨_, _, _, _, rfl, _⟩ := h; rfl
theorem len_Book_is_content (h : sp_Book_is_content K vs H Q E) : vs.length = 2 := by obtain ⟨_, _, _, _, _, rfl, _⟩ := h; rfl
theorem len_Book_give_next (h : sp_Book_give_next K vs H Q E) : vs.length = 2 := by obtain ⟨_, _, _, _, _, rfl, _⟩ := h; rfl
theorem len_Book_named (h : sp_Book_named K vs H Q E) : vs.length = 2 := by obtain ⟨_, _, _, _, _, rfl, _⟩ := h; rfl
end
section
variable [HasW]
abbrev N_Book_init : List Str := ["self"]
def t_Book_init (K : PySem.W.Frag) : TS := (tSeq (sFld K (tVar 0) (tLst tNil) "contents")
    (tSeq (sFld K (tVar 0) (tLst tNil) "depths")
    (sFld K (tVar 0) tNNew "given")))
abbrev N_Book_is_name : List Str := ["self", "thing"]
def t_Book_is_name (K : PySem.W.Frag) : TS := (tRet (tAndV (tCall (sp_is_intI K) [] E0 (tCons (tVar 1) tNil)) (tChain rLeI rLtI (tC (.int 0)) (tVar 1) (tCB (fLen K) (tCons (tFld K (tVar 0) "contents") tNil)))))
abbrev N_Book_has_kinds : List Str := ["self", "names", "kinds", "name"]
def t_Book_has_kinds (K : PySem.W.Frag) : TS := (tRet (tCB (rAll K) (tCons (tLc (iOr (iList K (tVar 1)) (iTup K (tVar 1))) (gName 3) tYes (tAndV (tMeth (He.ga K "Book") "is_name" (sp_Book_is_name K) [] E0 (tVar 0) (tCons (tVar 3) tNil)) (tOp (rIn K false) (tOp (rIx K) (tOp (rIx K) (tFld K (tVar 0) "contents") (tVar 3)) (tC (.int 0))) (tVar 2))) [3]) tNil)))
abbrev N_Book_depth : List Str := ["self", "content", "label", "part"]
def t_Book_depth (K : PySem.W.Frag) : TS := (tSeq (tIfS (tTest (tOp rNe (tOp (rIx K) (tVar 1) (tC (.int 0))) (tC (.str "tree")))) (tRet (tC (.int 0))) tNext)
    (tRet (tOp rAddI (tC (.int 1)) (tCKw (rMaxD0 K) (tCons (tLc (iTup K (tOp (rIx K) (tVar 1) (tC (.int 1)))) (gTup K 2 (gCons (gName 2) (gCons (gName 3) gNil))) tYes (tOp (rIx K) (tFld K (tVar 0) "depths") (tVar 3)) [2, 3]) tNil) (tCons (tC (.int 0)) tNil)))))
abbrev N_Book_is_content : List Str := ["self", "thing", "label", "part"]
def t_Book_is_content (K : PySem.W.Frag) : TS := (tSeq (tIfS (tNot (tB (tCall (sp_is_content_form K) [] E0 (tCons (tVar 1) tNil)))) (tRet (tC (.bl false))) tNext)
    (tSeq (tIfS (tTest (tOp rEq (tOp (rIx K) (tVar 1) (tC (.int 0))) (tC (.str "tree")))) (tRet (tAndV (tMeth (He.ga K "Book") "has_kinds" (sp_Book_has_kinds K) [] E0 (tVar 0) (tCons (tLc (iTup K (tOp (rIx K) (tVar 1) (tC (.int 1)))) (gTup K 2 (gCons (gName 2) (gCons (gName 3) gNil))) tYes (tVar 3) [2, 3]) (tCons (tTup (tCons (tC (.str "leaf")) (tCons (tC (.str "tree")) tNil))) tNil))) (tOp rLeI (tMeth (He.ga K "Book") "depth" (sp_Book_depth K) [] E0 (tVar 0) (tCons (tVar 1) tNil)) (tC (.int 8))))) tNext)
    (tSeq (tIfS (tTest (tOp rEq (tOp (rIx K) (tVar 1) (tC (.int 0))) (tC (.str "version")))) (tRet (tAndV (tMeth (He.ga K "Book") "has_kinds" (sp_Book_has_kinds K) [] E0 (tVar 0) (tCons (tOp (rIx K) (tVar 1) (tC (.int 1))) (tCons (tTup (tCons (tC (.str "version")) tNil)) tNil))) (tMeth (He.ga K "Book") "has_kinds" (sp_Book_has_kinds K) [] E0 (tVar 0) (tCons (tLst (tCons (tOp (rIx K) (tVar 1) (tC (.int 2))) tNil)) (tCons (tTup (tCons (tC (.str "tree")) tNil)) tNil))))) tNext)
    (tRet (tC (.bl true))))))
abbrev N_Book_give_next : List Str := ["self", "content"]
def t_Book_give_next (K : PySem.W.Frag) : TS := (tSeq (tIfS (tTest (tOp rGeI (tCB (fLen K) (tCons (tFld K (tVar 0) "contents") tNil)) (tC (.int 400)))) tNever tNext)
    (tSeq (sNPut (tFld K (tVar 0) "given") (tVar 1) (tCB (fLen K) (tCons (tFld K (tVar 0) "contents") tNil)))
    (tSeq (tDrop (tBM K "list" rAppend (tFld K (tVar 0) "depths") (tCons (tMeth (He.ga K "Book") "depth" (sp_Book_depth K) [] E0 (tVar 0) (tCons (tVar 1) tNil)) tNil)))
    (tDrop (tBM K "list" rAppend (tFld K (tVar 0) "contents") (tCons (tVar 1) tNil))))))
abbrev N_Book_named : List Str := ["self", "content"]
def t_Book_named (K : PySem.W.Frag) : TS := (tSeq (tIfS (tNot (tB (tMeth (He.ga K "Book") "is_content" (sp_Book_is_content K) [] E0 (tVar 0) (tCons (tVar 1) tNil)))) tNever tNext)
    (tSeq (tIfS (tB (tNNotIn (tVar 1) (tFld K (tVar 0) "given"))) (tDrop (tMeth (He.ga K "Book") "give_next" (sp_Book_give_next K) [] E0 (tVar 0) (tCons (tVar 1) tNil))) tNext)
    (tRet (tNGet (tFld K (tVar 0) "given") (tVar 1)))))
end
theorem strN {x y : Str} (h : x ≠ y) : decide (V.str x = V.str y) = false := decide_eq_false fun e => h (by injection e)
theorem eqV_str (x y : Str) : eqV (.str x) (.str y) = (y == x) := by
  show (x == y) = (y == x)
  by_cases h : x = y
  · rw [h]
  · rw [beq_eq_false_iff_ne.mpr h, beq_eq_false_iff_ne.mpr fun e => h e.symm]
theorem inV_strs (w : Str) : ∀ ns : List Str, inV (.str w) (ns.map V.str) = ns.contains w
  | [] => rfl
  | n :: r => by
    have ih := inV_strs w r
    unfold inV at ih ⊢
    rw [List.map_cons, List.any_cons, ih, List.contains_cons, eqV_str]
theorem flat_strs : ∀ ns : List Str, (ns.map V.str).all flatV = true
  | [] => rfl
  | n :: r => by rw [List.map_cons, List.all_cons, flat_strs r]; rfl
theorem CtAt.fst {K : PySem.W.Frag} {H : Hp} {a : Addr} {c : Ct} {Q : VK} (h : CtAt H a c) (q : Q (.str c.word) H) : rIx K (.ref a) (.int 0) H Q := by
  cases c with
  | leaf rows => obtain ⟨r, h1, h2⟩ := h; exact ixT h1 rfl q
  | tree es => obtain ⟨r, as, h1, h2⟩ := h; exact ixT h1 rfl q
  | ver ps r s => obtain ⟨r, h1, h2⟩ := h; exact ixT h1 rfl q
theorem BkAt.lenC [HasW] {K : PySem.W.Frag} {H : Hp} {b : BkA} {cs : List Ct} {as : List Addr} {Q : VK} {σ : L2.St} {i : Nat} (k : BkAt K H b cs as) (e : σ[i]? = some (some (.ref b.B))) (q : Q (.int (cs.length : Nat)) H) : tCB (fLen K) (tCons (tFld K (tVar i) "contents") tNil) σ H Q :=
  k.fL e (show tNil σ H fun ys H2 => fLen K (.ref b.L :: ys) H2 Q from lenL k.hL (by rw [List.length_map, k.at_.1]; exact q))
theorem dmax_eq (l : List Int) : dmax l = maxD 0 l := by cases l <;> rfl
theorem BO.fE {K : PySem.W.Frag} {H : Hp} {b : BkA} {Q : VK} {σ : L2.St} {i : Nat} (bc : BkC K) (o : BO K H b) (e : σ[i]? = some (some (.ref b.B))) (q : Q (.ref b.E) H) : tFld K (tVar i) "depths" σ H Q := by
  obtain ⟨dx, fs, hx, h1, h2, h3, h4⟩ := o
  exact ⟨_, e, b.B, _, dx, fs, _, rfl, hx, bc.cl, bc.n2, h2, q⟩
theorem BO.fL {K : PySem.W.Frag} {H : Hp} {b : BkA} {Q : VK} {σ : L2.St} {i : Nat} (bc : BkC K) (o : BO K H b) (e : σ[i]? = some (some (.ref b.B))) (q : Q (.ref b.L) H) : tFld K (tVar i) "contents" σ H Q := by
  obtain ⟨dx, fs, hx, h1, h2, h3, h4⟩ := o
  exact ⟨_, e, b.B, _, dx, fs, _, rfl, hx, bc.cl, bc.n1, h1, q⟩
theorem BO.me {K : PySem.W.Frag} {H : Hp} {b : BkA} {Q : VK} {σ : L2.St} {i : Nat} {m : Str} {sp : Sp} {E : XK} {ta : TA} (o : BO K H b) (hm : m ∈ (["named", "name_of", "thing", "kind", "parts", "parents", "root", "stamp", "entries", "leaf_rows", "is_name", "is_version", "is_content", "has_kinds", "depth", "give_next"] : List Str)) (e : σ[i]? = some (some (.ref b.B))) (q : ta σ H fun vs H2 => sp (.ref b.B :: (vs ++ [])) H2 Q E) : tMeth (He.ga K "Book") m sp [] E (tVar i) ta σ H Q := by
  obtain ⟨dx, fs, hx, h1, h2, h3, h4⟩ := o
  exact ⟨_, e, b.B, dx, fs, rfl, hx, h4 m hm, q⟩
theorem ints_all : ∀ (ns : List Int) (p : Int → Bool), ((ns.map fun n => p n).all id) = ns.all p
  | [], _ => rfl
  | n :: ns, p => by rw [List.map_cons, List.all_cons, List.all_cons, ints_all ns p]; rfl
section
variable [HasW] {K : PySem.W.Frag} {vs : List V} {H : Hp} {Q : VK} {E : XK}
theorem pure_Book_init (h : sp_Book_init K vs H Q E) : t_Book_init K { nx := fun _ H' => Q .non H', rt := Q } (start N_Book_init vs) H := by
  obtain ⟨x, dx, rfl, bc, hx, k⟩ := h
  refine ⟨by decide, fun L nL => ?_⟩
  have nxL : x ≠ L := ne_of_none hx nL
  refine ⟨_, rfl, x, _, dx, _, rfl, updN nxL hx, bc.cl, bc.n1, by decide, ?_⟩
  refine ⟨by decide, fun E0 nE => ?_⟩
  have nE0 : H E0 = none := by
    by_cases e : E0 = x
    · rw [e, updS] at nE; cases nE
    · rw [upd_ne e] at nE
      by_cases e2 : E0 = L
      · rw [e2, updS] at nE; cases nE
      · rw [upd_ne e2] at nE; exact nE
  have nxE : x ≠ E0 := ne_of_none hx nE0
  have nLE : L ≠ E0 := by
    intro e
    rw [← e, updN nxL.symm updS] at nE
    cases nE
  refine ⟨_, rfl, x, _, dx, _, rfl, updN nxE updS, bc.cl, bc.n2, by show (1 : Nat) < 1000; decide, ?_⟩
  refine fun G nG => ?_
  have nxG : x ≠ G := by intro e; rw [← e, updS] at nG; cases nG
  have nEG : E0 ≠ G := by intro e; rw [← e, updN nxE.symm updS] at nG; cases nG
  have nLG : L ≠ G := by intro e; rw [← e, updN nxL.symm (updN nLE (updN nxL.symm updS))] at nG; cases nG
  have nG0 : H G = none := by
    rw [upd_ne nxG.symm, upd_ne nEG.symm, upd_ne nxG.symm, upd_ne nLG.symm] at nG
    exact nG
  refine ⟨_, rfl, x, _, dx, _, rfl, updN nxG updS, bc.cl, bc.n3, by show (2 : Nat) < 1000; decide, ?_⟩
  refine k ⟨x, L, E0, G⟩ _ rfl (fun a o e n => updN n (updN (ne_of_none e nG0) (updN n (updN (ne_of_none e nE0) (updN n (updN (ne_of_none e nL) e)))))) nL nE0 nG0 ?_
  refine ⟨bc, ⟨dx, _, updS, rfl, rfl, rfl, ?_⟩, updN nxL.symm (updN nLG (updN nxL.symm (updN nLE (updN nxL.symm updS)))), updN nxE.symm (updN nEG (updN nxE.symm updS)), updN nxG.symm updS, CsAt.nil, List.nodup_nil, Nat.zero_le _, (fun c h => nomatch h), nLE⟩
  intro m hm
  simp only [List.mem_cons, List.not_mem_nil, or_false] at hm
  rcases hm with rfl | rfl | rfl | rfl | rfl | rfl | rfl | rfl | rfl | rfl | rfl | rfl | rfl | rfl | rfl | rfl <;> rfl
theorem pure_Book_is_name (h : sp_Book_is_name K vs H Q E) : t_Book_is_name K { nx := fun _ H' => Q .non H', rt := Q } (start N_Book_is_name vs) H := by
  obtain ⟨b, cs, as, i, rfl, bk, k⟩ := h
  refine ⟨_, rfl, i, rfl, _, rfl, iteT ⟨_, rfl, _, _, rfl, rfl, _, rfl, ?_⟩⟩
  by_cases h : (0 : Int) ≤ i
  · rw [decide_eq_true h] at k ⊢
    exact iteT (bk.lenC rfl ⟨_, _, rfl, rfl, k⟩)
  · rw [decide_eq_false h] at k ⊢
    exact iteF k
theorem pure_Book_has_kinds (h : sp_Book_has_kinds K vs H Q E) : t_Book_has_kinds K { nx := fun _ H' => Q .non H', rt := Q } (start N_Book_has_kinds vs) H := by
  obtain ⟨b, cs, as, n, q, ns, ks, rfl, bk, hn, hz, hq, k⟩ := h
  have step : ∀ (i : Nat) (x y : V) (H' : Hp) (R : VK), (ns.map V.int)[i]? = some x → (ns.map fun i => V.bl (hasK cs ks i))[i]? = some y → Same H H' → (∀ H'', Same H' H'' → R y H'') →
      tAndV (tMeth (He.ga K "Book") "is_name" (sp_Book_is_name K) [] E0 (tVar 0) (tCons (tVar 3) tNil)) (tOp (rIn K false) (tOp (rIx K) (tOp (rIx K) (tFld K (tVar 0) "contents") (tVar 3)) (tC (.int 0))) (tVar 2)) [some (.ref b.B), some (.ref n), some (.ref q), some x] H' R := by
    intro i x y H' R hx hy s r
    rw [List.getElem?_map] at hx hy
    cases e : ns[i]? with
    | none => rw [e] at hx; cases hx
    | some j =>
      rw [e] at hx hy
      cases Option.some.inj hx
      cases Option.some.inj hy
      have bk' := bk.same s
      refine bk'.me (by decide) rfl ⟨_, rfl, b, cs, as, j, rfl, bk', _, rfl, ?_⟩
      have r : ∀ H'', Same H' H'' → R (.bl (hasK cs ks j)) H'' := r
      unfold hasK at r
      by_cases h0 : (0 : Int) ≤ j
      · by_cases h1 : j < (cs.length : Nat)
        · rw [decide_eq_true h0, decide_eq_true h1] at r ⊢
          obtain ⟨m, rfl⟩ := Int.eq_ofNat_of_zero_le h0
          have hm : m < cs.length := by omega
          obtain ⟨a, ha, hc⟩ := bk'.at_.get (List.getElem?_eq_getElem hm)
          obtain ⟨dx, fs, hx, hf1, _⟩ := id bk'.bo
          refine iteT ⟨_, rfl, b.B, _, dx, fs, _, rfl, hx, bk.bc.cl, bk.bc.n1, hf1, _, rfl, ixL bk'.hL (atI_nat (by rw [List.getElem?_map, ha]; rfl)) (hc.fst ⟨_, rfl, q, _, rfl, .inr (sqT (s _ _ hq)), rfl, flat_strs _, ?_⟩)⟩
          rw [inV_strs]
          have e2 : (cs.getD (Int.toNat (m : Int)) (.leaf [])) = cs[m] := by
            rw [Int.toNat_natCast, List.getD_eq_getElem?_getD, List.getElem?_eq_getElem hm]
            rfl
          rw [e2] at r
          exact r _ (Same.refl _)
        · rw [decide_eq_true h0, decide_eq_false h1] at r ⊢
          exact iteF (r _ (Same.refl _))
      · rw [decide_eq_false h0] at r ⊢
        exact iteF (r _ (Same.refl _))
  have fin : ∀ (H' : Hp) (L : Addr), Same H H' → H' L = some (.lst (ns.map fun i => V.bl (hasK cs ks i))) → rAll K [V.ref L] H' Q := fun H' L s hL => by
    refine ⟨L, ns.map (hasK cs ks), rfl, sqL (by rw [hL, List.map_map]; rfl), ?_⟩
    rw [show (ns.map (hasK cs ks)).all id = ns.all (hasK cs ks) from ints_all ns _]
    exact k _ s
  rcases hn with hn | hn
  · refine .inl ⟨_, rfl, n, rfl, ⟨_, sqL hn⟩, fun L nL => ?_⟩
    refine lc_grow (walk_list (xs := ns.map V.int)) yAt (ys := ns.map fun i => V.bl (hasK cs ks i)) nL (by rw [List.length_map, List.length_map]) (by rw [List.length_map]; omega) (fun H' s => sqL (s _ _ hn)) ?_ ?_
    · rintro i x y H' R hi ⟨_, hx⟩ hy s r
      exact ⟨rfl, step i x y H' R hx hy s r⟩
    · intro H' s hL
      exact fin H' L s hL
  · refine .inr ⟨_, rfl, n, rfl, ⟨_, sqT hn⟩, fun L nL => ?_⟩
    refine lc_grow (walk_tup (xs := ns.map V.int)) yAt (ys := ns.map fun i => V.bl (hasK cs ks i)) nL (by rw [List.length_map, List.length_map]) (by rw [List.length_map]; omega) (fun H' s => sqT (s _ _ hn)) ?_ ?_
    · rintro i x y H' R hi ⟨_, hx⟩ hy s r
      exact ⟨rfl, step i x y H' R hx hy s r⟩
    · intro H' s hL
      exact fin H' L s hL
theorem pure_Book_depth (h : sp_Book_depth K vs H Q E) : t_Book_depth K { nx := fun _ H' => Q .non H', rt := Q } (start N_Book_depth vs) H := by
  obtain ⟨b, ds, a, c, rfl, bc, bo, hE, hc, fo, hp, k⟩ := h
  refine ⟨_, rfl, hc.fst ⟨rfl, _, rfl, ?_⟩⟩
  cases c with
  | leaf rows =>
    rw [show decide (V.str (Ct.leaf rows).word = V.str "tree") = false from strN wv_lt]
    exact iteT (k _ (Same.refl _))
  | ver ps r s =>
    rw [show decide (V.str (Ct.ver ps r s).word = V.str "tree") = false from strN wv_tv.symm]
    exact iteT (k _ (Same.refl _))
  | tree es =>
    obtain ⟨r, bs, h1, h2, h3, h4⟩ := hc
    have hz : es.length ≤ 20 := fo.1
    rw [show decide (V.str (Ct.tree es).word = V.str "tree") = true from decide_eq_true rfl]
    refine iteF ⟨_, rfl, ixT h1 rfl ⟨r, rfl, ⟨_, sqT h2⟩, fun L nL => ?_⟩⟩
    refine lc_pairs (ys := es.map fun e => V.int (ds.getD e.2.toNat 0)) nL h2 h3 (by omega) (by rw [List.length_map]) h4 ?_ ?_
    · intro n e y H' R he hy s q
      rw [List.getElem?_map, he] at hy
      cases Option.some.inj hy
      obtain ⟨p0, p1⟩ := hp es rfl e (List.mem_of_getElem? he)
      obtain ⟨m, hm⟩ := Int.eq_ofNat_of_zero_le p0
      rw [hm, Int.toNat_natCast] at p1
      have bo' : BO K H' b := by
        obtain ⟨dx, fs, hb, r⟩ := bo
        exact ⟨dx, fs, s _ _ hb, r⟩
      refine ⟨rfl, bo'.fE bc rfl ⟨_, rfl, ?_⟩⟩
      rw [hm]
      refine ixL (s _ _ hE) (atI_nat (by rw [List.getElem?_map, List.getElem?_eq_getElem p1]; rfl)) ?_
      have : R (.int (ds.getD e.2.toNat 0)) H' := q _ (Same.refl _)
      rw [hm, Int.toNat_natCast, List.getD_eq_getElem?_getD, List.getElem?_eq_getElem p1] at this
      exact this
    · intro H' s hL
      refine ⟨L, es.map fun e => ds.getD e.2.toNat 0, 0, rfl, rfl, sqL (by rw [hL, List.map_map]; rfl), _, _, rfl, rfl, ?_⟩
      rw [← dmax_eq]
      exact k _ s
theorem pure_Book_is_content (h : sp_Book_is_content K vs H Q E) : t_Book_is_content K { nx := fun _ H' => Q .non H', rt := Q } (start N_Book_is_content vs) H := by
  obtain ⟨b, cs, as, a, c, rfl, bk, hc, fo, k⟩ := h
  refine ⟨_, rfl, a, c, rfl, hc, fo, fun H1 s1 => ⟨_, rfl, iteF ?_⟩⟩
  have bk1 := bk.same s1
  have hc1 := hc.mono (TM.of s1)
  refine ⟨_, rfl, hc1.fst ⟨rfl, _, rfl, ?_⟩⟩
  cases c with
  | leaf rows =>
    rw [show decide (V.str (Ct.leaf rows).word = V.str "tree") = false from strN wv_lt]
    refine iteF ⟨_, rfl, hc1.fst ⟨rfl, _, rfl, ?_⟩⟩
    rw [show decide (V.str (Ct.leaf rows).word = V.str "version") = false from strN wv_lv]
    exact iteF (k _ s1)
  | tree es =>
    obtain ⟨r, bs, h1, h2, h3, h4⟩ := id hc1
    have hz : es.length ≤ 20 := fo.1
    rw [show decide (V.str (Ct.tree es).word = V.str "tree") = true from decide_eq_true rfl]
    refine iteT (bk1.me (by decide) rfl ⟨_, rfl, ixT h1 rfl ⟨r, rfl, ⟨_, sqT h2⟩, fun L nL => ?_⟩⟩)
    refine lc_pairs (ys := es.map fun e => V.int e.2) nL h2 h3 (by omega) (by rw [List.length_map]) h4 ?_ ?_
    · intro n e y H' R he hy s q
      rw [List.getElem?_map, he] at hy
      cases Option.some.inj hy
      exact ⟨rfl, _, rfl, q _ (Same.refl _)⟩
    · intro H2 s2 hL
      refine ⟨by show (2 : Nat) ≤ sizeLine; decide, fun T nT => ?_⟩
      have s3 : Same H1 (upd H2 T (.tup [.str "leaf", .str "tree"])) := s2.trans (samN nT)
      have bk3 := bk1.same s3
      refine ⟨b, cs, as, L, T, es.map (·.2), ["leaf", "tree"], rfl, bk3, .inl (samN nT _ _ (by rw [hL, List.map_map]; rfl)), by rw [List.length_map]; omega, updS, fun H4 s4 => ⟨_, rfl, ?_⟩⟩
      have s5 := s3.trans s4
      have bk5 := bk1.same s5
      have eA : (es.map (·.2)).all (hasK cs ["leaf", "tree"]) = es.all fun e => hasK cs ["leaf", "tree"] e.2 := by rw [List.all_map]; rfl
      have kk : ∀ H', Same H H' → Q (.bl (es.all (fun e => hasK cs ["leaf", "tree"] e.2) && decide (depOf (deps cs) (.tree es) ≤ 8))) H' := k
      rw [eA]
      cases hA : es.all (fun e => hasK cs ["leaf", "tree"] e.2) with
      | false =>
        refine iteF ?_
        have := kk _ (s1.trans s5)
        rw [hA] at this
        exact this
      | true =>
        refine iteT (bk5.bo.me (by decide) rfl ⟨_, rfl, b, deps cs, a, .tree es, rfl, bk5.bc, bk5.bo, bk5.hE, hc1.mono (TM.of s5), fo, fun es' e' e he => ?_, fun H6 s6 => ⟨_, _, rfl, rfl, ?_⟩⟩)
        · cases e'
          have := hasK_lt (List.all_eq_true.mp hA e he)
          rw [deps_len]
          exact this
        · have := kk _ (s1.trans (s5.trans s6))
          rw [hA] at this
          exact this
  | ver ps r s =>
    obtain ⟨p, h1, h2⟩ := id hc1
    have hz : ps.length ≤ 4 := fo.1
    rw [show decide (V.str (Ct.ver ps r s).word = V.str "tree") = false from strN wv_tv.symm]
    refine iteF ⟨_, rfl, hc1.fst ⟨rfl, _, rfl, ?_⟩⟩
    rw [show decide (V.str (Ct.ver ps r s).word = V.str "version") = true from decide_eq_true rfl]
    refine iteT (bk1.me (by decide) rfl ⟨_, rfl, ixT h1 rfl ⟨by show (1 : Nat) ≤ sizeLine; decide, fun T nT => ?_⟩⟩)
    have s2 : Same H1 (upd H1 T (.tup [.str "version"])) := samN nT
    have bk2 := bk1.same s2
    refine ⟨b, cs, as, p, T, ps, ["version"], rfl, bk2, .inr (s2 _ _ h2), by omega, updS, fun H3 s3 => ⟨_, rfl, ?_⟩⟩
    have s13 := s2.trans s3
    have bk3 := bk1.same s13
    have kk : ∀ H', Same H H' → Q (.bl (ps.all (hasK cs ["version"]) && hasK cs ["tree"] r)) H' := k
    cases hA : ps.all (hasK cs ["version"]) with
    | false =>
      refine iteF ?_
      have := kk _ (s1.trans s13)
      rw [hA] at this
      exact this
    | true =>
      refine iteT (bk3.me (by decide) rfl ⟨_, rfl, ixT (s13 _ _ h1) rfl ⟨by show (1 : Nat) ≤ sizeLine; decide, fun L nL => ⟨by show (1 : Nat) ≤ sizeLine; decide, fun T2 nT2 => ?_⟩⟩⟩)
      have s4 : Same H3 (upd (upd H3 L (.lst [.int r])) T2 (.tup [.str "tree"])) := (samN nL).trans (samN nT2)
      have bk4 := bk3.same s4
      refine ⟨b, cs, as, L, T2, [r], ["tree"], rfl, bk4, .inl (samN nT2 _ _ updS), by show (1 : Nat) ≤ 1000; decide, updS, fun H5 s5 => ?_⟩
      have := kk _ (s1.trans (s13.trans (s4.trans s5)))
      rw [hA] at this
      rw [List.all_cons, List.all_nil, Bool.and_true]
      exact this
theorem pure_Book_give_next (h : sp_Book_give_next K vs H Q E) : t_Book_give_next K { nx := fun _ H' => Q .non H', rt := Q } (start N_Book_give_next vs) H := by
  obtain ⟨b, cs, as, a, c, rfl, bk, hc, fo, inb, new, few, k⟩ := h
  refine bk.lenC rfl ⟨_, _, rfl, rfl, _, rfl, ?_⟩
  rw [decide_eq_false (show ¬ (400 : Int) ≤ ((cs.length : Nat) : Int) by omega)]
  refine iteF ?_
  refine bk.lenC (σ := [some (.ref b.B), some (.ref a)]) (i := 0) rfl ?_
  refine bk.fG (σ := [some (.ref b.B), some (.ref a)]) (i := 0) rfl ⟨_, rfl, b.G, _, rfl, ⟨ents 0 cs as, c.key, a, bk.hG, ents_keys 0 cs as bk.at_, rfl, hc.nkey, c.depth, ?_, rfl⟩, ?_⟩
  · exact Nat.lt_of_le_of_lt (Nat.le_trans (ents_len 0 cs as) bk.few) (by decide)
  rw [nPut_new (ents_none 0 cs as new)]
  have eS := ents_snoc 0 cs as c a bk.at_.1
  rw [Nat.zero_add] at eS
  rw [← eS]
  have kb1 : Kb b H (upd H b.G (ND b.G (ents 0 (cs ++ [c]) (as ++ [a])))) := Kb.refl.up (.inr (.inr rfl))
  have tm1 : TM H (upd H b.G (ND b.G (ents 0 (cs ++ [c]) (as ++ [a])))) := bk.tup kb1
  have bo1 := bk.boK kb1
  have hL1 : upd H b.G (ND b.G (ents 0 (cs ++ [c]) (as ++ [a]))) b.L = some (.lst (as.map V.ref)) := updN bk.neG.1 bk.hL
  have hE1 : upd H b.G (ND b.G (ents 0 (cs ++ [c]) (as ++ [a]))) b.E = some (.lst ((deps cs).map V.int)) := updN bk.neG.2 bk.hE
  have hG1 : upd H b.G (ND b.G (ents 0 (cs ++ [c]) (as ++ [a]))) b.G = some (ND b.G (ents 0 (cs ++ [c]) (as ++ [a]))) := updS
  generalize upd H b.G (ND b.G (ents 0 (cs ++ [c]) (as ++ [a]))) = H1 at kb1 tm1 bo1 hL1 hE1 hG1 ⊢
  obtain ⟨dx1, fs1, hx1, _, hf2, _, hf4⟩ := id bo1
  refine ⟨_, rfl, b.B, _, dx1, fs1, _, rfl, hx1, bk.bc.cl, bk.bc.n2, hf2, .inl ⟨rfl, _, sqL hE1⟩, _, rfl, b.B, dx1, fs1, rfl, hx1, hf4 "depth" (by decide), ⟨_, rfl, b, deps cs, a, c, rfl, bk.bc, bo1, hE1, hc.mono tm1, fo, fun es e' e he => ?_, fun H2 s2 => ?_⟩⟩
  · subst e'
    unfold Ct.inB at inb
    rw [Bool.and_eq_true] at inb
    have := hasK_lt (List.all_eq_true.mp inb.1 e he)
    rw [deps_len]
    exact this
  have lenD : ((deps cs).map V.int).length < sizeLine := by
    rw [List.length_map, deps_len]
    exact Nat.lt_of_le_of_lt bk.few (by decide)
  refine ⟨b.E, _, _, rfl, rfl, s2 _ _ hE1, lenD, ?_⟩
  have kb3 : Kb b H (upd H2 b.E (.lst ((deps cs).map V.int ++ [.int (depOf (deps cs) c)]))) := (kb1.trans (.same s2)).up (.inr (.inl rfl))
  have bo3 := bk.boK kb3
  obtain ⟨dx3, fs3, hx3, hg1, _⟩ := id bo3
  refine ⟨_, rfl, b.B, _, dx3, fs3, _, rfl, hx3, bk.bc.cl, bk.bc.n1, hg1, .inl ⟨rfl, _, sqL (updN bk.ne (s2 _ _ hL1))⟩, _, rfl, b.L, _, _, rfl, rfl, updN bk.ne (s2 _ _ hL1), ?_, ?_⟩
  · rw [List.length_map, bk.at_.1]
    exact Nat.lt_of_le_of_lt bk.few (by decide)
  have kb4 : Kb b H (upd (upd H2 b.E (.lst ((deps cs).map V.int ++ [.int (depOf (deps cs) c)]))) b.L (.lst (as.map V.ref ++ [.ref a]))) := kb3.up (.inl rfl)
  refine k _ kb4 ⟨bk.bc, bk.boK kb4, ?_, ?_, ?_, (bk.at_.mono (bk.tup kb4)).snoc (hc.mono (bk.tup kb4)), ?_, ?_, ?_, bk.ne⟩
  · rw [updS, List.map_append]
    rfl
  · rw [upd_ne bk.ne.symm, updS, deps_snoc, List.map_append]
    rfl
  · exact updN bk.neG.1.symm (updN bk.neG.2.symm (s2 _ _ hG1))
  · rw [List.nodup_append]
    exact ⟨bk.nd, by simp, fun x hx y hy e => new (by rw [List.mem_singleton.mp hy] at e; rw [← e]; exact hx)⟩
  · rw [List.length_append, List.length_singleton]
    omega
  · intro d hd
    rcases List.mem_append.mp hd with hd | hd
    · exact ⟨(bk.ok d hd).1, Ct.inB_mono (bk.ok d hd).2⟩
    · cases List.mem_singleton.mp hd
      exact ⟨fo, Ct.inB_mono inb⟩
theorem pure_Book_named (h : sp_Book_named K vs H Q E) : t_Book_named K { nx := fun _ H' => Q .non H', rt := Q } (start N_Book_named vs) H := by
  obtain ⟨b, cs, as, a, c, rfl, bk, hc, fo, inb, few, k1, k2⟩ := h
  refine bk.me (by decide) rfl ⟨_, rfl, b, cs, as, a, c, rfl, bk, hc, fo, fun H1 s1 => ⟨_, rfl, ?_⟩⟩
  rw [inb]
  have bk1 := bk.same s1
  have hc1 := hc.mono (TM.of s1)
  refine iteF ⟨_, rfl, bk1.fG rfl ⟨b.G, _, rfl, ⟨_, c.key, a, bk1.hG, ents_keys 0 cs as bk1.at_, rfl, hc1.nkey, c.depth, rfl⟩, _, rfl, ?_⟩⟩
  by_cases hm : c ∈ cs
  · obtain ⟨i, hi⟩ := List.mem_iff_getElem?.mp hm
    have e := ents_some 0 cs as bk.at_.1 bk.nd hi
    rw [e]
    refine iteF ?_
    show tNGet (tFld K (tVar 0) "given") (tVar 1) [some (.ref b.B), some (.ref a)] H1 Q
    refine bk1.fG rfl ⟨_, rfl, b.G, _, rfl, ⟨_, c.key, a, bk1.hG, ents_keys 0 cs as bk1.at_, rfl, hc1.nkey, c.depth, e.symm⟩, ?_⟩
    rw [Nat.zero_add]
    exact k1 i _ hi s1
  · rw [ents_none 0 cs as hm]
    refine iteT (bk1.me (by decide) rfl ⟨_, rfl, b, cs, as, a, c, rfl, bk1, hc1, fo, inb, hm, few hm, fun H2 kb2 bk2 => ?_⟩)
    have hc2 := hc1.mono (bk1.tup kb2)
    have e := ents_some 0 (cs ++ [c]) (as ++ [a]) bk2.at_.1 bk2.nd (i := cs.length) (c := c) (by rw [List.getElem?_append_right (Nat.le_refl _), Nat.sub_self]; rfl)
    show tNGet (tFld K (tVar 0) "given") (tVar 1) [some (.ref b.B), some (.ref a)] H2 Q
    refine bk2.fG rfl ⟨_, rfl, b.G, _, rfl, ⟨_, c.key, a, bk2.hG, ents_keys 0 _ _ bk2.at_, rfl, hc2.nkey, c.depth, e.symm⟩, ?_⟩
    rw [Nat.zero_add]
    exact k2 hm _ (Kb.trans (.same s1) kb2) bk2
end
end Fw
set_option Elab.async false
set_option linter.all false
set_option maxRecDepth 100000
set_option maxHeartbeats 4000000
namespace Fw
open PySem L2 RZ RT
abbrev enD (e : Str × Int) : PyData := .tuple [.str e.1, .int e.2]
def Ct.data : Ct → PyData
  | .leaf rows => .tuple [.str "leaf", .tuple (rows.map PyData.str)]
  | .tree es => .tuple [.str "tree", .tuple (es.map enD)]
  | .ver ps r s => .tuple [.str "version", .tuple (ps.map PyData.int), .int r, .int s]
theorem dp_strsC {K : PySem.W.Frag} {H : Hp} : ∀ zs : List Str, DpAll K H (zs.map V.str) (zs.map PyData.str)
  | [] => .nil
  | z :: zs => .cons (.str z) (dp_strsC zs)
theorem dp_entsC {K : PySem.W.Frag} {H : Hp} : ∀ (as : List Addr) (es : List (Str × Int)), as.length = es.length → (∀ (i : Nat) (b : Addr) (e : Str × Int), as[i]? = some b → es[i]? = some e → H b = some (.tup [.str e.1, .int e.2])) → DpAll K H (as.map V.ref) (es.map enD)
  | [], [], _, _ => .nil
  | [], _ :: _, h, _ => by simp at h
  | _ :: _, [], h, _ => by simp at h
  | a :: as, e :: es, h, f => .cons (.tup (sqT (f 0 a e rfl rfl)) (.cons (.str _) (.cons (.int _) .nil))) (dp_entsC as es (by simpa using h) fun i b e' h1 h2 => f (i + 1) b e' (by simpa using h1) (by simpa using h2))
theorem CtAt.dp {K : PySem.W.Frag} {H : Hp} {a : Addr} {c : Ct} (h : CtAt H a c) : Dp K H (.ref a) c.data := by
  cases c with
  | leaf rows =>
    obtain ⟨r, h1, h2⟩ := h
    exact .tup (sqT h1) (.cons (.str _) (.cons (.tup (sqT h2) (dp_strsC rows)) .nil))
  | tree es =>
    obtain ⟨r, as, h1, h2, h3, h4⟩ := h
    exact .tup (sqT h1) (.cons (.str _) (.cons (.tup (sqT h2) (dp_entsC as es h3 h4)) .nil))
  | ver ps r s =>
    obtain ⟨r, h1, h2⟩ := h
    exact .tup (sqT h1) (.cons (.str _) (.cons (.tup (sqT h2) (dp_intsD ps)) (.cons (.int _) (.cons (.int _) .nil))))
theorem dp_contents {K : PySem.W.Frag} {H : Hp} : ∀ (as : List Addr) (cs : List Ct), CsAt H as cs → DpAll K H (as.map V.ref) (cs.map Ct.data)
  | [], [], _ => .nil
  | [], _ :: _, h => by have := h.1; simp at this
  | _ :: _, [], h => by have := h.1; simp at this
  | a :: as, c :: cs, h => .cons (h.2 0 a c rfl rfl).dp (dp_contents as cs ⟨by simpa using h.1, fun i b d h1 h2 => h.2 (i + 1) b d (by simpa using h1) (by simpa using h2)⟩)
theorem okS_str {z : Str} (h : ∀ c ∈ z.cps.toList, c ≤ 126) : PyData.strOk z = true := by
  unfold PyData.strOk
  rw [← Array.all_toList, List.all_eq_true]
  intro c hc
  have := h c hc
  exact decide_eq_true (by omega)
theorem lay_strs : ∀ zs : List Str, (∀ z ∈ zs, PyData.strOk z = true) → PyData.canLayAll0 (zs.map PyData.str) = true
  | [], _ => rfl
  | z :: zs, h => by
    show (PyData.strOk z && PyData.canLayAll0 (zs.map PyData.str)) = true
    rw [h z List.mem_cons_self, lay_strs zs fun y hy => h y (List.mem_cons_of_mem _ hy)]
    rfl
theorem lay_ents : ∀ es : List (Str × Int), (∀ e ∈ es, PyData.strOk e.1 = true) → PyData.canLayAll0 (es.map enD) = true
  | [], _ => rfl
  | e :: es, h => by
    show ((PyData.strOk e.1 && true) && PyData.canLayAll0 (es.map enD)) = true
    rw [h e List.mem_cons_self, lay_ents es fun y hy => h y (List.mem_cons_of_mem _ hy)]
    rfl
theorem lay_intsC : ∀ ns : List Int, PyData.canLayAll0 (ns.map PyData.int) = true
  | [] => rfl
  | _ :: ns => lay_intsC ns
theorem dep_flatC {f : α → PyData} (h : ∀ a, (f a).depth ≤ 1) : ∀ l : List α, PyData.depthAll (l.map f) ≤ 1
  | [] => Nat.zero_le _
  | a :: l => by
    show max (PyData.depth (f a)) (PyData.depthAll (l.map f)) ≤ 1
    have := h a
    have := dep_flatC h l
    omega
theorem Ct.form_lay {c : Ct} (h : c.form) : c.data.canLay0 = true := by
  cases c with
  | leaf rows =>
    show (PyData.strOk "leaf" && (PyData.canLayAll0 (rows.map PyData.str) && true)) = true
    rw [lay_strs rows fun z hz => okS_str fun c hc => ((h.2 z hz).2 c hc).2.1]
    decide +kernel
  | tree es =>
    show (PyData.strOk "tree" && (PyData.canLayAll0 (es.map enD) && true)) = true
    rw [lay_ents es fun e he => okS_str fun c hc => Nat.le_trans ((h.2.1 e he).2.2 c hc).2 (by decide)]
    decide +kernel
  | ver ps r s =>
    show (PyData.strOk "version" && (PyData.canLayAll0 (ps.map PyData.int) && true)) = true
    rw [lay_intsC]
    decide +kernel
theorem Ct.data_depth (c : Ct) : c.data.depth ≤ 3 := by
  cases c with
  | leaf rows =>
    have := dep_flatC (f := PyData.str) (fun z => by show (0 : Nat) ≤ 1; decide) rows
    show max 0 (max (PyData.depthAll (rows.map PyData.str) + 1) 0) + 1 ≤ 3
    omega
  | tree es =>
    have := dep_flatC (f := enD) (fun z => by show max 0 (max 0 0) + 1 ≤ 1; decide) es
    show max 0 (max (PyData.depthAll (es.map enD) + 1) 0) + 1 ≤ 3
    omega
  | ver ps r s =>
    have := dep_flatC (f := PyData.int) (fun z => by show (0 : Nat) ≤ 1; decide) ps
    show max 0 (max (PyData.depthAll (ps.map PyData.int) + 1) (max 0 (max 0 0))) + 1 ≤ 3
    omega
theorem Ct.shaped {c : Ct} (h : c.form) : SeqAt.shaped c.data = true := by
  have := c.data_depth
  show (c.data.canLay0 && decide (c.data.depth ≤ 64)) = true
  rw [Ct.form_lay h, decide_eq_true (show c.data.depth ≤ 64 by omega)]
  rfl
theorem lay_contents : ∀ cs : List Ct, (∀ c ∈ cs, c.form) → PyData.canLayAll0 (cs.map Ct.data) = true
  | [], _ => rfl
  | c :: cs, h => by
    show (c.data.canLay0 && PyData.canLayAll0 (cs.map Ct.data)) = true
    rw [Ct.form_lay (h c List.mem_cons_self), lay_contents cs fun y hy => h y (List.mem_cons_of_mem _ hy)]
    rfl
theorem dep_contents : ∀ cs : List Ct, PyData.depthAll (cs.map Ct.data) ≤ 3
  | [] => Nat.zero_le _
  | c :: cs => by
    show max c.data.depth (PyData.depthAll (cs.map Ct.data)) ≤ 3
    have := c.data_depth
    have := dep_contents cs
    omega
theorem shaped_contents {cs : List Ct} (h : ∀ c ∈ cs, c.form) : SeqAt.shaped (.list (cs.map Ct.data)) = true := by
  have := dep_contents cs
  show (PyData.canLayAll0 (cs.map Ct.data) && decide (PyData.depthAll (cs.map Ct.data) + 1 ≤ 64)) = true
  rw [lay_contents cs h, decide_eq_true (by omega)]
  rfl
theorem eqv_strs : ∀ a b : List Str, PyData.eqvAll (a.map PyData.str) (b.map PyData.str) = decide (a = b)
  | [], [] => rfl
  | [], _ :: _ => rfl
  | _ :: _, [] => rfl
  | x :: a, y :: b => by
    show (x == y && PyData.eqvAll (a.map PyData.str) (b.map PyData.str)) = _
    rw [eqv_strs a b]
    by_cases h : x = y
    · by_cases h2 : a = b
      · simp [h, h2]
      · simp [h, h2]
    · simp [h]
theorem eqv_intsC : ∀ a b : List Int, PyData.eqvAll (a.map PyData.int) (b.map PyData.int) = decide (a = b)
  | [], [] => rfl
  | [], _ :: _ => rfl
  | _ :: _, [] => rfl
  | x :: a, y :: b => by
    show (x == y && PyData.eqvAll (a.map PyData.int) (b.map PyData.int)) = _
    rw [eqv_intsC a b]
    by_cases h : x = y
    · by_cases h2 : a = b
      · simp [h, h2]
      · simp [h, h2]
    · simp [h]
theorem eqv_ents : ∀ a b : List (Str × Int), PyData.eqvAll (a.map enD) (b.map enD) = decide (a = b)
  | [], [] => rfl
  | [], _ :: _ => rfl
  | _ :: _, [] => rfl
  | x :: a, y :: b => by
    show ((x.1 == y.1 && (x.2 == y.2 && true)) && PyData.eqvAll (a.map enD) (b.map enD)) = _
    rw [eqv_ents a b]
    obtain ⟨x1, x2⟩ := x
    obtain ⟨y1, y2⟩ := y
    by_cases h : x1 = y1
    · by_cases h2 : x2 = y2
      · by_cases h3 : a = b
        · simp [h, h2, h3]
        · simp [h, h2, h3]
      · simp [h, h2]
    · simp [h]
theorem eqv_hd {x y : Str} (h : x ≠ y) (xs ys : List PyData) : PyData.eqv (.tuple (.str x :: xs)) (.tuple (.str y :: ys)) = false := by
  show (x == y && PyData.eqvAll xs ys) = false
  rw [beq_eq_false_iff_ne.mpr h]
  rfl
theorem Ct.eqv (c d : Ct) : PyData.eqv c.data d.data = decide (c = d) := by
  cases c with
  | leaf a =>
    cases d with
    | leaf b =>
      show (("leaf" : Str) == "leaf" && (PyData.eqvAll (a.map PyData.str) (b.map PyData.str) && true)) = _
      rw [eqv_strs]
      simp
    | tree b => rw [decide_eq_false (by simp)]; exact eqv_hd wv_lt _ _
    | ver p r s => rw [decide_eq_false (by simp)]; exact eqv_hd wv_lv _ _
  | tree a =>
    cases d with
    | tree b =>
      show (("tree" : Str) == "tree" && (PyData.eqvAll (a.map enD) (b.map enD) && true)) = _
      rw [eqv_ents]
      simp
    | leaf b => rw [decide_eq_false (by simp)]; exact eqv_hd wv_lt.symm _ _
    | ver p r s => rw [decide_eq_false (by simp)]; exact eqv_hd wv_tv _ _
  | ver p r s =>
    cases d with
    | ver p2 r2 s2 =>
      show (("version" : Str) == "version" && (PyData.eqvAll (p.map PyData.int) (p2.map PyData.int) && (r == r2 && (s == s2 && true)))) = _
      rw [eqv_intsC]
      by_cases h1 : p = p2 <;> by_cases h2 : r = r2 <;> by_cases h3 : s = s2 <;> simp [h1, h2, h3]
    | leaf b => rw [decide_eq_false (by simp)]; exact eqv_hd wv_lv.symm _ _
    | tree b => rw [decide_eq_false (by simp)]; exact eqv_hd wv_tv.symm _ _
theorem units65b {k : Nat} {A : Around} (r : Room k A) : A.units + 65 < cLine := by have := r.un; omega
end Fw
set_option Elab.async false
set_option linter.all false
set_option maxRecDepth 100000
set_option maxHeartbeats 4000000
namespace Fw
open PySem L2 RZ RT
def sp_l_label (_ : PySem.W.Frag) : Sp := fun vs H Q _ => ∃ (c D : Addr) (ns : List Int) (t : Nat), vs = [.ref D] ∧ Dk c D ns t H ∧ t + 10 < 1000000000 ∧
  ∀ (z : Str) (H' : Hp), OkLab z → Kp D H H' → Dk c D ns (t + 10) H' → Q (.str z) H'
def sp_l_give (_ : PySem.W.Frag) : Sp := fun vs H Q _ => ∃ (T a : Addr) (as : List Addr) (cs : List Ct) (c : Ct), vs = [.ref T, .ref a] ∧ H T = some (.lst (as.map V.ref)) ∧ CsAt H as cs ∧ CtAt H a c ∧ c.form ∧ (∀ d ∈ cs, d.form) ∧ cs.Nodup ∧ cs.length ≤ 1000 ∧
  (∀ i : Nat, cs[i]? = some c → Q (.int (i : Int)) H) ∧ (c ∉ cs → Q (.int (cs.length : Nat)) (upd H T (.lst ((as ++ [a]).map V.ref))))
def sp_l_some (_ : PySem.W.Frag) : Sp := fun vs H Q _ => ∃ (c D w : Addr) (ns ls : List Int) (t : Nat) (most : Int), vs = [.ref D, .ref w, .int most] ∧ Dk c D ns t H ∧ H w = some (.lst (ls.map V.int)) ∧ w ≠ D ∧ ls.length ≤ 1000 ∧ 0 ≤ most ∧ most ≤ 40 ∧ t + 40 < 1000000000 ∧
  ∀ (r : Addr) (ys : List Int) (H' : Hp), H' r = some (.tup (ys.map V.int)) → ys.Pairwise (· < ·) → (∀ y ∈ ys, y ∈ ls) → (ys.length : Int) ≤ most → Kp D H H' → Dk c D ns (t + 40) H' → Q (.ref r) H'
section
variable {K : PySem.W.Frag} {vs : List V} {H : Hp} {Q : VK} {E : XK}
theorem len_l_label (h : sp_l_label K vs H Q E) : vs.length = 1 := by obtain ⟨_, _, _, _, rfl, _⟩ := h; rfl
theorem len_l_give (h : sp_l_give K vs H Q E) : vs.length = 2 := by obtain ⟨_, _, _, _, _, rfl, _⟩ := h; rfl
theorem len_l_some (h : sp_l_some K vs H Q E) : vs.length = 3 := by obtain ⟨_, _, _, _, _, _, _, rfl, _⟩ := h; rfl
end
abbrev N_l_label : List Str := ["_law_deck_here", "_law_letters", "_law_k"]
def t_l_label_long (K : PySem.W.Frag) : TS := (tSeq (tAsg (tC (.str "abcdefghijklmnopqrstuvwxyz")) (gName 1))
    (tRet (tM1 (fJoin K) (tC (.str "")) (tLc (iRng1 (tCons (tOp rAddI (tC (.int 1)) (tCall (sp_l_draw K) [] E0 (tCons (tVar 0) (tCons (tC (.int 8)) tNil)))) tNil)) (gName 2) tYes (tOp (rIx K) (tVar 1) (tCall (sp_l_draw K) [] E0 (tCons (tVar 0) (tCons (tC (.int 26)) tNil)))) [2]))))
def t_l_label (K : PySem.W.Frag) : TS := (tSeq (tIfS (tTest (tOp rGtI (tCall (sp_l_draw K) [] E0 (tCons (tVar 0) (tCons (tC (.int 3)) tNil))) (tC (.int 0)))) (tRet (tOp (rIx K) (tC (.str "abcd")) (tCall (sp_l_draw K) [] E0 (tCons (tVar 0) (tCons (tC (.int 4)) tNil))))) tNext)
    (t_l_label_long K))
abbrev N_l_give : List Str := ["_law_things", "_law_content"]
def t_l_give (K : PySem.W.Frag) : TS := (tSeq (tIfS (tTest (tOp (rInD K) (tVar 1) (tVar 0))) (tRet (tBM K "list" (rIndexD K) (tVar 0) (tCons (tVar 1) tNil))) tNext)
    (tSeq (tDrop (tBM K "list" rAppend (tVar 0) (tCons (tVar 1) tNil)))
    (tRet (tOp rSubI (tCB (fLen K) (tCons (tVar 0) tNil)) (tC (.int 1))))))
abbrev N_l_some : List Str := ["_law_deck_here", "_law_names", "_law_most", "_law_some_here", "_law_k"]
def t_l_some (K : PySem.W.Frag) : TS := (tSeq (tAsg (tLst tNil) (gName 3))
    (tSeq (tFor (iRng1 (tCons (tCB fMin2 (tCons (tVar 2) (tCons (tCB (fLen K) (tCons (tVar 1) tNil)) tNil))) tNil)) (gName 4) (tDrop (tBM K "list" rAppend (tVar 3) (tCons (tOp (rIx K) (tVar 1) (tCall (sp_l_draw K) [] E0 (tCons (tVar 0) (tCons (tCB (fLen K) (tCons (tVar 1) tNil)) tNil)))) tNil))))
    (tRet (tCB (fTupleOf K) (tCons (tSortSet K (tVar 3)) tNil)))))
theorem okLab1 {c : Nat} (h1 : 97 ≤ c) (h2 : c ≤ 122) : OkLab ⟨#[c]⟩ := ⟨Nat.le_refl _, by show (1 : Nat) ≤ 8; decide, fun x hx => by
  have : x = c := by simpa using hx
  rw [this]
  exact ⟨h1, h2⟩⟩
theorem abcd_ok : ∀ x ∈ ("abcd" : Str).cps.toList, 97 ≤ x ∧ x ≤ 122 := by
  have h : (("abcd" : Str).cps.toList.all fun x => decide (97 ≤ x) && decide (x ≤ 122)) = true := by decide +kernel
  intro x hx
  have := List.all_eq_true.mp h x hx
  simpa using this
theorem az_ok : ∀ x ∈ ("abcdefghijklmnopqrstuvwxyz" : Str).cps.toList, 97 ≤ x ∧ x ≤ 122 := by
  have h : (("abcdefghijklmnopqrstuvwxyz" : Str).cps.toList.all fun x => decide (97 ≤ x) && decide (x ≤ 122)) = true := by decide +kernel
  intro x hx
  have := List.all_eq_true.mp h x hx
  simpa using this
theorem az_len : ("abcdefghijklmnopqrstuvwxyz" : Str).cps.toList.length = 26 := by decide +kernel
theorem abcd_len : ("abcd" : Str).cps.toList.length = 4 := by decide +kernel
section
variable {K : PySem.W.Frag} {vs : List V} {H : Hp} {Q : VK} {E : XK}
theorem pure_l_label (h : sp_l_label K vs H Q E) : t_l_label K { nx := fun _ H' => Q .non H', rt := Q } (start N_l_label vs) H := by
  obtain ⟨c, D, ns, t, rfl, dk, ht, k⟩ := h
  refine ⟨_, rfl, c, D, ns, t, 3, rfl, dk, by omega, by decide, by decide, fun v H1 v0 v1 d1 fr1 => ⟨_, _, rfl, rfl, _, rfl, ite2 (fun _ => ?_) (fun _ => ?_)⟩⟩
  · refine ⟨_, rfl, c, D, ns, _, 4, rfl, d1, by omega, by decide, by decide, fun v2 H2 w0 w1 d2 fr2 => ?_⟩
    obtain ⟨j, rfl⟩ := Int.eq_ofNat_of_zero_le w0
    have hj : j < ("abcd" : Str).cps.toList.length := by rw [abcd_len]; omega
    have ho := abcd_ok _ (List.getElem_mem hj)
    refine ixS (by decide +kernel) (atI_nat (List.getElem?_eq_getElem hj)) (k _ _ (okLab1 ho.1 ho.2) ((Kp.fr fr1).trans (.fr fr2)) (d2.le (by omega)))
  · show t_l_label_long K { nx := fun _ H' => Q .non H', rt := Q } [some (.ref D), none, none] H1
    refine ⟨⟨_, rfl⟩, _, rfl, c, D, ns, _, 8, rfl, d1, by omega, by decide, by decide, fun n H2 n0 n1 d2 fr2 => ⟨_, _, rfl, rfl, _, rfl, by omega, by omega, fun L nL => ?_⟩⟩
    refine lc_deck (walk_range (lo := 0) (n := (1 + n).toNat)) yFn (fun x : Nat => V.str ⟨#[x]⟩) (fun x => 97 ≤ x ∧ x ≤ 122) 1 nL d2 (by omega) ?_ ?_
    · intro i x H3 R hi kp d3 r
      refine ⟨rfl, ⟨_, rfl, _, rfl, c, D, ns, _, 26, rfl, d3, by omega, by decide, by decide, fun v H4 v0 v1 d4 fr4 => ?_⟩⟩
      obtain ⟨j, rfl⟩ := Int.eq_ofNat_of_zero_le v0
      have hj : j < ("abcdefghijklmnopqrstuvwxyz" : Str).cps.toList.length := by rw [az_len]; omega
      exact ixS (by decide +kernel) (atI_nat (List.getElem?_eq_getElem hj)) (r _ _ (az_ok _ (List.getElem_mem hj)) (.fr fr4) d4)
    · intro ys H3 hl hp kp d3 hL
      have hlen : ys.length = (1 + n).toNat := hl
      refine ⟨_, L, (ys.map fun c => (⟨#[c]⟩ : Str)), rfl, rfl, .inl (sqL (by rw [hL, List.map_map]; rfl)), ?_, ?_⟩
      · rw [sum_ones, List.length_map]
        show ys.length + ys.length * 0 ≤ _
        omega
      · rw [join_chars]
        refine k _ _ ⟨?_, ?_, ?_⟩ ((Kp.fr fr1).trans ((Kp.fr fr2).trans kp)) (d3.le (by omega))
        · show 1 ≤ ys.toArray.size
          rw [List.size_toArray]
          omega
        · show ys.toArray.size ≤ 8
          rw [List.size_toArray]
          omega
        · intro x hx
          exact hp x (by simpa using hx)
theorem pure_l_give (h : sp_l_give K vs H Q E) : t_l_give K { nx := fun _ H' => Q .non H', rt := Q } (start N_l_give vs) H := by
  obtain ⟨T, a, as, cs, c, rfl, hT, hcs, hc, fo, fos, nd, few, k1, k2⟩ := h
  have any : ((cs.map Ct.data).any fun z => PyData.eqv z c.data) = decide (c ∈ cs) := by
    rw [List.any_map]
    by_cases h : c ∈ cs
    · rw [decide_eq_true h, List.any_eq_true]
      exact ⟨c, h, by show PyData.eqv c.data c.data = true; rw [Ct.eqv, decide_eq_true rfl]⟩
    · rw [decide_eq_false h, List.any_eq_false]
      intro d hd
      show ¬ PyData.eqv d.data c.data = true
      rw [Ct.eqv, decide_eq_true_eq]
      exact fun e => h (by rw [← e]; exact hd)
  refine ⟨_, rfl, _, rfl, c.data, cs.map Ct.data, hc.dp, .lst (sqL hT) (dp_contents as cs hcs), Ct.shaped fo, shaped_contents fos, _, rfl, ?_⟩
  rw [any]
  by_cases h : c ∈ cs
  · rw [decide_eq_true h]
    obtain ⟨i, hi⟩ := List.mem_iff_getElem?.mp h
    refine iteT ⟨_, rfl, .inl ⟨rfl, _, sqL hT⟩, _, rfl, T, .ref a, c.data, cs.map Ct.data, i, c.data, rfl, rfl, .lst (sqL hT) (dp_contents as cs hcs), hc.dp, shaped_contents fos, Ct.shaped fo, by rw [List.getElem?_map, hi]; rfl, by rw [Ct.eqv, decide_eq_true rfl], fun m z hm hz => ?_, k1 i hi⟩
    rw [List.getElem?_map] at hz
    cases e : cs[m]? with
    | none => rw [e] at hz; cases hz
    | some d =>
      rw [e] at hz
      cases Option.some.inj hz
      rw [Ct.eqv, decide_eq_false]
      rintro rfl
      have := (List.getElem?_inj (List.getElem?_eq_some_iff.mp e).1 nd).mp (e.trans hi.symm)
      omega
  · rw [decide_eq_false h]
    refine iteF ⟨_, rfl, .inl ⟨rfl, _, sqL hT⟩, _, rfl, T, _, _, rfl, rfl, hT, ?_, ?_⟩
    · rw [List.length_map, hcs.1]
      exact Nat.lt_of_le_of_lt few (by decide)
    · refine ⟨_, rfl, lenL updS ⟨_, _, rfl, rfl, ?_⟩⟩
      have := k2 h
      rw [List.map_append] at this
      rw [List.length_append, List.length_map, hcs.1]
      show Q (.int (((cs.length + 1 : Nat) : Int) - 1)) _
      rw [show (((cs.length + 1 : Nat) : Int) - 1) = ((cs.length : Nat) : Int) from by omega]
      exact this
/-- all but the deck and L stands -/
def Kp2 (D L : Addr) (H H' : Hp) : Prop := ∀ b o, H b = some o → b ≠ D → b ≠ L → H' b = some o
theorem Kp2.refl {D L : Addr} {H : Hp} : Kp2 D L H H := fun _ _ h _ _ => h
theorem Kp2.trans {D L : Addr} {H H1 H2 : Hp} (a : Kp2 D L H H1) (b : Kp2 D L H1 H2) : Kp2 D L H H2 := fun x o h h1 h2 => b x o (a x o h h1 h2) h1 h2
theorem Kp2.kp {D L : Addr} {H H' : Hp} (k : Kp D H H') : Kp2 D L H H' := fun b o h h1 _ => k b o h h1
theorem Kp2.up {D L : Addr} {H H' : Hp} {o : HO} (k : Kp2 D L H H') : Kp2 D L H (upd H' L o) := fun b u h h1 h2 => updN h2 (k b u h h1 h2)
theorem pure_l_some (h : sp_l_some K vs H Q E) : t_l_some K { nx := fun _ H' => Q .non H', rt := Q } (start N_l_some vs) H := by
  obtain ⟨c, D, w, ns, ls, t, most, rfl, dk, hw, nwD, few, m0, m1, ht, k⟩ := h
  refine ⟨by decide, fun L nL => ?_⟩
  have nLD := dk.neD nL
  have nLc := dk.neC nL
  have nwL : w ≠ L := ne_of_none hw nL
  refine ⟨_, rfl, _, rfl, lenL (updN nwL hw) ⟨_, _, rfl, ?_⟩⟩
  have hn : ∃ n : Nat, (if ((ls.map V.int).length : Int) < most then ((ls.map V.int).length : Int) else most) = (n : Int) ∧ (n : Int) ≤ most ∧ (n ≤ ls.length) := by
    rw [List.length_map]
    by_cases h : (ls.length : Int) < most
    · rw [if_pos h]; exact ⟨ls.length, rfl, by omega, by omega⟩
    · rw [if_neg h]; exact ⟨most.toNat, by omega, by omega, by omega⟩
  obtain ⟨n, en, n1, n2⟩ := hn
  rw [en]
  refine ⟨_, rfl, by omega, by omega, ?_⟩
  refine for_range (lo := 0) (n := (n : Int).toNat) (fun i σ H' => Kp2 D L H H' ∧ Dk c D ns (t + i) H' ∧ (∃ xs : List Int, H' L = some (.lst (xs.map V.int)) ∧ (∀ x ∈ xs, x ∈ ls) ∧ xs.length = i) ∧ ∃ z, σ = [some (.ref D), some (.ref w), some (.int most), some (.ref L), z]) ⟨Kp2.kp (Kp.new nL), dk.upd nLc nLD, ⟨[], updS, (fun e h => nomatch h), rfl⟩, _, rfl⟩ ?_ ?_
  · rintro i σ H' hi ⟨kp, d, ⟨xs, hL, hx, hl⟩, z, rfl⟩
    have hw' := kp _ _ hw nwD nwL
    refine ⟨_, rfl, .inl ⟨rfl, _, sqL hL⟩, _, rfl, _, rfl, _, rfl, lenL hw' ⟨c, D, ns, _, _, rfl, d, by omega, by rw [List.length_map]; omega, by rw [List.length_map]; exact small100 (by omega), fun v H2 v0 v1 d2 fr2 => ?_⟩⟩
    rw [List.length_map] at v1
    obtain ⟨j, rfl⟩ := Int.eq_ofNat_of_zero_le v0
    have hj : j < ls.length := by omega
    refine ixL (by rw [fr2 _ nwD]; exact hw') (atI_nat (by rw [List.getElem?_map, List.getElem?_eq_getElem hj]; rfl)) ⟨L, _, _, rfl, rfl, by rw [fr2 _ nLD]; exact hL, ?_, ?_⟩
    · rw [List.length_map]
      exact Nat.lt_of_le_of_lt (show _ ≤ 1000 by omega) (by decide)
    · refine ⟨Kp2.up (kp.trans (Kp2.kp (.fr fr2))), (d2.upd nLc nLD).le (by omega), ⟨xs ++ [ls[j]], by rw [updS, List.map_append]; rfl, fun x hx2 => ?_, by rw [List.length_append, hl]; rfl⟩, _, rfl⟩
      rcases List.mem_append.mp hx2 with h | h
      · exact hx x h
      · rw [List.mem_singleton.mp h]; exact List.getElem_mem hj
  · rintro σ H' ⟨kp, d, ⟨xs, hL, hx, hl⟩, z, rfl⟩
    refine ⟨_, rfl, L, xs, rfl, sqL hL, by omega, fun ys q p u nq np inc mem len => ?_⟩
    have s1 : Same H' (upd (upd H' q u) p (.lst (ys.map V.int))) := (samN nq).trans (samN np)
    refine ⟨p, _, rfl, .inl ⟨sqL updS, fun r nr => ?_⟩⟩
    have s2 := s1.trans (samN (o := .tup (ys.map V.int)) nr)
    have d2 : Dk c D ns (t + (n : Int).toNat) (upd (upd (upd H' q u) p (.lst (ys.map V.int))) r (.tup (ys.map V.int))) := by
      obtain ⟨x1, x2, x3, i, m, u, x4, r⟩ := d
      exact ⟨x1, s2 _ _ x2, x3, i, m, u, s2 _ _ x4, r⟩
    exact k r ys _ updS inc (fun y hy => hx y ((mem y).mp hy)) (by omega) (fun b o h h1 => s2 b o (kp b o h h1 (ne_of_none h nL))) (d2.le (by omega))
end
end Fw
set_option Elab.async false
set_option linter.all false
set_option maxRecDepth 100000
set_option maxHeartbeats 4000000
namespace Fw
open PySem L2 RZ RT
def addC (cs : List Ct) (c : Ct) : List Ct := if c ∈ cs then cs else cs ++ [c]
structure FamOk (cs : List Ct) : Prop where
  nd : cs.Nodup
  form : ∀ c ∈ cs, c.form
  inb : ∀ (i : Nat) (c : Ct), cs[i]? = some c → c.inB (cs.take i) = true
theorem FamOk.nil : FamOk [] := ⟨List.nodup_nil, (fun c h => nomatch h), (fun i c h => by cases h)⟩
theorem FamOk.add {cs : List Ct} {c : Ct} (f : FamOk cs) (fo : c.form) (inb : c.inB cs = true) : FamOk (addC cs c) := by
  unfold addC
  by_cases h : c ∈ cs
  · rw [if_pos h]; exact f
  · rw [if_neg h]
    refine ⟨?_, fun d hd => ?_, fun i d hd => ?_⟩
    · rw [List.nodup_append]
      exact ⟨f.nd, by simp, fun x hx y hy e => h (by rw [List.mem_singleton.mp hy] at e; rw [← e]; exact hx)⟩
    · rcases List.mem_append.mp hd with hd | hd
      · exact f.form d hd
      · rw [List.mem_singleton.mp hd]; exact fo
    · by_cases hi : i < cs.length
      · rw [List.getElem?_append_left hi] at hd
        rw [List.take_append_of_le_length (Nat.le_of_lt hi)]
        exact f.inb i d hd
      · have hi2 := (List.getElem?_eq_some_iff.mp hd).1
        rw [List.length_append, List.length_singleton] at hi2
        have e : i = cs.length := by omega
        subst e
        rw [List.getElem?_append_right (Nat.le_refl _), Nat.sub_self] at hd
        cases Option.some.inj hd
        rw [List.take_append_of_le_length (Nat.le_refl _), List.take_length]
        exact inb
theorem addC_len (cs : List Ct) (c : Ct) : (addC cs c).length ≤ cs.length + 1 := by
  unfold addC
  split
  · omega
  · rw [List.length_append]; exact Nat.le_refl _
theorem hasK_at {cs : List Ct} {c : Ct} {ks : List Str} {i : Nat} (h : cs[i]? = some c) (hk : ks.contains c.word = true) : hasK cs ks (i : Int) = true := by
  unfold hasK
  have hi := (List.getElem?_eq_some_iff.mp h).1
  rw [decide_eq_true (show (0 : Int) ≤ (i : Int) by omega), decide_eq_true (show (i : Int) < (cs.length : Int) by omega), Int.toNat_natCast, List.getD_eq_getElem?_getD, h]
  exact hk
def isTree : Ct → Bool
  | .tree _ => true
  | _ => false
theorem foldl_max_le : ∀ (l : List Int) (x m : Int), x ≤ m → (∀ y ∈ l, y ≤ m) → l.foldl max x ≤ m
  | [], _, _, h, _ => h
  | y :: l, x, m, h, hl => by
    rw [List.foldl_cons]
    exact foldl_max_le l _ m (Int.max_le.mpr ⟨h, hl y List.mem_cons_self⟩) fun z hz => hl z (List.mem_cons_of_mem _ hz)
theorem dmax_le {l : List Int} {m : Int} (h0 : 0 ≤ m) (h : ∀ y ∈ l, y ≤ m) : dmax l ≤ m := by
  cases l with
  | nil => exact h0
  | cons x l => exact foldl_max_le l x m (h x List.mem_cons_self) fun y hy => h y (List.mem_cons_of_mem _ hy)
theorem depOf_le {ds : List Int} {c : Ct} {m : Int} (h0 : 0 ≤ m) (h : ∀ d ∈ ds, d ≤ m) : depOf ds c ≤ 1 + m := by
  cases c with
  | leaf rows => show (0 : Int) ≤ 1 + m; omega
  | ver ps r s => show (0 : Int) ≤ 1 + m; omega
  | tree es =>
    show 1 + dmax _ ≤ 1 + m
    have := dmax_le (l := es.map fun e => ds.getD e.2.toNat 0) h0 fun y hy => by
      obtain ⟨e, _, rfl⟩ := List.mem_map.mp hy
      rw [List.getD_eq_getElem?_getD]
      cases q : ds[e.2.toNat]? with
      | none => exact h0
      | some z => exact h z (List.mem_of_getElem? q)
    omega
theorem deps_bd : ∀ (more cs : List Ct), (∀ d ∈ deps cs, d ≤ (cs.countP isTree : Int)) → ∀ d ∈ deps (cs ++ more), d ≤ ((cs ++ more).countP isTree : Int)
  | [], cs, h => by rw [List.append_nil]; exact h
  | c :: more, cs, h => by
    have := deps_bd more (cs ++ [c]) fun d hd => by
      rw [deps_snoc] at hd
      rw [List.countP_append]
      rcases List.mem_append.mp hd with hd | hd
      · have := h d hd
        omega
      · rw [List.mem_singleton.mp hd]
        cases c with
        | leaf rows => show (0 : Int) ≤ _; omega
        | ver ps r s => show (0 : Int) ≤ _; omega
        | tree es =>
          have h1 := depOf_le (ds := deps cs) (c := .tree es) (m := (cs.countP isTree : Int)) (by omega) h
          have h2 : [Ct.tree es].countP isTree = 1 := rfl
          rw [h2]
          omega
    rw [List.append_assoc] at this
    exact this
theorem deps_le (cs : List Ct) : ∀ d ∈ deps cs, d ≤ (cs.countP isTree : Int) := by
  have := deps_bd cs [] fun d h => nomatch h
  exact this
/-- a tree over what is there, in a book of few trees -/
theorem inB_tree {cs : List Ct} {es : List (Str × Int)} (h : ∀ e ∈ es, hasK cs ["leaf", "tree"] e.2 = true) (few : cs.countP isTree ≤ 7) : (Ct.tree es).inB cs = true := by
  unfold Ct.inB
  rw [Bool.and_eq_true]
  refine ⟨List.all_eq_true.mpr h, decide_eq_true ?_⟩
  have := depOf_le (ds := deps cs) (c := .tree es) (m := (cs.countP isTree : Int)) (by omega) (deps_le cs)
  omega
theorem give_ok {K : PySem.W.Frag} {H : Hp} {Q : VK} {E : XK} {T a : Addr} {as : List Addr} {cs : List Ct} {c : Ct} (hT : H T = some (.lst (as.map V.ref))) (hcs : CsAt H as cs) (hc : CtAt H a c) (fo : c.form) (f : FamOk cs) (few : cs.length ≤ 1000)
    (k : ∀ (i : Nat) (as' : List Addr) (H' : Hp), H' T = some (.lst (as'.map V.ref)) → CsAt H' as' (addC cs c) → (addC cs c)[i]? = some c → (∀ b, b ≠ T → H' b = H b) → Q (.int (i : Int)) H') : sp_l_give K [.ref T, .ref a] H Q E := by
  refine ⟨T, a, as, cs, c, rfl, hT, hcs, hc, fo, f.form, f.nd, few, fun i hi => ?_, fun hn => ?_⟩
  · have e : addC cs c = cs := if_pos (List.mem_of_getElem? hi)
    refine k i as H hT ?_ ?_ fun b _ => rfl
    · rw [e]; exact hcs
    · rw [e]; exact hi
  · have e : addC cs c = cs ++ [c] := if_neg hn
    have tm : TM H (upd H T (.lst ((as ++ [a]).map V.ref))) := fun b xs h => updN (ne_of h hT fun z => by cases z) h
    refine k cs.length (as ++ [a]) _ updS ?_ ?_ fun b nb => upd_ne nb
    · rw [e]; exact (hcs.mono tm).snoc (hc.mono tm)
    · rw [e, List.getElem?_append_right (Nat.le_refl _), Nat.sub_self]; rfl
/-- all but these stands -/
def Kf (F : List Addr) (H H' : Hp) : Prop := ∀ b o, H b = some o → b ∉ F → H' b = some o
theorem Kf.refl {F : List Addr} {H : Hp} : Kf F H H := fun _ _ h _ => h
theorem Kf.trans {F : List Addr} {H H1 H2 : Hp} (a : Kf F H H1) (b : Kf F H1 H2) : Kf F H H2 := fun x o h n => b x o (a x o h n) n
theorem Kf.kp {F : List Addr} {D : Addr} {H H' : Hp} (k : Kp D H H') (h : D ∈ F) : Kf F H H' := fun b o e n => k b o e fun z => n (by rw [z]; exact h)
theorem Kf.same {F : List Addr} {H H' : Hp} (k : Same H H') : Kf F H H' := fun b o e _ => k b o e
theorem Kf.but {F : List Addr} {T : Addr} {H H' : Hp} (k : ∀ b, b ≠ T → H' b = H b) (h : T ∈ F) : Kf F H H' := fun b o e n => (k b fun z => n (by rw [z]; exact h)).trans e
theorem Kf.up {F : List Addr} {T : Addr} {H H' : Hp} {o : HO} (k : Kf F H H') (h : T ∈ F) : Kf F H (upd H' T o) := fun b u e n => updN (fun z => n (by rw [z]; exact h)) (k b u e n)
theorem Kf.sub {F G : List Addr} {H H' : Hp} (k : Kf F H H') (h : ∀ x ∈ F, x ∈ G) : Kf G H H' := fun b o e n => k b o e fun z => n (h b z)
theorem Dk.but {c D T : Addr} {ns : List Int} {t : Nat} {H H' : Hp} (d : Dk c D ns t H) (k : ∀ b, b ≠ T → H' b = H b) (h1 : T ≠ c) (h2 : T ≠ D) : Dk c D ns t H' := by
  obtain ⟨a, b, e, i, n, u, hh, r⟩ := d
  exact ⟨a, (k _ h1.symm).trans b, e, i, n, u, (k _ h2.symm).trans hh, r⟩
theorem con1 {a : Str} : ([a] : List Str).contains a = true := by simp
theorem con2 {a b : Str} : ([a, b] : List Str).contains a = true := by simp
theorem con3 {a b : Str} : ([a, b] : List Str).contains b = true := by simp
end Fw
set_option Elab.async false
set_option linter.all false
set_option maxRecDepth 100000
set_option maxHeartbeats 4000000
namespace Fw
open PySem L2 RZ RT
theorem Ct.same {H : Hp} {a b : Addr} {c : Ct} (f : c.form) (x : CtAt H a c) (y : CtAt H b c) : SameV H 6 (.ref a) (.ref b) := by
  have st : ∀ {n : Nat} (z : Str), SameV H (n + 1) (.str z) (.str z) := fun z => Or.inl ⟨rfl, .inr (.inr (.inr ⟨z, rfl⟩))⟩
  cases c with
  | leaf rows =>
    obtain ⟨r, h1, h2⟩ := x
    obtain ⟨r', h3, h4⟩ := y
    refine SameV.tup h1 h3 rfl (by show (2 : Nat) ≤ 100000; decide) fun i u v hu hv => ?_
    match i, hu, hv with
    | 0, hu, hv => cases Option.some.inj hu; cases Option.some.inj hv; exact st _
    | 1, hu, hv =>
      cases Option.some.inj hu
      cases Option.some.inj hv
      exact SameV.tup h2 h4 rfl (by rw [List.length_map]; have := f.1; omega) SameV.strs
  | tree es =>
    obtain ⟨r, as, h1, h2, h3, h4⟩ := x
    obtain ⟨r', as', g1, g2, g3, g4⟩ := y
    have hz : es.length ≤ 20 := f.1
    refine SameV.tup h1 g1 rfl (by show (2 : Nat) ≤ 100000; decide) fun i u v hu hv => ?_
    match i, hu, hv with
    | 0, hu, hv => cases Option.some.inj hu; cases Option.some.inj hv; exact st _
    | 1, hu, hv =>
      cases Option.some.inj hu
      cases Option.some.inj hv
      refine SameV.tup h2 g2 (by rw [List.length_map, List.length_map, h3, g3]) (by rw [List.length_map]; omega) fun j u v hu hv => ?_
      rw [List.getElem?_map] at hu hv
      cases e1 : as[j]? with
      | none => rw [e1] at hu; cases hu
      | some p =>
        cases e2 : as'[j]? with
        | none => rw [e2] at hv; cases hv
        | some q =>
          rw [e1] at hu
          rw [e2] at hv
          cases Option.some.inj hu
          cases Option.some.inj hv
          have hj : j < es.length := by rw [← h3]; exact (List.getElem?_eq_some_iff.mp e1).1
          have ee : es[j]? = some es[j] := List.getElem?_eq_getElem hj
          refine SameV.tup (h4 j p _ e1 ee) (g4 j q _ e2 ee) rfl (by show (2 : Nat) ≤ 100000; decide) fun k u v hu hv => ?_
          match k, hu, hv with
          | 0, hu, hv => cases Option.some.inj hu; cases Option.some.inj hv; exact st _
          | 1, hu, hv => cases Option.some.inj hu; cases Option.some.inj hv; exact SameV.int rfl
  | ver ps r s =>
    obtain ⟨p, h1, h2⟩ := x
    obtain ⟨q, h3, h4⟩ := y
    refine SameV.tup h1 h3 rfl (by show (4 : Nat) ≤ 100000; decide) fun i u v hu hv => ?_
    match i, hu, hv with
    | 0, hu, hv => cases Option.some.inj hu; cases Option.some.inj hv; exact st _
    | 1, hu, hv =>
      cases Option.some.inj hu
      cases Option.some.inj hv
      exact SameV.tup h2 h4 rfl (by rw [List.length_map]; have := f.1; omega) SameV.ints
    | 2, hu, hv => cases Option.some.inj hu; cases Option.some.inj hv; exact SameV.int rfl
    | 3, hu, hv => cases Option.some.inj hu; cases Option.some.inj hv; exact SameV.int rfl
/-- what changes elsewhere -/
theorem BkAt.kf [HasW] {K : PySem.W.Frag} {H H' : Hp} {b : BkA} {cs : List Ct} {as F : List Addr} (k : BkAt K H b cs as) (x : Kf F H H') (h : ∀ y ∈ [b.B, b.L, b.E, b.G], y ∉ F) (ht : TM H H') : BkAt K H' b cs as := by
  obtain ⟨dx, fs, hB, r⟩ := k.bo
  exact ⟨k.bc, ⟨dx, fs, x _ _ hB (h _ (by simp)), r⟩, x _ _ k.hL (h _ (by simp)), x _ _ k.hE (h _ (by simp)), x _ _ k.hG (h _ (by simp)), k.at_.mono ht, k.nd, k.few, k.ok, k.ne⟩
theorem Kb.kf {b : BkA} {H H' : Hp} (k : Kb b H H') : Kf [b.L, b.E, b.G] H H' := fun a o h n => k a o h (fun z => n (by simp [z])) (fun z => n (by simp [z])) fun z => n (by simp [z])
theorem Kf.tm {F : List Addr} {H H' : Hp} (k : Kf F H H') (h : ∀ x ∈ F, ∀ ys, H x ≠ some (.tup ys)) : TM H H' := fun a xs e => k a _ e fun z => h a z xs e
end Fw
set_option Elab.async false
set_option linter.all false
set_option maxRecDepth 100000
set_option maxHeartbeats 4000000
namespace Fw
open PySem L2 RZ RT
abbrev nmD (ns : List Int) : List (Key × V) := ns.map fun n => ((Sum.inl n : Key), V.bl true)
theorem nmD_keys (ns : List Int) : (nmD ns).map (·.1) = ns.map Sum.inl := by
  rw [List.map_map]
  rfl
theorem nmD_val : ∀ (ns : List Int) (n : Int), valV (nmD ns) (.inl n) = if n ∈ ns then some (.bl true) else none
  | [], n => by rw [if_neg (by simp)]; rfl
  | m :: ns, n => by
    by_cases h : m = n
    · rw [show nmD (m :: ns) = ((Sum.inl m : Key), V.bl true) :: nmD ns from rfl, valV_pos (by rw [h]), if_pos (by rw [h]; exact List.mem_cons_self)]
    · have := nmD_val ns n
      have e : valV (nmD (m :: ns)) (.inl n) = valV (nmD ns) (.inl n) := by
        show ((((Sum.inl m : Key), V.bl true) :: nmD ns).find? fun kv => decide (kv.1 = Sum.inl n)).map (·.2) = _
        rw [List.find?_cons_of_neg (by simp; exact fun e => h e)]
        rfl
      rw [e, this]
      by_cases h2 : n ∈ ns
      · rw [if_pos h2, if_pos (List.mem_cons_of_mem _ h2)]
      · rw [if_neg h2, if_neg fun z => (List.mem_cons.mp z).elim (fun q => h q.symm) h2]
theorem nmD_some (ns : List Int) (n : Int) : (valV (nmD ns) (.inl n)).isSome = decide (n ∈ ns) := by
  rw [nmD_val]
  by_cases h : n ∈ ns
  · rw [if_pos h, decide_eq_true h]; rfl
  · rw [if_neg h, decide_eq_false h]; rfl
theorem nmD_put {ns : List Int} {n : Int} (h : n ∉ ns) : putK (nmD ns) (.inl n) (.bl true) = nmD (ns ++ [n]) := by
  unfold putK
  rw [if_neg]
  · show _ = (ns ++ [n]).map _
    rw [List.map_append]
    rfl
  · intro z
    obtain ⟨p, hp, e⟩ := List.any_eq_true.mp z
    obtain ⟨m, hm, rfl⟩ := List.mem_map.mp hp
    have e : (Sum.inl m : Key) = Sum.inl n := of_decide_eq_true e
    cases e
    exact h hm
/-- the ints of a walk that a test keeps -/
theorem lc_filt {J : It} {n : Nat} {G : Hp → Prop} {Y : Nat → Hp → V → Hp → Prop} {ns : List Int} (w : Walk J n G Y) (hY : ∀ i H x H', Y i H x H' → H' = H ∧ (ns.map V.int)[i]? = some x) {p : Int → Bool} {k : Nat} {tt : TT} {σ : L2.St} {H1 : Hp} {D : Addr} {Qd : Hp → Prop} (hk : k < σ.length)
    (hD : H1 D = none) (hl : ns.length = n) (hz : n ≤ 100000) (hG : ∀ H', Same H1 H' → G H')
    (hs : ∀ (v : Int) (H' : Hp) (R : Bool → Hp → Prop), v ∈ ns → Same H1 H' → (∀ H'', Same H' H'' → R (p v) H'') → tt ((wipe σ [k]).set k (some (.int v))) H' R)
    (hd : ∀ H', Same H1 H' → H' D = some (.lst ((ns.filter p).map V.int)) → Qd H') :
    ∃ W : Nat → Nat → Hp → Prop, (∃ m, W 0 m (L2.upd H1 D (.lst []))) ∧ ∀ i m H, W i m H →
      (J.stop i H ∧ Qd H) ∨ (J.go i H ∧ ∃ Nx : Hp → Prop, (∀ H', Nx H' → ∃ m', m' < m ∧ W (i + 1) m' H') ∧ ∀ x H', J.yld i H x H' → gName k x (wipe σ [k]) H' fun σ2 H2 => wipe σ2 [k] = wipe σ [k] ∧ tt σ2 H2 fun b H3 =>
        if b = true then tVar k σ2 H3 fun y H4 => ∃ acc, H4 D = some (.lst acc) ∧ acc.length < sizeLine ∧ Nx (L2.upd H4 D (.lst (acc ++ [y]))) else Nx H3) := by
  refine lc_it w (fun i H => Same H1 H ∧ H D = some (.lst (((ns.take i).filter p).map V.int))) ⟨samN hD, updS⟩ (fun i H _ q => hG H q.1) (fun i x H H' hi q hy => ?_) fun H q => hd H q.1 (by rw [q.2, List.take_of_length_le (by omega)])
  obtain ⟨rfl, hx⟩ := hY i H x H' hy
  obtain ⟨s, hL⟩ := q
  rw [List.getElem?_map] at hx
  have hv : ns[i]? = some ns[i] := List.getElem?_eq_getElem (by omega)
  rw [hv] at hx
  cases Option.some.inj hx
  have eT : ns.take (i + 1) = ns.take i ++ [ns[i]] := by rw [List.take_succ, hv]; rfl
  refine ⟨?_, hs _ _ _ (List.getElem_mem _) s fun H'' s'' => ?_⟩
  · show (((σ.set k none).set k _).set k none) = σ.set k none
    rw [List.set_set, List.set_set]
  have hL2 := s'' _ _ hL
  rw [eT, List.filter_append]
  refine ite2 (fun e => ?_) fun e => ?_
  · rw [show [ns[i]].filter p = [ns[i]] from List.filter_cons_of_pos e]
    refine ⟨.int ns[i], List.getElem?_set_self (show k < (σ.set k none).length by rw [List.length_set]; exact hk), _, hL2, ?_, fun b o e => updN (ne_of_none e hD) (s'' _ _ (s b o e)), ?_⟩
    · rw [List.length_map]
      have := List.length_filter_le p (ns.take i)
      rw [List.length_take] at this
      exact Nat.lt_of_le_of_lt (show ((ns.take i).filter p).length ≤ 100000 by omega) (by decide)
    · rw [updS]
      simp
  · rw [show [ns[i]].filter p = [] from List.filter_cons_of_neg e, List.append_nil]
    exact ⟨fun b o e => s'' _ _ (s b o e), hL2⟩
structure HdC (K : PySem.W.Frag) : Prop where
  cl : Cls K (He.ga K "Holding")
  n1 : NoAttr K (He.ga K "Holding") "book"
  n2 : NoAttr K (He.ga K "Holding") "inside"
  n3 : NoAttr K (He.ga K "Holding") "ordered"
structure StC (K : PySem.W.Frag) : Prop where
  cl : Cls K (He.ga K "Store")
  n1 : NoAttr K (He.ga K "Store") "book"
  n2 : NoAttr K (He.ga K "Store") "inside"
  n3 : NoAttr K (He.ga K "Store") "many_changes"
structure HlA where
  A : Addr
  I : Addr
  O : Addr
abbrev hdF (B : Addr) (h : HlA) : List (Str × V) := [("book", .ref B), ("inside", .ref h.I), ("ordered", .ref h.O)]
structure HlAt (K : PySem.W.Frag) (H : Hp) (h : HlA) (B : Addr) (ns : List Int) : Prop where
  hc : HdC K
  ho : ∃ dx, H h.A = some (.ins (He.ga K "Holding") dx (hdF B h))
  hI : ∃ is : List Int, H h.I = some (.dK (nmD is)) ∧ ∀ n, n ∈ is ↔ n ∈ ns
  hO : H h.O = some (.lst (ns.map V.int))
  inc : ns.Pairwise (· < ·)
  few : ns.length ≤ 400
abbrev stF (B I : Addr) (m : Int) : List (Str × V) := [("book", .ref B), ("inside", .ref I), ("many_changes", .int m)]
structure SrAt (K : PySem.W.Frag) (H : Hp) (A I B : Addr) (ns : List Int) : Prop where
  sc : StC K
  so : ∃ dx m, H A = some (.ins (He.ga K "Store") dx (stF B I m))
  hI : H I = some (.dK (nmD ns))
  nd : ns.Nodup
  few : ns.length ≤ 400
section
variable {K : PySem.W.Frag} {H H' : Hp} {h : HlA} {A I B : Addr} {ns : List Int} {Q : VK} {σ : L2.St} {i : Nat}
theorem HlAt.kf {F : List Addr} (x : HlAt K H h B ns) (kf : Kf F H H') (n : ∀ y ∈ [h.A, h.I, h.O], y ∉ F) : HlAt K H' h B ns := by
  obtain ⟨dx, e⟩ := x.ho
  obtain ⟨is, e2, m⟩ := x.hI
  exact ⟨x.hc, ⟨dx, kf _ _ e (n _ (by simp))⟩, ⟨is, kf _ _ e2 (n _ (by simp)), m⟩, kf _ _ x.hO (n _ (by simp)), x.inc, x.few⟩
theorem HlAt.same (x : HlAt K H h B ns) (s : Same H H') : HlAt K H' h B ns := x.kf (F := []) (.same s) fun _ _ z => nomatch z
theorem SrAt.kf {F : List Addr} (x : SrAt K H A I B ns) (kf : Kf F H H') (n : ∀ y ∈ [A, I], y ∉ F) : SrAt K H' A I B ns := by
  obtain ⟨dx, m, e⟩ := x.so
  exact ⟨x.sc, ⟨dx, m, kf _ _ e (n _ (by simp))⟩, kf _ _ x.hI (n _ (by simp)), x.nd, x.few⟩
theorem SrAt.same (x : SrAt K H A I B ns) (s : Same H H') : SrAt K H' A I B ns := x.kf (F := []) (.same s) fun _ _ z => nomatch z
theorem HlAt.fB (x : HlAt K H h B ns) (e : σ[i]? = some (some (.ref h.A))) (q : Q (.ref B) H) : tFld K (tVar i) "book" σ H Q := by
  obtain ⟨dx, hx⟩ := x.ho
  exact ⟨_, e, h.A, _, dx, _, _, rfl, hx, x.hc.cl, x.hc.n1, rfl, q⟩
theorem HlAt.fI (x : HlAt K H h B ns) (e : σ[i]? = some (some (.ref h.A))) (q : Q (.ref h.I) H) : tFld K (tVar i) "inside" σ H Q := by
  obtain ⟨dx, hx⟩ := x.ho
  exact ⟨_, e, h.A, _, dx, _, _, rfl, hx, x.hc.cl, x.hc.n2, rfl, q⟩
theorem HlAt.me {m : Str} {sp : Sp} {E : XK} {ta : TA} (x : HlAt K H h B ns) (hm : (hdF B h).lookup m = none) (e : σ[i]? = some (some (.ref h.A))) (q : ta σ H fun vs H2 => sp (.ref h.A :: (vs ++ [])) H2 Q E) : tMeth (He.ga K "Holding") m sp [] E (tVar i) ta σ H Q := by
  obtain ⟨dx, hx⟩ := x.ho
  exact ⟨_, e, h.A, dx, _, rfl, hx, hm, q⟩
theorem SrAt.fB (x : SrAt K H A I B ns) (e : σ[i]? = some (some (.ref A))) (q : Q (.ref B) H) : tFld K (tVar i) "book" σ H Q := by
  obtain ⟨dx, m, hx⟩ := x.so
  exact ⟨_, e, A, _, dx, _, _, rfl, hx, x.sc.cl, x.sc.n1, rfl, q⟩
theorem SrAt.fI (x : SrAt K H A I B ns) (e : σ[i]? = some (some (.ref A))) (q : Q (.ref I) H) : tFld K (tVar i) "inside" σ H Q := by
  obtain ⟨dx, m, hx⟩ := x.so
  exact ⟨_, e, A, _, dx, _, _, rfl, hx, x.sc.cl, x.sc.n2, rfl, q⟩
theorem SrAt.me {m : Str} {sp : Sp} {E : XK} {ta : TA} (x : SrAt K H A I B ns) (hm : ∀ m', (stF B I m').lookup m = none) (e : σ[i]? = some (some (.ref A))) (q : ta σ H fun vs H2 => sp (.ref A :: (vs ++ [])) H2 Q E) : tMeth (He.ga K "Store") m sp [] E (tVar i) ta σ H Q := by
  obtain ⟨dx, m', hx⟩ := x.so
  exact ⟨_, e, A, dx, _, rfl, hx, hm m', q⟩
/-- a method of the book, the book being read from elsewhere -/
theorem BkAt.meF [HasW] {b : BkA} {cs : List Ct} {as : List Addr} {m : Str} {sp : Sp} {E : XK} {ta : TA} (k : BkAt K H b cs as) (hm : m ∈ (["named", "name_of", "thing", "kind", "parts", "parents", "root", "stamp", "entries", "leaf_rows", "is_name", "is_version", "is_content", "has_kinds", "depth", "give_next"] : List Str)) (q : ta σ H fun vs H2 => sp (.ref b.B :: (vs ++ [])) H2 Q E) :
    ∃ a dx fs, V.ref b.B = .ref a ∧ H a = some (.ins (He.ga K "Book") dx fs) ∧ fs.lookup m = none ∧ ta σ H fun vs H2 => sp (V.ref b.B :: (vs ++ [])) H2 Q E := by
  obtain ⟨dx, fs, hx, h1, h2, h3, h4⟩ := k.bo
  exact ⟨b.B, dx, fs, rfl, hx, h4 m hm, q⟩
theorem BkAt.meV [HasW] {b : BkA} {cs : List Ct} {as : List Addr} {m : Str} {sp : Sp} {E : XK} {ta : TA} (k : BkAt K H b cs as) (hm : m ∈ (["named", "name_of", "thing", "kind", "parts", "parents", "root", "stamp", "entries", "leaf_rows", "is_name", "is_version", "is_content", "has_kinds", "depth", "give_next"] : List Str)) (e : σ[i]? = some (some (.ref b.B))) (q : ta σ H fun vs H2 => sp (.ref b.B :: (vs ++ [])) H2 Q E) : tMeth (He.ga K "Book") m sp [] E (tVar i) ta σ H Q := k.me hm e q
end
def isV (cs : List Ct) (n : Int) : Bool := decide ((cs.getD n.toNat (.leaf [])).word = "version")
def parsOf (cs : List Ct) (n : Int) : List Int :=
  match cs.getD n.toNat (.leaf []) with
  | .ver ps _ _ => ps
  | _ => []
theorem getD_nat {cs : List Ct} {n : Nat} {c : Ct} (h : cs[n]? = some c) : cs.getD (Int.toNat (n : Int)) (.leaf []) = c := by
  rw [Int.toNat_natCast, List.getD_eq_getElem?_getD, h]
  rfl
theorem isV_at {cs : List Ct} {n : Nat} {c : Ct} (h : cs[n]? = some c) : isV cs (n : Int) = decide (c.word = "version") := by
  unfold isV
  rw [getD_nat h]
theorem parsOf_at {cs : List Ct} {n : Nat} {ps : List Int} {r s : Int} (h : cs[n]? = some (.ver ps r s)) : parsOf cs (n : Int) = ps := by
  unfold parsOf
  rw [getD_nat h]
theorem isV_ver {cs : List Ct} {n : Nat} {c : Ct} (h : cs[n]? = some c) (v : isV cs (n : Int) = true) : ∃ ps r s, c = .ver ps r s := by
  rw [isV_at h] at v
  have v := of_decide_eq_true v
  cases c with
  | leaf rows => exact absurd v wv_lv
  | tree es => exact absurd v wv_tv
  | ver ps r s => exact ⟨ps, r, s, rfl⟩
/-- names of the book -/
def NmOk (cs : List Ct) (ns : List Int) : Prop := ∀ n ∈ ns, 0 ≤ n ∧ n.toNat < cs.length
theorem NmOk.get {cs : List Ct} {ns : List Int} (h : NmOk cs ns) {n : Int} (hn : n ∈ ns) : ∃ (m : Nat) (c : Ct), n = (m : Int) ∧ cs[m]? = some c := by
  have := h n hn
  obtain ⟨m, rfl⟩ := Int.eq_ofNat_of_zero_le this.1
  exact ⟨m, _, rfl, List.getElem?_eq_getElem (by have := this.2; rwa [Int.toNat_natCast] at this)⟩
section
variable [HasW] {K : PySem.W.Frag} {vs : List V} {H : Hp} {Q : VK} {E : XK}
theorem perm_lt {ns ns' : List Int} (p : ns'.Perm ns) (i : ns'.Pairwise (· ≤ ·)) (nd : ns.Nodup) : ns'.Pairwise (· < ·) :=
  List.Pairwise.imp₂ (fun a b h1 h2 => by omega) i (p.nodup_iff.mpr nd)
end
end Fw
set_option Elab.async false
set_option linter.all false
set_option maxRecDepth 100000
set_option maxHeartbeats 4000000
namespace Fw
open PySem PySem.Spec PyProof.Rows L2
end Fw
set_option Elab.async false
set_option linter.all false
set_option maxRecDepth 100000
set_option maxHeartbeats 4000000
namespace Fw
open PySem PySem.Spec PySem.Calls PyProof.Rows
open L2
end Fw
set_option Elab.async false
set_option linter.all false
set_option maxRecDepth 100000
set_option maxHeartbeats 4000000
namespace Fw
open PySem L2 RZ RT
theorem iOr_ints {K : PySem.W.Frag} {H : Hp} {σ : L2.St} {i : Nat} {a : Addr} {ns : List Int} {R : It → Hp → Prop} (e : σ[i]? = some (some (.ref a))) (hn : H a = some (.lst (ns.map V.int)) ∨ H a = some (.tup (ns.map V.int)))
    (r : ∀ (J : It) (G : Hp → Prop), Walk J (ns.map V.int).length G (YAt (ns.map V.int)) → (∀ H', H' a = H a → G H') → R J H) : iOr (iList K (tVar i)) (iTup K (tVar i)) σ H R := by
  rcases hn with h | h
  · exact .inl ⟨_, e, a, rfl, ⟨_, sqL h⟩, r _ _ walk_list fun H' e => sqL (e.trans h)⟩
  · exact .inr ⟨_, e, a, rfl, ⟨_, sqT h⟩, r _ _ walk_tup fun H' e => sqT (e.trans h)⟩
def insM (ns : List Int) (n : Int) : List Int := if n ∈ ns then ns else ns ++ [n]
theorem nmD_insM (ns : List Int) (n : Int) : putK (nmD ns) (.inl n) (.bl true) = nmD (insM ns n) := by
  unfold insM
  by_cases h : n ∈ ns
  · rw [if_pos h]
    unfold putK
    rw [if_pos (List.any_eq_true.mpr ⟨((Sum.inl n : Key), V.bl true), List.mem_map.mpr ⟨n, h, rfl⟩, decide_eq_true rfl⟩)]
    rw [List.map_map]
    refine List.map_congr_left fun m _ => ?_
    show (if (Sum.inl m : Key) = Sum.inl n then ((Sum.inl m : Key), V.bl true) else ((Sum.inl m : Key), V.bl true)) = _
    split <;> rfl
  · rw [if_neg h]
    exact nmD_put h
/-- names once each, in the order in which they come -/
def once (ns : List Int) : List Int := ns.foldl insM []
theorem once_snoc (ns : List Int) (n : Int) : once (ns ++ [n]) = insM (once ns) n := by
  unfold once
  rw [List.foldl_append]
  rfl
theorem insM_mem {ns : List Int} {n m : Int} : m ∈ insM ns n ↔ m ∈ ns ∨ m = n := by
  unfold insM
  split
  · rename_i h
    exact ⟨.inl, fun z => z.elim id fun e => by rw [e]; exact h⟩
  · rw [List.mem_append, List.mem_singleton]
theorem insM_nodup {ns : List Int} {n : Int} (h : ns.Nodup) : (insM ns n).Nodup := by
  unfold insM
  split
  · exact h
  · rename_i hn
    rw [List.nodup_append]
    exact ⟨h, by simp, fun y hy z hz e => hn (by rw [List.mem_singleton.mp hz] at e; rw [← e]; exact hy)⟩
theorem once_go : ∀ (ns acc : List Int), acc.Nodup → (ns.foldl insM acc).Nodup ∧ ∀ m, m ∈ ns.foldl insM acc ↔ m ∈ acc ∨ m ∈ ns
  | [], acc, h => ⟨h, fun m => by simp⟩
  | n :: ns, acc, h => by
    obtain ⟨h1, h2⟩ := once_go ns (insM acc n) (insM_nodup h)
    refine ⟨h1, fun m => ?_⟩
    rw [List.foldl_cons, h2 m, insM_mem, List.mem_cons, or_assoc]
theorem once_ok (ns : List Int) : (once ns).Nodup ∧ ∀ m, m ∈ once ns ↔ m ∈ ns := by
  obtain ⟨h1, h2⟩ := once_go ns [] List.nodup_nil
  exact ⟨h1, fun m => by rw [show once ns = ns.foldl insM [] from rfl, h2 m]; simp⟩
theorem once_len (ns : List Int) : (once ns).length ≤ ns.length := by
  have : ∀ (ns acc : List Int), (ns.foldl insM acc).length ≤ acc.length + ns.length := by
    intro ns
    induction ns with
    | nil => intro acc; exact Nat.le_refl _
    | cons n ns ih =>
      intro acc
      rw [List.foldl_cons, List.length_cons]
      have h1 := ih (insM acc n)
      have h2 : (insM acc n).length ≤ acc.length + 1 := by
        unfold insM
        split
        · omega
        · rw [List.length_append]; exact Nat.le_refl _
      omega
  have h := this ns []
  rw [List.length_nil, Nat.zero_add] at h
  exact h
theorem sub_len : ∀ {fs vs : List Int}, fs.Nodup → (∀ x ∈ fs, x ∈ vs) → fs.length ≤ vs.length
  | [], _, _, _ => Nat.zero_le _
  | x :: fs, vs, nd, h => by
    rw [List.nodup_cons] at nd
    have hx := h x List.mem_cons_self
    have e : (vs.erase x).length = vs.length - 1 := List.length_erase_of_mem hx
    have pos : 0 < vs.length := List.length_pos_of_mem hx
    have := sub_len (vs := vs.erase x) nd.2 fun y hy => (List.mem_erase_of_ne fun z => nd.1 (by rw [← z]; exact hy)).mpr (h y (List.mem_cons_of_mem _ hy))
    rw [List.length_cons]
    omega
section
variable [HasW] {K : PySem.W.Frag} {vs : List V} {H : Hp} {Q : VK} {E : XK}
theorem tDc_setA {σ : L2.St} {s i : Nat} {a : Addr} {ns : List Int} (e : σ[i]? = some (some (.ref a))) (hs : s < σ.length) (hn : H a = some (.lst (ns.map V.int)) ∨ H a = some (.tup (ns.map V.int))) (hz : ns.length ≤ 1000)
    (hd : ∀ F, H F = none → Q (.ref F) (upd H F (.dK (nmD (once ns))))) : tDc (iOr (iList K (tVar i)) (iTup K (tVar i))) (gName s) tYes (tVar s) (tC (.bl true)) [s] σ H Q := by
  refine iOr_ints e hn fun J G w hG F nF => ?_
  have so : ∃ o, H a = some o := hn.elim (fun h => ⟨_, h⟩) fun h => ⟨_, h⟩
  obtain ⟨o, ho⟩ := so
  have naF : a ≠ F := ne_of_none ho nF
  have st : ∀ kvs, upd H F (.dK kvs) a = H a := fun kvs => upd_ne naF
  have l0 : (ns.map V.int).length = ns.length := List.length_map ..
  refine ⟨fun i m H2 => m = ns.length - i ∧ i ≤ ns.length ∧ H2 = upd H F (.dK (nmD (once (ns.take i)))), ⟨ns.length, by omega, Nat.zero_le _, by rw [List.take_zero]; rfl⟩, ?_⟩
  rintro i m H2 ⟨em, hi, rfl⟩
  by_cases h : i < ns.length
  · have hv : ns[i]? = some ns[i] := List.getElem?_eq_getElem h
    refine .inr ⟨w.goes i _ (by rw [l0]; exact h) (hG _ (st _)), fun H3 => H3 = upd H F (.dK (nmD (once (ns.take (i + 1))))), fun H' e => ⟨ns.length - (i + 1), by omega, rfl, h, e⟩, ?_⟩
    intro x H3 hy
    obtain ⟨rfl, hx⟩ := w.yields i _ x H3 (by rw [l0]; exact h) (hG _ (st _)) hy
    rw [List.getElem?_map, hv] at hx
    cases Option.some.inj hx
    refine ⟨by show (((σ.set s none).set s _).set s none) = σ.set s none; rw [List.set_set, List.set_set], ?_⟩
    dsimp only [tYes]
    rw [if_pos rfl]
    refine ⟨_, List.getElem?_set_self (show s < (σ.set s none).length by rw [List.length_set]; exact hs), nmD (once (ns.take i)), Sum.inl ns[i], rfl, updS, ?_, ?_⟩
    · rw [List.length_map]
      have := once_len (ns.take i)
      rw [List.length_take] at this
      exact Nat.lt_of_le_of_lt (show _ ≤ 1000 by omega) (by decide)
    · rw [upd_upd, nmD_insM, ← once_snoc, List.take_succ, hv]
      rfl
  · have e : i = ns.length := by omega
    subst e
    refine .inl ⟨?_, ?_⟩
    · have := w.stops _ (hG _ (st (nmD (once (ns.take ns.length)))))
      rw [l0] at this
      exact this
    · rw [List.take_length]
      exact hd F nF
end
end Fw
set_option Elab.async false
set_option linter.all false
set_option maxRecDepth 100000
set_option maxHeartbeats 4000000
namespace Fw
open PySem L2 RZ RT
/-- what the class House must have -/
structure HsC (K : PySem.W.Frag) : Prop where
  cl : Cls K (He.ga K "House")
  n1 : NoAttr K (He.ga K "House") "book"
  n2 : NoAttr K (He.ga K "House") "inside"
  n3 : NoAttr K (He.ga K "House") "many_changes"
  n4 : NoAttr K (He.ga K "House") "standing"
  n5 : NoAttr K (He.ga K "House") "last_moves"
  n6 : NoAttr K (He.ga K "House") "far_standing"
  n7 : NoAttr K (He.ga K "House") "pinned"
structure HsA where
  A : Addr
  I : Addr
  S : Addr
  M : Addr
  F : Addr
  P : Addr
abbrev hsF (B : Addr) (h : HsA) (m : Int) : List (Str × V) := [("book", .ref B), ("inside", .ref h.I), ("many_changes", .int m), ("standing", .ref h.S), ("last_moves", .ref h.M), ("far_standing", .ref h.F), ("pinned", .ref h.P)]
/-- a house of the book B that holds these names -/
structure HsAt (K : PySem.W.Frag) (H : Hp) (h : HsA) (B : Addr) (ns : List Int) (m : Int) : Prop where
  hc : HsC K
  ho : ∃ dx, H h.A = some (.ins (He.ga K "House") dx (hsF B h m))
  hI : H h.I = some (.dK (nmD ns))
  nd : ns.Nodup
  few : ns.length ≤ 400
section
variable {K : PySem.W.Frag} {H H' : Hp} {h : HsA} {B : Addr} {ns : List Int} {m : Int} {Q : VK} {σ : L2.St} {i : Nat}
theorem HsAt.kf {F : List Addr} (x : HsAt K H h B ns m) (kf : Kf F H H') (n : ∀ y ∈ [h.A, h.I], y ∉ F) : HsAt K H' h B ns m := by
  obtain ⟨dx, e⟩ := x.ho
  exact ⟨x.hc, ⟨dx, kf _ _ e (n _ (by simp))⟩, kf _ _ x.hI (n _ (by simp)), x.nd, x.few⟩
theorem HsAt.same (x : HsAt K H h B ns m) (s : Same H H') : HsAt K H' h B ns m := x.kf (F := []) (.same s) fun _ _ z => nomatch z
theorem HsAt.fB (x : HsAt K H h B ns m) (e : σ[i]? = some (some (.ref h.A))) (q : Q (.ref B) H) : tFld K (tVar i) "book" σ H Q := by
  obtain ⟨dx, hx⟩ := x.ho
  exact ⟨_, e, h.A, _, dx, _, _, rfl, hx, x.hc.cl, x.hc.n1, rfl, q⟩
theorem HsAt.fI (x : HsAt K H h B ns m) (e : σ[i]? = some (some (.ref h.A))) (q : Q (.ref h.I) H) : tFld K (tVar i) "inside" σ H Q := by
  obtain ⟨dx, hx⟩ := x.ho
  exact ⟨_, e, h.A, _, dx, _, _, rfl, hx, x.hc.cl, x.hc.n2, rfl, q⟩
theorem HsAt.me {n : Str} {sp : Sp} {E : XK} {ta : TA} (x : HsAt K H h B ns m) (hm : ∀ m', (hsF B h m').lookup n = none) (e : σ[i]? = some (some (.ref h.A))) (q : ta σ H fun vs H2 => sp (.ref h.A :: (vs ++ [])) H2 Q E) : tMeth (He.ga K "House") n sp [] E (tVar i) ta σ H Q := by
  obtain ⟨dx, hx⟩ := x.ho
  exact ⟨_, e, h.A, dx, _, rfl, hx, hm m, q⟩
theorem HsAt.ne (x : HsAt K H h B ns m) : h.A ≠ h.I := by
  obtain ⟨dx, e⟩ := x.ho
  exact ne_of e x.hI fun z => by cases z
end
section
variable [HasW]
def sp_Store_initH (K : PySem.W.Frag) : Sp := fun vs H Q _ => ∃ (x dx B : Addr), vs = [.ref x, .ref B] ∧ HsC K ∧ H x = some (.ins (He.ga K "House") dx []) ∧
  ∀ (I : Addr) (H' : Hp), (∀ a o, H a = some o → a ≠ x → H' a = some o) → H I = none → I ≠ x → H' x = some (.ins (He.ga K "House") dx [("book", .ref B), ("inside", .ref I), ("many_changes", .int 0)]) → H' I = some (.dK []) → Q .non H'
def sp_House_put (K : PySem.W.Frag) : Sp := fun vs H Q _ => ∃ (h : HsA) (b : BkA) (cs : List Ct) (as : List Addr) (ns : List Int) (m n : Int), vs = [.ref h.A, .int n] ∧ HsAt K H h b.B ns m ∧ BkAt K H b cs as ∧ 0 ≤ n ∧ n < (cs.length : Nat) ∧ (n ∉ ns → ns.length < 400) ∧
  (n ∈ ns → Q (.bl false) H) ∧ (n ∉ ns → ∀ H', Kf [h.A, h.I] H H' → HsAt K H' h b.B (ns ++ [n]) (m + 1) → Q (.bl true) H')
def sp_House_held (K : PySem.W.Frag) : Sp := fun vs H Q _ => ∃ (h : HsA) (B : Addr) (ns : List Int) (m : Int), vs = [.ref h.A] ∧ HsAt K H h B ns m ∧
  ∀ (L : Addr) (ns' : List Int), H L = none → ns'.Perm ns → ns'.Pairwise (· ≤ ·) → Q (.ref L) (upd H L (.lst (ns'.map V.int)))
end
section
variable [HasW] {K : PySem.W.Frag} {vs : List V} {H : Hp} {Q : VK} {E : XK}
theorem len_Store_initH (h : sp_Store_initH K vs H Q E) : vs.length = 2 := by obtain ⟨_, _, _, rfl, _⟩ := h; rfl
theorem len_House_put (h : sp_House_put K vs H Q E) : vs.length = 2 := by obtain ⟨_, _, _, _, _, _, _, rfl, _⟩ := h; rfl
theorem len_House_held (h : sp_House_held K vs H Q E) : vs.length = 1 := by obtain ⟨_, _, _, _, rfl, _⟩ := h; rfl
end
section
variable [HasW]
abbrev N_Store_initH : List Str := ["self", "book"]
def t_Store_initH (K : PySem.W.Frag) : TS := (tSeq (sFld K (tVar 0) (tVar 1) "book")
    (tSeq (sFld K (tVar 0) tDNewK "inside")
    (sFld K (tVar 0) (tC (.int 0)) "many_changes")))
abbrev N_House_put : List Str := ["self", "name"]
def t_House_put (K : PySem.W.Frag) : TS := (tSeq (tIfS (tNot (tB (tMeth (He.ga K "Book") "is_name" (sp_Book_is_name K) [] E0 (tFld K (tVar 0) "book") (tCons (tVar 1) tNil)))) tNever tNext)
    (tSeq (tIfS (tB (tDIn (tVar 1) (tFld K (tVar 0) "inside"))) (tRet (tC (.bl false))) tNext)
    (tSeq (sDPut (tFld K (tVar 0) "inside") (tVar 1) (tC (.bl true)))
    (tSeq (sFldAug K (tVar 0) (tC (.int 1)) rAdd "many_changes")
    (tRet (tC (.bl true)))))))
abbrev N_House_held : List Str := ["self"]
def t_House_held (K : PySem.W.Frag) : TS := (tRet (tCB rSortK (tCons (tFld K (tVar 0) "inside") tNil)))
end
section
variable [HasW] {K : PySem.W.Frag} {vs : List V} {H : Hp} {Q : VK} {E : XK}
theorem pure_Store_initH (h : sp_Store_initH K vs H Q E) : t_Store_initH K { nx := fun _ H' => Q .non H', rt := Q } (start N_Store_initH vs) H := by
  obtain ⟨x, dx, B, rfl, sc, hx, k⟩ := h
  refine ⟨_, rfl, _, rfl, x, _, dx, _, rfl, hx, sc.cl, sc.n1, by decide, ?_⟩
  refine fun I nI => ?_
  have nxI : x ≠ I := ne_of_none updS nI
  have nI0 : H I = none := by rw [upd_ne nxI.symm] at nI; exact nI
  refine ⟨_, rfl, x, _, dx, _, rfl, updN nxI updS, sc.cl, sc.n2, by show (1 : Nat) < 1000; decide, ?_⟩
  refine ⟨_, rfl, x, _, dx, _, rfl, updS, sc.cl, sc.n3, by show (2 : Nat) < 1000; decide, ?_⟩
  exact k I _ (fun a o e ne => updN ne (updN ne (updN (ne_of_none e nI0) (updN ne e)))) nI0 nxI.symm updS (updN nxI.symm (updN nxI.symm updS))
theorem pure_House_put (h : sp_House_put K vs H Q E) : t_House_put K { nx := fun _ H' => Q .non H', rt := Q } (start N_House_put vs) H := by
  obtain ⟨h, b, cs, as, ns, m, n, rfl, st, bk, n0, n1, few, k1, k2⟩ := h
  dsimp only [t_House_put, tSeq, tIfS, tNot, tB, tMeth]
  refine st.fB rfl ?_
  refine bk.meF (m := "is_name") (by decide) ?_
  refine ⟨_, rfl, b, cs, as, n, rfl, bk, _, rfl, ?_⟩
  rw [decide_eq_true n0, decide_eq_true n1]
  refine iteF ?_
  refine ⟨_, rfl, ?_⟩
  show tFld K (tVar 0) "inside" _ _ _
  refine st.fI rfl ?_
  refine ⟨h.I, _, rfl, DGet.k (k := Sum.inl n) st.hI, _, rfl, ?_⟩
  rw [nmD_some]
  by_cases hm : n ∈ ns
  · rw [decide_eq_true hm]
    exact iteT (k1 hm)
  · rw [decide_eq_false hm]
    refine iteF ?_
    dsimp only [tNext, tSeq, sDPut, tC]
    refine st.fI rfl ?_
    obtain ⟨dx, hA⟩ := st.ho
    have nAI : h.A ≠ h.I := st.ne
    refine ⟨_, rfl, h.I, _, rfl, DPut.k (k := Sum.inl n) st.hI (by rw [List.length_map]; exact Nat.lt_of_le_of_lt st.few (by decide)), ?_⟩
    rw [nmD_put hm]
    refine ⟨_, rfl, h.A, _, dx, _, _, rfl, updN nAI hA, st.hc.cl, st.hc.n3, rfl, _, _, rfl, rfl, _, _, updN nAI hA, by show (7 : Nat) < 1000; decide, ?_⟩
    exact k2 hm _ ((Kf.refl.up (by simp)).up (by simp)) ⟨st.hc, ⟨dx, updS⟩, updN nAI.symm updS, by
      rw [List.nodup_append]
      exact ⟨st.nd, by simp, fun a ha c hc e => hm (by rw [List.mem_singleton.mp hc] at e; rw [← e]; exact ha)⟩, by rw [List.length_append, List.length_singleton]; have := few hm; omega⟩
theorem pure_House_held (h : sp_House_held K vs H Q E) : t_House_held K { nx := fun _ H' => Q .non H', rt := Q } (start N_House_held vs) H := by
  obtain ⟨h, B, ns, m, rfl, st, k⟩ := h
  dsimp only [t_House_held, tRet, tCB, tCons]
  refine st.fI rfl ?_
  exact ⟨h.I, nmD ns, ns, rfl, st.hI, nmD_keys ns, fun ns' p pm inc np => k p ns' np pm inc⟩
end
end Fw
set_option Elab.async false
set_option linter.all false
set_option maxRecDepth 100000
set_option maxHeartbeats 4000000
namespace Fw
open PySem L2 RZ RT
/-- a walk of any body -/
theorem walk_W {J : It} {n : Nat} {G : Hp → Prop} {Y : Nat → Hp → V → Hp → Prop} (w : Walk J n G Y) {H0 : Hp} {Qd : Hp → Prop} {B : (Hp → Prop) → V → Hp → Prop} (Pv : Nat → Hp → Prop) (h0 : Pv 0 H0) (hG : ∀ i H, i ≤ n → Pv i H → G H) (step : ∀ i x H H', i < n → Pv i H → Y i H x H' → B (Pv (i + 1)) x H') (fin : ∀ H, Pv n H → Qd H) :
    ∃ W : Nat → Nat → Hp → Prop, (∃ m, W 0 m H0) ∧ ∀ i m H, W i m H → (J.stop i H ∧ Qd H) ∨ (J.go i H ∧ ∃ Nx : Hp → Prop, (∀ H', Nx H' → ∃ m', m' < m ∧ W (i + 1) m' H') ∧ ∀ x H', J.yld i H x H' → B Nx x H') := by
  refine ⟨fun i m H => m = n - i ∧ i ≤ n ∧ Pv i H, ⟨n, by omega, Nat.zero_le _, h0⟩, ?_⟩
  rintro i m H ⟨em, hi, p⟩
  by_cases h : i < n
  · exact .inr ⟨w.goes i H h (hG i H hi p), Pv (i + 1), fun H' q => ⟨n - (i + 1), by omega, rfl, h, q⟩, fun x H' hy => step i x H H' h p (w.yields i H x H' h (hG i H hi p) hy)⟩
  · obtain rfl : i = n := by omega
    exact .inl ⟨w.stops H (hG _ H hi p), fin H p⟩
/-- pairs of ints, each a tuple -/
def PsA (H : Hp) (as : List Addr) (ls : List (Int × Int)) : Prop := as.length = ls.length ∧ ∀ (i : Nat) (a : Addr) (l : Int × Int), as[i]? = some a → ls[i]? = some l → H a = some (.tup [.int l.1, .int l.2])
theorem PsA.mono {H H' : Hp} {as : List Addr} {ls : List (Int × Int)} (p : PsA H as ls) (tm : TM H H') : PsA H' as ls := ⟨p.1, fun i a l h1 h2 => tm _ _ (p.2 i a l h1 h2)⟩
theorem PsA.nil {H : Hp} : PsA H [] [] := ⟨rfl, fun i a l h => by cases h⟩
theorem PsA.snoc {H : Hp} {as : List Addr} {ls : List (Int × Int)} {T : Addr} {l : Int × Int} (p : PsA H as ls) (hT : H T = some (.tup [.int l.1, .int l.2])) : PsA H (as ++ [T]) (ls ++ [l]) := by
  refine ⟨by rw [List.length_append, List.length_append, p.1]; rfl, fun i a m h1 h2 => ?_⟩
  by_cases hi : i < as.length
  · rw [List.getElem?_append_left hi] at h1
    rw [List.getElem?_append_left (by rw [← p.1]; exact hi)] at h2
    exact p.2 i a m h1 h2
  · have hi2 : i < (as ++ [T]).length := (List.getElem?_eq_some_iff.mp h1).1
    rw [List.length_append, List.length_singleton] at hi2
    have e : i = as.length := by omega
    rw [List.getElem?_append_right (by omega), e, Nat.sub_self] at h1
    rw [List.getElem?_append_right (by rw [← p.1]; omega), e, p.1, Nat.sub_self] at h2
    cases Option.some.inj h1
    cases Option.some.inj h2
    exact hT
/-- a shape, as it stands -/
def ShA (H : Hp) (q : Addr) (vs : List Int) (ls : List (Int × Int)) : Prop := ∃ (a l : Addr) (as : List Addr), H q = some (.tup [.ref a, .ref l]) ∧ H a = some (.tup (vs.map V.int)) ∧ H l = some (.tup (as.map V.ref)) ∧ PsA H as ls
theorem ShA.mono {H H' : Hp} {q : Addr} {vs : List Int} {ls : List (Int × Int)} (s : ShA H q vs ls) (tm : TM H H') : ShA H' q vs ls := by
  obtain ⟨a, l, as, h1, h2, h3, p⟩ := s
  exact ⟨a, l, as, tm _ _ h1, tm _ _ h2, tm _ _ h3, p.mono tm⟩
theorem ShA.same {H : Hp} {q r : Addr} {vs : List Int} {ls : List (Int × Int)} (s : ShA H q vs ls) (u : ShA H r vs ls) (h1 : vs.length ≤ 1000) (h2 : ls.length ≤ 10000) : SameV H 6 (.ref q) (.ref r) := by
  obtain ⟨a, l, as, q1, q2, q3, p⟩ := s
  obtain ⟨a', l', as', r1, r2, r3, p'⟩ := u
  refine SameV.tup q1 r1 rfl (by show (2 : Nat) ≤ 100000; decide) fun i x y hx hy => ?_
  match i, hx, hy with
  | 0, hx, hy =>
    cases Option.some.inj hx
    cases Option.some.inj hy
    exact SameV.tup q2 r2 rfl (by rw [List.length_map]; omega) SameV.ints
  | 1, hx, hy =>
    cases Option.some.inj hx
    cases Option.some.inj hy
    refine SameV.tup q3 r3 (by rw [List.length_map, List.length_map, p.1, p'.1]) (by rw [List.length_map, p.1]; omega) fun j x y hx hy => ?_
    rw [List.getElem?_map] at hx hy
    cases e1 : as[j]? with
    | none => rw [e1] at hx; cases hx
    | some b =>
      cases e2 : as'[j]? with
      | none => rw [e2] at hy; cases hy
      | some b' =>
        rw [e1] at hx
        rw [e2] at hy
        cases Option.some.inj hx
        cases Option.some.inj hy
        have hj : j < ls.length := by rw [← p.1]; exact (List.getElem?_eq_some_iff.mp e1).1
        have el := List.getElem?_eq_getElem hj
        refine SameV.tup (p.2 j b _ e1 el) (p'.2 j b' _ e2 el) rfl (by show (2 : Nat) ≤ 100000; decide) fun m x y hx hy => ?_
        match m, hx, hy with
        | 0, hx, hy =>
          cases Option.some.inj hx
          cases Option.some.inj hy
          exact SameV.int rfl
        | 1, hx, hy =>
          cases Option.some.inj hx
          cases Option.some.inj hy
          exact SameV.int rfl
/-- a lower pair: by its first, then by its second -/
def ltP (a b : Int × Int) : Prop := a.1 < b.1 ∨ (a.1 = b.1 ∧ a.2 < b.2)
def LtP (H : Hp) (x y : V) : Prop := ∃ (a b : Addr) (i j : Int × Int), x = .ref a ∧ y = .ref b ∧ H a = some (.tup [.int i.1, .int i.2]) ∧ H b = some (.tup [.int j.1, .int j.2]) ∧ ltP i j
theorem LtP.same {H H' : Hp} {x y : V} (h : LtP H x y) (s : Same H H') : LtP H' x y := by
  obtain ⟨a, b, i, j, h1, h2, h3, h4, h5⟩ := h
  exact ⟨a, b, i, j, h1, h2, s _ _ h3, s _ _ h4, h5⟩
theorem lexLt_pair {a b : Int × Int} (h : ltP a b) : HT.lexLt [a.1, a.2] [b.1, b.2] = true := by
  rcases h with h | ⟨e, h⟩
  · simp [HT.lexLt, h]
    exact .inl (by omega)
  · simp [HT.lexLt, e, h]
    omega
theorem LtP.run {K : PySem.W.Frag} {H : Hp} {x y : V} {Q : VK} (h : LtP H x y) (q : Q (.bl true) H) : rLtT K x y H Q := by
  obtain ⟨a, b, i, j, h1, h2, h3, h4, h5⟩ := h
  refine ⟨a, b, [i.1, i.2], [j.1, j.2], h1, h2, sqT h3, sqT h4, ?_⟩
  rw [lexLt_pair h5]
  exact q
end Fw
set_option Elab.async false
set_option linter.all false
set_option maxRecDepth 100000
set_option maxHeartbeats 4000000
namespace Fw
open PySem PySem.Spec PyProof.Rows L2
section
open PySem.W SrtO
/-- sorted(set) -/
def rSortedSetA (w : World) : List V → Hp → VK → Prop := fun vs H Q => ∃ (a : Addr) (S : Int → Bool) (n : Nat), vs = [.ref a] ∧ H a = some (SetO w a S n) ∧ n ≤ 3000 ∧
  ∀ (ms : List Int) (p : Addr), ms.Pairwise (· < ·) → (∀ k, k ∈ ms ↔ S k = true) → ms.length = n → H p = none → Q (.ref p) (upd H p (.lst (ms.map V.int)))
theorem cr_sortedSetA {X : Cx} (hc : X.calm = true) : CallR X (.builtin "sorted") (rSortedSetA X.w) := by
  intro pins s σ H xs us Q I r h
  obtain ⟨a, S, n, rfl, ha, few, q⟩ := h
  obtain rfl := Vals.ref1 r
  obtain ⟨o, es, ep, t, ho, hex, hd, g, nd, hm, hb, hf, hn, hr, hl⟩ := setO_get I ha
  refine Calls.call_function_entry kind_sorted plain_sorted entry_sorted (args_sorted1 _) ?_
  unfold Builtin.«sorted»
  refine wpAny_bind (m := checkCount "sorted" 1 1 _) (wpAny_pure ?_)
  refine wpAny_bind (collect_set (A := X.A.in1) (I.ok.hd hc) ⟨o, ho, hex.1, hd⟩ hf hb hr hl fun z1 vals kept sz eg eo pm => ?_)
  have lv : vals.length = n := by rw [pm.length_eq, List.length_map, Array.length_toList]; exact hn
  have iv1 : IntsAre vals (vals.map Builtin.Re.reRawOf) := ints_of vals fun v hv => by
    obtain ⟨x, hx, e⟩ := List.mem_map.mp (pm.mem_iff.mp hv)
    obtain ⟨k, tk, h1, _⟩ := g x hx
    exact ⟨k, tk, by rw [← e]; exact h1⟩
  have pk : (vals.map Builtin.Re.reRawOf).Perm (es.toList.map keyOf) := by
    have := pm.map Builtin.Re.reRawOf
    rw [List.map_map] at this
    exact this
  have hz : vals.length ≤ sizeLine := Nat.le_trans (show _ ≤ 3000 by omega) (by decide)
  refine wpAny_bind (wpAny_newList ?_ hz)
  have hoL : (z1.heap.push { cls := .type "list", data := .seq vals.toArray }).get? z1.heap.objs.size = some (seqObj "list" vals.toArray 0) := Heap.get?_push_size _ rfl
  have kp2 : ∀ b o, s.heap.get? b = some o → b ≠ z1.heap.objs.size ∧ (z1.heap.push { cls := .type "list", data := .seq vals.toArray }).get? b = some o := fun b o e => ⟨Nat.ne_of_lt (Heap.lt_size (kept b o e)), Heap.get?_push_of_some _ (kept b o e)⟩
  refine wpAny_bind (wpAny_holding (wpAny_call_entry slot_list_sort ⟨_, hoL, rfl⟩ entry_list_sort (list_sort_ord swo_int hoL hz (fun h2 => ints_sortable iv1 h2) fun out hs hb2 => ⟨_, rfl, ?_⟩) (args_list_sort _)))
  obtain ⟨k1, k2, k3⟩ := ints_out iv1 hs hb2
  obtain ⟨eF, heF⟩ := PyProof.Rows.sortedHeap_at (vs := vals) (out := out.toArray) hoL
  have pn : (out.map iv).Perm (es.toList.map keyOf) := k2.trans pk
  have kF : ∀ b o, s.heap.get? b = some o → (sortedHeap (z1.heap.push { cls := .type "list", data := .seq vals.toArray }) z1.heap.objs.size vals out.toArray).get? b = some o := fun b o e => (PyProof.Rows.sortedHeap_old (kp2 b o e).1 (Heap.lt_size (kp2 b o e).2)).trans (kp2 b o e).2
  have lms : (out.map iv).length = n := by rw [pn.length_eq, List.length_map, Array.length_toList]; exact hn
  have hlen2 : ((out.map iv).map V.int).length ≤ sizeLine := by
    rw [List.length_map, lms]
    exact Nat.le_trans (show _ ≤ 3000 by omega) (by decide)
  have nH : H z1.heap.objs.size = none := I.hok.fresh sz
  generalize sortedHeap (z1.heap.push { cls := .type "list", data := .seq vals.toArray }) z1.heap.objs.size vals out.toArray = hF at kF heF
  have J : Inv X pins σ (upd H z1.heap.objs.size (.lst ((out.map iv).map V.int))) { s with heap := hF, gens := z1.gens, drawn := z1.drawn, toks := z1.toks } :=
    I.call (ch := []) (Un.laid kF sz nH) (I.hok.laid kF sz ⟨hlen2, out, eF, vals_of_ints k1, heF⟩) (by rw [eg]; exact I.bare) (fun _ z => nomatch z)
  have e : ({ z1 with heap := hF } : Shared) = { s with heap := hF, gens := z1.gens, drawn := z1.drawn, toks := z1.toks } := by
    cases z1
    cases s
    cases eo
    rfl
  refine wpAny_pure ⟨_, rfl, ?_⟩
  show EP X pins σ Q (.ref z1.heap.objs.size) { z1 with heap := hF }
  rw [e]
  exact ⟨.ref _, _, J, rfl, q _ _ (lt_of_le_nodup _ k3 (pn.nodup_iff.mpr nd)) (fun k => by rw [pn.mem_iff, ← hm k]) lms nH⟩
end
section
variable {P : Program} {w : World} {A : Around} {E : Value → Shared → Prop} {s : Shared}
theorem set_update_intsA {I : Addr} {fp wr : List Addr} {G : Array GenState → Array GenState → Prop} {n : Nat} {Pv : Nat → Value → Prop} {St : Nat → Shared → Prop} {R : Result → Shared → Prop}
    (W : WalksS P w A.in1 I fp wr G n Pv St) (S : Addr) (hSf : S ∉ fp) (ks : List Int) (hn : n = ks.length) (hfew : ks.length ≤ 3000) (hval : ∀ i v, Pv i v → ∃ k t, ks[i]? = some k ∧ v = .int k t)
    (h0 : Heap) (hS0 : h0.get? S = none) (hw0 : ∀ b ∈ wr, h0.get? b = none) :
    ∀ (k i : Nat) (s : Shared), n - i = k → i ≤ n → St i s → (∀ b o, h0.get? b = some o → s.heap.get? b = some o) → (∃ T m, SetR w s.heap S T m ∧ MemI ks i T m) →
      (∀ s' T m, Moved (S :: wr) G s s' → SetR w s'.heap S T m → MemI ks n T m → (∀ b o, h0.get? b = some o → s'.heap.get? b = some o) → R (.ok (.ret .none)) s') →
      codeAny (model P w) A (.builtin "set.update.loop" ⟨[.ref S, .ref I], []⟩) R s := by
  have hSw : S ∉ wr := fun h => hSf (W.sub _ h)
  have hsub : ∀ b ∈ wr, b ∈ S :: wr := fun b hb => List.mem_cons_of_mem _ hb
  have keepM : ∀ {s s' : Shared}, Moved wr G s s' → (∀ b o, h0.get? b = some o → s.heap.get? b = some o) → ∀ b o, h0.get? b = some o → s'.heap.get? b = some o := fun hm hkp b o e =>
    hm.heap b o (fun hb => by rw [hw0 b hb] at e; cases e) (hkp b o e)
  intro k
  induction k with
  | zero =>
    intro i s hk' hi hst hkp ⟨T, m, hS, g⟩ hR
    have hin : i = n := by omega
    subst hin
    refine codeAny_builtin F.entry_set_update_loop ?_
    rw [Around.under_plainId F.plain_set_update_loop _]
    show wpAny _ A.in1 (pyNext (.ref I) >>= _) _ _ s
    refine wpAny_bind (W.done s _ _ hst fun s' hm => ?_)
    show wpAny _ A.in1 (ret Value.none) _ _ s'
    exact wpAny_pure (hR s' T m (hm.mono hsub) (hS.at fun o e => hm.heap S o hSw e) g (keepM hm hkp))
  | succ k ih =>
    intro i s hk' hi hst hkp ⟨T, m, hS, g⟩ hR
    have hlt : i < n := by omega
    refine codeAny_builtin F.entry_set_update_loop ?_
    rw [Around.under_plainId F.plain_set_update_loop _]
    show wpAny _ A.in1 (pyNext (.ref I) >>= _) _ _ s
    refine wpAny_bind (W.item i s _ _ hlt hst fun v s' hP hst' hm => ?_)
    obtain ⟨c, t, hp, rfl⟩ := hval i v hP
    have hkp' := keepM hm hkp
    have hS' : SetR w s'.heap S T m := hS.at fun o e => hm.heap S o hSw e
    show wpAny _ A.in1 (holding [Value.int c t] (setAdd S (.int c t)) >>= _) _ _ s'
    refine wpAny_bind (wpAny_holding ?_)
    unfold setAdd
    refine wpAny_holding ?_
    refine wpAny_bind ((intKind P w).pyHash (intKind_is P w c t) ?_)
    refine setR_add_hashed (s := { s' with toks := s'.toks + 1 }) hS' (by have := g.2; unfold scanBound; omega) fun h' hsb hS2 => ?_
    have g' := g.more hp
    have hkp2 : ∀ b o, h0.get? b = some o → h'.get? b = some o := fun b o e => (hsb.2 b (fun z => by rw [z, hS0] at e; cases e)).trans (hkp' b o e)
    refine wpAny_pure ⟨plainId_quiet F.plain_set_update_loop _, ih (i + 1) _ (by omega) hlt (W.frame _ s' _ _ hst' (Nat.le_add_right _ _) fun b hb o e => ?_) hkp2 ⟨_, _, hS2, g'⟩ fun s'' T2 m2 hm'' hS'' g'' hkp'' => ?_⟩
    · rw [hsb.2 b (fun h : b = S => hSf (by rw [← h]; exact hb))]; exact e
    · refine hR s'' T2 m2 (Moved.trans W.gtrans ((hm.mono hsub).then_heap (Nat.le_add_right _ _) fun b o hb e => ?_) hm'') hS'' g'' hkp''
      rw [hsb.2 b (fun h : b = S => hb (by rw [h]; exact List.mem_cons_self))]; exact e
set_option maxRecDepth 100000 in
set_option maxHeartbeats 3200000 in
theorem call_set_intsA {l : Addr} {items : Array Value} (ks : List Int) {Q : Value → Shared → Prop} (hh : A.handled = none) (hl : s.heap.IsList l items) (hit : IntsAre items.toList ks) (hfew : ks.length ≤ 3000)
    (h : ∀ (h' : Heap) (tk : Nat) T m, SetR w h' s.heap.objs.size T m → MemI ks ks.length T m → (∀ b o, s.heap.get? b = some o → h'.get? b = some o) → Q (.ref s.heap.objs.size) { s with heap := h', toks := tk }) :
    wpAny (model P w) A (call (.type "set") [.ref l]) Q E s := by
  have hval0 : ∀ {vs : List Value} {ks : List Int}, IntsAre vs ks → vs.length = ks.length ∧ ∀ (i : Nat) (v : Value), vs[i]? = some v → ∃ k t, ks[i]? = some k ∧ v = Value.int k t := by
    intro vs ks q
    induction q with
    | nil => exact ⟨rfl, fun i v e => by simp at e⟩
    | @cons k t vs ks q ih =>
      refine ⟨by rw [List.length_cons, List.length_cons, ih.1], fun i v e => ?_⟩
      cases i with
      | zero =>
        simp at e
        exact ⟨k, t, by simp, e.symm⟩
      | succ i =>
        simp at e
        obtain ⟨a, b, c, d⟩ := ih.2 i v e
        exact ⟨a, b, by simpa using c, d⟩
  have hisz : items.size = ks.length := by
    have q := (hval0 hit).1
    rw [Array.length_toList] at q
    exact q
  obtain ⟨c, tl, hmro⟩ := F.called_set.mro
  have hmade := F.called_set.made
  have hsub := F.called_set.sub
  refine wpAny_call (codeAny_of_tree ?_)
  show wpAny _ _ (callAny (.type "set") _) _ _ _
  refine wpAny_pure ⟨Code.quiet_builtin _ (by decide +kernel), codeAny_builtin F.entry_type_call ?_⟩
  rw [Around.under_plain (weight_type_call_type "set" [.ref l] []) rfl]
  have h1 := F.called_set.notType
  have h2 := F.called_set.canCreate
  have hct := F.typeCall_set_1 (.ref l)
  repeat (any_goals (first | assumption | wp_step))
  refine codeAny_mono (code_set_led1 (.ref l) (E := E) (Q₁ := fun obj s₁ => obj = .ref s.heap.objs.size ∧ s₁ = { s with heap := s.heap.push { cls := .type "set", dict := none, data := .set #[] 0 (.fresh 0 0 (!w.params.followText "set-order")) } }) ⟨rfl, rfl⟩) fun r s₁ hr => ?_
  cases r with
  | error e => exact hr
  | ok fl =>
    cases fl with
    | ret obj =>
      obtain ⟨rfl, rfl⟩ := hr
      have hS : (s.heap.push { cls := .type "set", dict := none, data := .set #[] 0 (.fresh 0 0 (!w.params.followText "set-order")) }).get? s.heap.objs.size = some { cls := .type "set", dict := none, data := .set #[] 0 (.fresh 0 0 (!w.params.followText "set-order")) } := Heap.get?_push_size _ rfl
      have hT : Shared.TypeIs { s with heap := s.heap.push { cls := .type "set", dict := none, data := .set #[] 0 (.fresh 0 0 (!w.params.followText "set-order")) } } (.ref s.heap.objs.size) "set" := ⟨_, hS, rfl⟩
      have hli := F.called_set.init.lookup
      have hbi := F.called_set.init.bind (.ref s.heap.objs.size)
      repeat (any_goals (first | assumption | wp_step))
      refine codeAny_mono (codeAny_call_builtin (R := wants (fun r s₂ => r = .none ∧ ∃ h' tk T m, s₂ = { s with heap := h', toks := tk } ∧ SetR w h' s.heap.objs.size T m ∧ MemI ks ks.length T m ∧
          (∀ b o, s.heap.get? b = some o → h'.get? b = some o)) E) F.called_set.init.plain F.entry_set_init (check_set_init_1 hT ?_)) fun r₂ s₂ hr₂ => ?_
      · obtain ⟨ol, hol, hcl, nl, hdl⟩ := hl
        obtain ⟨ocls, odict, odata, oslots⟩ := ol
        simp only at hcl hdl
        subst hcl; subst hdl
        have hol' : (s.heap.push { cls := .type "set", dict := none, data := .set #[] 0 (.fresh 0 0 (!w.params.followText "set-order")) }).get? l = some { cls := .type "list", dict := odict, data := .seq items nl, slots := oslots } := Heap.get?_push_of_some _ hol
        have hsls := F.sub_list_set
        have hslf := F.sub_list_frozenset
        have hne : (Value.type "list" == Value.type "dict") = false := by decide
        have hl1 : (s.heap.push { cls := .type "set", dict := none, data := .set #[] 0 (.fresh 0 0 (!w.params.followText "set-order")) }).IsList l items := ⟨_, hol', rfl, nl, rfl⟩
        unfold Builtin.«set.__init__» noKeywords Builtin.Frozenset.updateFrom
        generalize hPI : pyIter = PI
        wp_walk
        subst hPI
        refine wpAny_pyIter_list hl1 ?_
        refine wpAny_bind (wpAny_runValue ?_)
        have hlS : l < s.heap.objs.size := Heap.lt_size hol
        have hh3 : A.in1.in1.in1.handled = none := by simp [hh]
        have hneI : l ≠ (s.heap.push { cls := .type "set", dict := none, data := .set #[] 0 (.fresh 0 0 (!w.params.followText "set-order")) }).objs.size := by
          rw [Heap.size_push]; exact Nat.ne_of_lt (Nat.lt_succ_of_lt hlS)
        have hSf : s.heap.objs.size ∉ [(s.heap.push { cls := .type "set", dict := none, data := .set #[] 0 (.fresh 0 0 (!w.params.followText "set-order")) }).objs.size, l] := by
          rw [Heap.size_push]; simp only [List.mem_cons, List.mem_singleton, List.not_mem_nil, or_false, not_or]
          exact ⟨Nat.ne_of_lt (Nat.lt_succ_self _), Nat.ne_of_gt hlS⟩
        have hval : ∀ (i : Nat) (v : Value), items[i]? = some v → ∃ k t, ks[i]? = some k ∧ v = .int k t := fun i v hv => (hval0 hit).2 i v (by rw [Array.getElem?_toList]; exact hv)
        have none_of : ∀ b, s.heap.objs.size ≤ b → s.heap.get? b = none := fun b hb => by
          cases q : s.heap.get? b with
          | none => rfl
          | some o => exact absurd (Nat.lt_of_lt_of_le (Heap.lt_size q) hb) (Nat.lt_irrefl _)
        refine set_update_intsA ((Walks.list hh3 _ l hneI items).toS) s.heap.objs.size
          hSf ks hisz hfew hval s.heap (none_of _ (Nat.le_refl _)) (fun b hb => none_of b (by
            rw [List.mem_singleton.mp hb, Heap.size_push]
            exact Nat.le_succ _)) (items.size - 0) 0 _ (by omega) (Nat.zero_le _)
          ⟨⟨_, Heap.get?_push_size _ rfl, rfl, rfl⟩, (hl1.push _)⟩ (fun b o e => Heap.get?_push_of_some _ (Heap.get?_push_of_some _ e)) ?hS0 ?hR
        case hS0 => exact ⟨_, _, (setR_fresh w).at fun o e => Heap.get?_push_of_some _ e, MemI.zero ks⟩
        case hR =>
          intro s' T m hm hS' g' hkp
          obtain ⟨h', g2, d', tk', os'⟩ := s'
          have eg : g2 = s.gens := hm.gens
          have ed : d' = s.drawn := hm.drawn
          have eo : os' = s.os := hm.os
          subst eg; subst ed; subst eo
          show wpAny _ _ _ _ _ _
          refine wpAny_pure ?_
          show wpAny _ _ (ret Value.none) _ _ _
          rw [hisz] at g'
          exact wpAny_pure ⟨rfl, h', tk', T, m, rfl, hS', g', hkp⟩
      · cases r₂ with
        | error e => exact hr₂
        | ok fl₂ =>
          cases fl₂ with
          | ret r =>
            obtain ⟨rfl, h', tk, T, m, rfl, hS', g', hk'⟩ := hr₂
            repeat (any_goals (first | assumption | wp_step))
            exact h _ _ _ _ hS' g' hk'
          | _ => exact hr₂.elim
    | _ => exact hr.elim
end
/-- set(l) of ints -/
def rSetIA (K : PySem.W.Frag) (w : World) : List V → Hp → VK → Prop := fun vs H Q => ∃ (a : Addr) (ns : List Int), vs = [.ref a] ∧ SqL K H a (ns.map V.int) ∧ ns.length ≤ 3000 ∧ ∀ (p : Addr) (S : Int → Bool) (n : Nat), H p = none → (∀ k, S k = true ↔ k ∈ ns) → n ≤ ns.length → Q (.ref p) (upd H p (SetO w p S n))
theorem cr_setIA {X : Cx} (hc : X.calm = true) : CallR X (.type "set") (rSetIA X.K X.w) := by
  intro pins s σ H vs us Q I r h
  obtain ⟨a, ns, rfl, hs, few, q⟩ := h
  obtain ⟨its, rv, hl, hz⟩ := I.list hs
  rw [Vals.ref1 r]
  have hi := rv.ints
  refine call_set_intsA ns (I.ok.hd hc) hl.isList (show PyProof.Rows.IntsAre its.toArray.toList ns from hi) few fun h' tk T m R g k => ?_
  refine ⟨.ref s.heap.objs.size, upd H s.heap.objs.size (SetO X.w s.heap.objs.size T m), I.laid (t' := tk) k (Nat.le_refl _) (setO_new R), rfl, q _ _ _ (I.hok.fresh (Nat.le_refl _)) (fun k => ?_) g.2⟩
  rw [g.1 k, List.take_length]
/-- sorted(set(l)) -/
def tSortSetA (K : PySem.W.Frag) (te : TE) : TE := fun σ H Q => te σ H fun x H1 => ∃ (a : Addr) (ns : List Int), x = .ref a ∧ SqL K H1 a (ns.map V.int) ∧ ns.length ≤ 3000 ∧
  ∀ (ys : List Int) (q p : Addr) (u : HO), H1 q = none → upd H1 q u p = none → ys.Pairwise (· < ·) → (∀ k, k ∈ ys ↔ k ∈ ns) → ys.length ≤ ns.length → Q (.ref p) (upd (upd H1 q u) p (.lst (ys.map V.int)))
theorem pe_sortSetA {X : Cx} {e : Expr} {te : TE} {p pos p2 pos2 : Pos} (hc : X.calm = true) (hg : Gl X "sorted") (hm : X.mg "sorted" = none) (hg2 : Gl X "set") (hm2 : X.mg "set" = none) (he : PE X e te)
    (hs : starEach [.Call (.Name "set" p2) [e] [] pos2] X.env = (false, eval (.Call (.Name "set" p2) [e] [] pos2) X.env) :: starEach [] X.env := by rfl)
    (hs2 : starEach [e] X.env = (false, eval e X.env) :: starEach [] X.env := by rfl) : PE X (.Call (.Name "sorted" p) [.Call (.Name "set" p2) [e] [] pos2] [] pos) (tSortSetA X.K te) := by
  have inner : PE X (.Call (.Name "set" p2) [e] [] pos2) (tCB (rSetIA X.K X.w) (tCons (tClo te) tNil)) := pe_callTy (cr_setIA hc) hg2 hm2 (by decide +kernel) (pa_cons (pe_clo he) pa_nil hs2) (he := hs2)
  have outer := pe_callB (p := p) (pos := pos) (cr_sortedSetA hc) hg hm (by decide +kernel) (pa_cons inner pa_nil hs) (he := hs)
  refine ⟨fun pins s σ H Q I h => outer.run pins s σ H Q I ⟨_, h, ?_⟩⟩
  rintro x H1 ⟨a, ns, rfl, hs, few, k⟩
  refine ⟨a, ns, rfl, hs, few, fun q S n hq mem hn => ⟨q, S, n, rfl, updS, by omega, fun ys p inc m2 len hp => ?_⟩⟩
  exact k ys q p _ hq hp inc (fun j => (m2 j).trans (mem j)) (by omega)
end Fw
set_option Elab.async false
set_option linter.all false
set_option maxRecDepth 100000
set_option maxHeartbeats 4000000
namespace Fw
open PySem PySem.Spec PyProof.Rows L2
end Fw
set_option Elab.async false
set_option linter.all false
set_option maxRecDepth 100000
set_option maxHeartbeats 4000000
namespace Fw
open PySem PySem.Spec PySem.Calls PyProof.Rows L2
/-- isinstance(e, c), e what the clause holds, with fields or without -/
def rIsU (K : PySem.W.Frag) (a : Addr) (cls : Value) (d : Option Addr) : List V → Hp → VK → Prop := fun xs H Q => ∃ C, cls = .ref C ∧ ExcC K C ∧ (d = none ∨ ∃ (dd : Addr) (fs : List (Str × V)), d = some dd ∧ H dd = some (.xd fs)) ∧ rIsE K C a xs H Q
theorem call_isU {X : Cx} {a : Addr} {cls : Value} {d : Option Addr} {oe : Obj} {pn : List (Addr × Obj)} (hz : Zc cls d oe) (hf : ∃ vs, oe.data = .fields vs) : CallR (X.suite a ((a, oe) :: pn)) (.builtin "isinstance") (rIsU X.K a cls d) := by
  intro pins s σ H xs us Q I r h
  obtain ⟨C, rfl, c, ⟨rfl⟩ | ⟨dd, fs, rfl, hd⟩, h⟩ := h
  · exact call_isE c hz hf pins s σ H xs us Q I r h
  · exact call_isF hz hf pins s σ H xs us Q I r ⟨C, dd, fs, rfl, rfl, hd, c, h⟩
def tRaiseO (E : XK) (C : Addr) (sp : Sp) (ta : TA) : TS := fun _ σ H => tMkO C sp [] ta σ H E
/-- the error, its name, and the field that is told -/
def ErrAt (K : PySem.W.Frag) (cls : Value) (d : Option Addr) (H : Hp) (X : Str) (x : V) : Prop :=
  cls = .ref (He.ga K X) ∧ ((X = "NoName" ∧ ∃ dd fs, d = some dd ∧ H dd = some (.xd fs) ∧ fs.lookup ("name" : Str) = some x) ∨ ((X = "NoThing" ∨ X = "TooMany") ∧ d = none ∧ x = .non))
end Fw
set_option Elab.async false
set_option linter.all false
set_option maxRecDepth 100000
set_option maxHeartbeats 4000000
namespace Fw
open PySem PySem.Spec PyProof.Rows L2
end Fw
set_option Elab.async false
set_option linter.all false
set_option maxRecDepth 100000
set_option maxHeartbeats 4000000
namespace Fw
open PySem L2 RZ RT
section
variable {K : PySem.W.Frag} {H H' : Hp} {Q : VK} {tl : XK → Hp → VK → Prop} {f c' : Addr} {q : Str}
theorem ErrAt.mono {cls : Value} {d : Option Addr} {X : Str} {x : V} (e : ErrAt K cls d H X x) (s : Same H H') : ErrAt K cls d H' X x := by
  obtain ⟨ec, ⟨h, dd, fs, h1, h2, h3⟩ | h⟩ := e
  · exact ⟨ec, .inl ⟨h, dd, fs, h1, s _ _ h2, h3⟩⟩
  · exact ⟨ec, .inr h⟩
end
end Fw
set_option Elab.async false
set_option linter.all false
set_option maxRecDepth 100000
set_option maxHeartbeats 4000000
namespace Fw
open PySem PySem.Spec PySem.Calls PyProof.Rows L2 RZ RT
end Fw
set_option Elab.async false
set_option linter.all false
set_option maxRecDepth 100000
set_option maxHeartbeats 4000000
namespace Fw
section
open PySem PySem.Spec PySem.Calls PyProof.Rows L2 RZ RT
/-- a caught error's field, whichever of the text's classes it is of -/
def tXfU (K : PySem.W.Frag) (a : Addr) (cls : Value) (d : Option Addr) (f : Str) (te : TE) : TE := fun σ H Q => te σ H fun x H1 => x = .ref a ∧ ∃ C : Addr, cls = .ref C ∧ XfC K C ∧ PySem.W.findIn K (.ref C) f = some none ∧ ∃ (dd : Addr) (fs : List (Str × V)) (v : V), d = some dd ∧ H1 dd = some (.xd fs) ∧ fs.lookup f = some v ∧ Q v H1
theorem pe_xfU {X : Cx} {a : Addr} {oe : Obj} {cls : Value} {d : Option Addr} {pn : List (Addr × Obj)} {e : Expr} {te : TE} {pos : Pos} {n : Str}
    (hz : Zc cls d oe) (hf : ∃ vs, oe.data = .fields vs) (he : PE (X.suite a ((a, oe) :: pn)) e te) (hb : attributeBase e n X.env (eval e X.env) = eval e X.env := by rfl) :
    PE (X.suite a ((a, oe) :: pn)) (.Attribute e n pos) (tXfU X.K a cls d n te) := by
  refine ⟨fun pins s σ H Q I h => ?_⟩
  refine attr_of hb (thn (he.run pins s σ H _ I h) fun u s1 hh => ?_)
  obtain ⟨x, H1, I1, rx, ex, C, ec, T, hno, dd, fs, v, ed, ea, l, q⟩ := hh
  subst ex
  obtain rfl : u = Value.ref a := rx
  subst ec
  subst ed
  obtain ⟨ha, _⟩ := I1.pin (a, oe) (List.mem_append_left _ List.mem_cons_self)
  obtain ⟨vs, hd⟩ := hf
  have hx : ObjOk X.prog X.w H1 s1.heap dd (.xd fs) := I1.hok dd _ ea
  obtain ⟨mA, hns, hr⟩ := hx
  obtain ⟨od, ho, hl⟩ := lookIn_ns hns
  obtain ⟨u, hu, ru⟩ := RelO.some_of (v := v) (o := mA n) (by rw [← l]; exact hr n)
  have J : PySem.W.InstAt s1.heap a oe C (some od) := ⟨ha, hz.1, by unfold PySem.W.notCls; rw [hd] <;> rfl, by rw [hz.2]; exact ho⟩
  exact HandSPX.exc_get I1.kIn J T.ga T.gg T.exC (PySem.W.findObj_own T.hdC hno rfl (by rw [hl, hu])) (handed_of ru) ⟨v, H1, I1.tok _, ru, q⟩
end
section
open PySem L2 RZ RT
/-- the classes that the law asks for -/
abbrev err8 : List Str := ["NoHouse", "Taken", "NoTalk", "TooMany", "NoMark", "Broken", "Lack", "NoName"]
structure EcT (K : PySem.W.Frag) (X : Str) : Prop where
  ec : ExcC K (He.ga K X)
  em : PySem.W.exmOne K (.ref (He.ga K X)) (.ref (He.ga K "HouseError")) = some true
  kv : PySem.W.kitOne K (.ref (He.ga K X)) (.type "ValueError") = some true
  k : ∀ Y ∈ err8, PySem.W.kitOne K (.ref (He.ga K X)) (.ref (He.ga K Y)) = some (decide (X = Y))
  xf : XfC K (He.ga K X)
  no : PySem.W.findIn K (.ref (He.ga K X)) "label" = some none
  oex : OexC K (He.ga K X)
  ini : PySem.W.findIn K (.ref (He.ga K X)) "__init__" = some (some (.ref (He.fAd K (X, some "__init__"))))
  tin : PySem.W.typeIn K (.ref (He.fAd K (X, some "__init__"))) = some (.type "function")
structure TownE (K : PySem.W.Frag) : Prop where
  nh : EcT K "NoHouse"
  tk : EcT K "Taken"
/-- the error, its name, and the label that it has -/
def TErr (K : PySem.W.Frag) (cls : Value) (d : Option Addr) (H : Hp) (X : Str) (x : V) : Prop := (X = "NoHouse" ∨ X = "Taken") ∧ cls = .ref (He.ga K X) ∧ ∃ (dd : Addr) (fs : List (Str × V)), d = some dd ∧ H dd = some (.xd fs) ∧ fs.lookup ("label" : Str) = some x
theorem TErr.mono {K : PySem.W.Frag} {H H' : Hp} {cls : Value} {d : Option Addr} {X : Str} {x : V} (e : TErr K cls d H X x) (s : Same H H') : TErr K cls d H' X x := by
  obtain ⟨h, c, dd, fs, h1, h2, h3⟩ := e
  exact ⟨h, c, dd, fs, h1, s _ _ h2, h3⟩
section
variable {K : PySem.W.Frag} {H H' : Hp} {Q : VK} {tl : XK → Hp → VK → Prop} {f c' : Addr} {q : Str}
theorem TErr.ec {cls : Value} {d : Option Addr} {X : Str} {x : V} (w : TownE K) (e : TErr K cls d H X x) : EcT K X := by
  obtain ⟨rfl | rfl, _⟩ := e
  · exact w.nh
  · exact w.tk
end
end
end Fw
set_option Elab.async false
set_option linter.all false
set_option maxRecDepth 100000
set_option maxHeartbeats 4000000
namespace Fw
open PySem PySem.Spec PyProof.Rows L2
end Fw
set_option Elab.async false
set_option linter.all false
set_option maxRecDepth 100000
set_option maxHeartbeats 4000000
namespace Fw
open PySem PySem.Spec PyProof.Rows L2
abbrev Cls_ : Type := Value × Option Nat × (Addr → Value → Option Addr → TS)
/-- what several clauses wish of an exception of the body, with a name or without, one after the other -/
def wTs (K : PySem.W.Frag) (Wout : WX) (D : Ends) : List Cls_ → WX
  | [] => Wout
  | (c, some i, ts) :: r => wAs K c i ts (wTs K Wout D r) D
  | (c, none, ts) :: r => fun cls d σ H => ∃ b, PySem.W.exmOne K cls c = some b ∧ (b = true → ∀ a, H a = none → ts a cls d D σ H) ∧ (b = false → wTs K Wout D r cls d σ H)
def tTryL (K : PySem.W.Frag) (l : List Cls_) (tb : WX → TS) : TS := fun D σ H => tb (wTs K (fun _ _ _ _ => False) D l) D σ H
inductive HdsA (X : Cx) : List ExceptHandler → List Cls_ → Prop
  | nil : HdsA X [] []
  | plain {x : Str} {c : Value} {ts : Addr → Value → Option Addr → TS} {b₀ : Stmt} {suite : List Stmt} {np pos' : Pos} {hds : List ExceptHandler} {l : List Cls_} (hc : Names X x c)
      (hsu : ∀ (a : Addr) (oe : Obj) (cls : Value) (d : Option Addr) (pn : List (Addr × Obj)), Zc cls d oe → (∃ vs, oe.data = .fields vs) → PSs (X.suite a ((a, oe) :: pn)) (b₀ :: suite) (ts a cls d)) (r : HdsA X hds l) :
      HdsA X (.ExceptHandler (some (.Name x np)) none (b₀ :: suite) pos' :: hds) ((c, none, ts) :: l)
  | named {x n : Str} {i : Nat} {c : Value} {ts : Addr → Value → Option Addr → TS} {b₀ : Stmt} {suite : List Stmt} {np pos' : Pos} {hds : List ExceptHandler} {l : List Cls_} (hN : X.N.Nodup) (hi : X.N[i]? = some n) (hln : X.env.kindOf n = some .local) (hc : Names X x c)
      (hsu : ∀ (a : Addr) (oe : Obj) (cls : Value) (d : Option Addr) (pn : List (Addr × Obj)), Zc cls d oe → (∃ vs, oe.data = .fields vs) → PSs (X.suite a ((a, oe) :: pn)) (b₀ :: suite) (ts a cls d)) (r : HdsA X hds l) :
      HdsA X (.ExceptHandler (some (.Name x np)) (some n) (b₀ :: suite) pos' :: hds) ((c, some i, ts) :: l)
section
variable {X : Cx} {body : List Stmt} {h₀ : ExceptHandler} {hds : List ExceptHandler} {l : List Cls_} {pos : Pos} {tb : WX → TS}
theorem ps_try_list (hs : X.stack = X.env :: X.outer) (hf : X.env.frame = some X.env.locals)
    (hb : ∀ (W : WX) (pn : List (Addr × Obj)) (xe : Value → Shared → Prop), Takes (X.tr pn xe) W → PassesOwn (model X.prog X.w) X.A X.env xe → PSs (X.tr pn xe) body (tb W))
    (hh : HdsA X (h₀ :: hds) l) : L2.PS X (.Try body (h₀ :: hds) [] [] pos) (tTryL X.K l tb) := by
  refine ⟨fun pins s σ H D I h => ?_⟩
  have ok := I.ok
  have hfr : X.A.frames = some (X.env :: X.outer) := by rw [ok.frames, hs]
  refine wpAny_Try_except ?_
  have bodyOk := (hb (wTs X.K (fun _ _ _ _ => False) D l) (X.pn ++ pins) (fun e s₁ => wpAny (model X.prog X.w) X.A (noteFrame e X.env) (fun _ s₂ => wpAny (model X.prog X.w) X.A (setFlight e none) (fun _ s₃ =>
    wpAny (model X.prog X.w) X.A (handleBy e X.env (h₀ :: hds)) (SP X pins D) X.xe s₃) X.xe s₂) X.xe s₁) (fun u s' xx => ?_) PassesOwn.looking).run [] s σ H D (I.toTry _) h
  · refine wpAny_mono bodyOk (fun f s1 hsp => ?_) (fun e s1 he => he)
    cases f with
    | next =>
      obtain ⟨σ', H', J', q⟩ := hsp
      exact wpAny_execs_nil ⟨σ', H', J'.ofTry ok, q⟩
    | brk =>
      obtain ⟨σ', H', J', q⟩ := hsp
      exact ⟨σ', H', J'.ofTry ok, q⟩
    | cont =>
      obtain ⟨σ', H', J', q⟩ := hsp
      exact ⟨σ', H', J'.ofTry ok, q⟩
    | ret u =>
      obtain ⟨v, σ', H', J', r, q⟩ := hsp
      exact ⟨v, σ', H', J'.ofTry ok, r, q⟩
  · obtain ⟨a, B, sI, pins', σ', H', cls, d, rfl, J', nb, up, sky, na, os, ag, w⟩ := xx
    have J : Inv X pins σ' H' sI := J'.ofTry ok
    have sky' : Sky B (X.env :: X.outer) a (Zc cls d) X.env.locals s'.heap := by rw [← hs]; exact sky
    show wpAny (model X.prog X.w) X.A (noteFrame (.ref a) X.env) _ _ _
    refine Sky.land Zc.steady hfr hf sky' fun h3 fl3 up3 => ?_
    have J3 : Inv X pins σ' H' { s' with heap := h3 } := J.landed nb fl3.1 (up.trans up3) os ag
    obtain ⟨oe3, vs3, he3, hz3, hd3⟩ := fl3.there
    have nfr : a ∉ frs (X.env :: X.outer) := fun hm => by
      obtain ⟨_, o', e', hnf⟩ := fl3.2.2.1.mem hm
      rw [he3] at e'; cases e'
      exact hnf _ hd3
    have nL : a ≠ X.env.locals := fun z => nfr (List.mem_filterMap.mpr ⟨X.env, List.mem_cons_self, by rw [hf, z]⟩)
    have nF : a ∉ X.fs := fun hm => by
      obtain ⟨e, he, q⟩ := List.mem_filterMap.mp hm
      exact nfr (List.mem_filterMap.mpr ⟨e, List.mem_cons_of_mem _ he, q⟩)
    have S3 := J3.suite he3 hd3 na nL nF
    have looks : ∀ {c : Value} {b : Bool}, PySem.W.exmOne X.K cls c = some b → _ := fun {c b} hb1 =>
      PySem.W.exm_one (M := model X.prog X.w) (J3.kIn) (fun A Q E s k q => wpAny_typeOf_ref (k _ _ he3) (by rw [hz3.1]; exact q) : PySem.W.Looks (model X.prog X.w) h3 (typeOf (.ref a)) cls) hb1
    have test : ∀ {x : Str} {c : Value} {np : Pos} {Q : Value → Shared → Prop} {E : Value → Shared → Prop}, Names X x c → Q c { s' with heap := h3 } → wpAny (model X.prog X.w) (X.A.mark (some (.ref a))) (eval (.Name x np) X.env) Q E { s' with heap := h3 } := fun {x c np Q E} hc q => by
      obtain ⟨hg, hdbg, hm | ⟨hm, hv, hnn⟩⟩ := hc
      · exact ld_glob (X := X.suite a ((a, oe3) :: (X.pn ++ pins))) S3 hg hm q hdbg
      · exact ld_blt (X := X.suite a ((a, oe3) :: (X.pn ++ pins))) S3 hg hm hv q hnn hdbg
    have go : ∀ {hds' : List ExceptHandler} {l' : List Cls_}, HdsA X hds' l' → wTs X.K (fun _ _ _ _ => False) D l' cls d σ' H' →
        wpAny (model X.prog X.w) X.A (handleBy (.ref a) X.env hds') (SP X pins D) X.xe { s' with heap := h3 } := by
      intro hds' l' hk
      induction hk with
      | nil => exact fun w => w.elim
      | @plain x c ts b₀ suite np pos' hds2 l2 hc hsu r ih =>
        intro w
        obtain ⟨b, hb1, hyes, hno⟩ := w
        refine wpAny_handleBy_cons (codeAny_handlers_test ?_) (by intro q; cases q)
        refine test hc ((looks hb1).here ?_)
        cases b with
        | true =>
          refine codeAny_handlers_suite ?_
          refine HandSPX.lands_againZ fl3 fun h4 fl4 up4 => ?_
          have J4 : Inv X pins σ' H' { s' with heap := h4 } := J.landed nb fl4.1 ((up.trans up3).trans up4) os ag
          obtain ⟨oe4, vs4, he4, hz4, hd4⟩ := fl4.there
          have S4 := J4.suite he4 hd4 na nL nF
          refine wpAny_mono ((hsu a oe4 cls d (X.pn ++ pins) hz4 ⟨_, hd4⟩).run [] _ _ H' _ S4 (hyes rfl a na)) (fun f s6 hsp => ?_) (fun _ _ z => False.elim z)
          cases f with
          | next =>
            obtain ⟨σ6, H6, S6, q6⟩ := hsp
            exact ⟨_, _, S6.unsuite ok, q6⟩
          | brk =>
            obtain ⟨σ6, H6, S6, q6⟩ := hsp
            exact ⟨_, _, S6.unsuite ok, q6⟩
          | cont =>
            obtain ⟨σ6, H6, S6, q6⟩ := hsp
            exact ⟨_, _, S6.unsuite ok, q6⟩
          | ret u =>
            obtain ⟨v6, σ6, H6, S6, r6, q6⟩ := hsp
            exact ⟨_, _, _, S6.unsuite ok, r6, q6⟩
        | false =>
          show wpAny _ X.A (handleBy (.ref a) X.env hds2) _ _ _
          exact ih (hno rfl)
      | @named x n i c ts b₀ suite np pos' hds2 l2 hN hi hln hc hsu r ih =>
        intro w
        obtain ⟨b, hb1, hyes, hno⟩ := w
        refine wpAny_handleBy_cons (codeAny_handlers_test ?_) (by intro q; cases q)
        refine test hc ((looks hb1).here ?_)
        cases b with
        | true =>
          refine codeAny_handlers_suite_as ?_
          refine HandSPX.lands_againZ fl3 fun h4 fl4 up4 => ?_
          have J4 : Inv X pins σ' H' { s' with heap := h4 } := J.landed nb fl4.1 ((up.trans up3).trans up4) os ag
          obtain ⟨oe4, vs4, he4, hz4, hd4⟩ := fl4.there
          have S4 := J4.suite he4 hd4 na nL nF
          refine store_ok (X := X.suite a ((a, oe4) :: (X.pn ++ pins))) (v := .ref a) S4 hN hi (.inl hln) rfl (fun s5 S5 => ?_) (.inr hln)
          refine wpAny_mono ((hsu a oe4 cls d (X.pn ++ pins) hz4 ⟨_, hd4⟩).run [] s5 _ H' _ S5 (hyes rfl a na)) (fun f s6 hsp => ?_) (fun _ _ z => False.elim z)
          have end_ : ∀ {σ6 : L2.St} {H6 : Hp} {Q : Shared → Prop}, Inv (X.suite a ((a, oe4) :: (X.pn ++ pins))) [] σ6 H6 s6 → (∀ s7, Inv X pins (σ6.set i none) H6 s7 → Q s7) →
              wpAny (model X.prog X.w) X.A (do bindName X.env n .none; unbindBehindTheSuite X.env n pos') (fun _ s7 => Q s7) X.xe s6 := fun {σ6 H6 Q} S6 hq => gone_ok (S6.unsuite ok) hN hi hln hq
          cases f with
          | next =>
            obtain ⟨σ6, H6, S6, q6⟩ := hsp
            exact end_ S6 fun s7 J7 => ⟨_, _, J7, q6⟩
          | brk =>
            obtain ⟨σ6, H6, S6, q6⟩ := hsp
            exact end_ S6 fun s7 J7 => ⟨_, _, J7, q6⟩
          | cont =>
            obtain ⟨σ6, H6, S6, q6⟩ := hsp
            exact end_ S6 fun s7 J7 => ⟨_, _, J7, q6⟩
          | ret u =>
            obtain ⟨v6, σ6, H6, S6, r6, q6⟩ := hsp
            exact end_ S6 fun s7 J7 => ⟨_, _, _, J7, r6, q6⟩
        | false =>
          show wpAny _ X.A (handleBy (.ref a) X.env hds2) _ _ _
          exact ih (hno rfl)
    exact go hh w
end
end Fw
set_option Elab.async false
set_option linter.all false
set_option maxRecDepth 100000
set_option maxHeartbeats 1000000
namespace Fw
open PySem L2 RZ RT
theorem inhB_ok {K : PySem.W.Frag} {C B : Str} {ms : List Str} (h : inhB K C B ms = true) : ∀ m ∈ ms, Meth K (He.ga K C) m (He.fAd K (B, some m)) := fun m hm => by
  have h := List.all_eq_true.mp h m hm
  obtain ⟨h1, h⟩ := He.ba h
  obtain ⟨h2, h3⟩ := He.ba h
  exact ⟨of_decide_eq_true h1, h2, h3⟩
end Fw
set_option Elab.async false
set_option linter.all false
set_option maxRecDepth 100000
set_option maxHeartbeats 1000000
namespace Fw
open PySem L2 RZ RT
end Fw
set_option Elab.async false
set_option linter.all false
set_option maxRecDepth 100000
set_option maxHeartbeats 4000000
namespace Fw
open PySem L2 RZ RT
theorem Same.updA {H H' : Hp} {q : Addr} {o : HO} (s : Same H H') (n : H q = none) : Same H (L2.upd H' q o) := fun b u e => updN (ne_of_none e n) (s b u e)
/-- the parents that the view holds -/
def parA (cs : List Ct) (ns : List Int) (v : Int) : List Int := (parsOf cs v).filter fun p => decide (p ∈ ns)
/-- come to in so many steps -/
def RchN (cs : List Ct) (ns : List Int) (S : Int → Prop) : Nat → Int → Prop
  | 0, x => S x
  | k + 1, x => RchN cs ns S k x ∨ ∃ u, RchN cs ns S k u ∧ x ∈ parA cs ns u
/-- u stands ahead of x -/
def Bef (l : List Int) (u x : Int) : Prop := ∃ a b, l = a ++ x :: b ∧ u ∈ a
theorem Bef.app {l m : List Int} {u x : Int} (h : Bef l u x) : Bef (l ++ m) u x := by
  obtain ⟨a, b, rfl, hu⟩ := h
  exact ⟨a, b ++ m, by simp, hu⟩
theorem Bef.snoc {l : List Int} {u x : Int} (h : u ∈ l) : Bef (l ++ [x]) u x := ⟨l, [], rfl, h⟩
theorem Bef.mem {l : List Int} {u x : Int} (h : Bef l u x) : x ∈ l ∧ u ∈ l := by
  obtain ⟨a, b, rfl, hu⟩ := h
  exact ⟨by simp, List.mem_append_left _ hu⟩
structure SprI (cs : List Ct) (ns : List Int) (S : Int → Prop) (k : Nat) (ks ws : List Int) (f : Int → Option Int) : Prop where
  nd : ks.Nodup
  mem : ∀ x, x ∈ ks ↔ RchN cs ns S k x
  src : ∀ x ∈ ks, (f x = none ↔ S x)
  up : ∀ x u, f x = some u → x ∈ parA cs ns u ∧ Bef ks u x
  wk : ∀ x ∈ ws, x ∈ ks
  cl : ∀ x ∈ ks, x ∉ ws → ∀ p ∈ parA cs ns x, p ∈ ks
structure SprM (cs : List Ct) (ns : List Int) (S : Int → Prop) (ks cm : List Int) (f : Int → Option Int) : Prop where
  nd : (ks ++ cm).Nodup
  src : ∀ x ∈ ks ++ cm, (f x = none ↔ S x)
  up : ∀ x u, f x = some u → x ∈ parA cs ns u ∧ Bef (ks ++ cm) u x
  cmu : ∀ x ∈ cm, ∃ u ∈ ks, x ∈ parA cs ns u
structure SprOk (cs : List Ct) (ns : List Int) (S : Int → Prop) (k : Nat) (ks : List Int) (f : Int → Option Int) : Prop where
  nd : ks.Nodup
  mem : ∀ x, x ∈ ks ↔ RchN cs ns S k x
  src : ∀ x ∈ ks, (f x = none ↔ S x)
  up : ∀ x u, f x = some u → x ∈ parA cs ns u ∧ Bef ks u x
section
variable {cs : List Ct} {ns : List Int} {S : Int → Prop} {k : Nat} {ks ws cm : List Int} {f : Int → Option Int}
theorem lt_nodupA {ns : List Int} (h : ns.Pairwise (· < ·)) : ns.Nodup := h.imp fun {a b} h e => by omega
theorem len_subA {fs vs : List Int} (nd : fs.Nodup) (h : ∀ x ∈ fs, x ∈ vs) : fs.length ≤ vs.length := sub_len nd h
theorem SprM.add (h : SprM cs ns S ks cm f) (hS : ∀ x, S x → x ∈ ks) {v p : Int} (hv : v ∈ ks) (hp : p ∈ parA cs ns v) (hn : p ∉ ks ++ cm) : SprM cs ns S ks (cm ++ [p]) (fun x => if x = p then some v else f x) := by
  have e0 : ks ++ (cm ++ [p]) = ks ++ cm ++ [p] := (List.append_assoc ..).symm
  refine ⟨?_, fun x hx => ?_, fun x u e => ?_, fun x hx => ?_⟩
  · rw [e0, List.nodup_append]
    exact ⟨h.nd, by simp, fun y hy z hz e => hn (by rw [List.mem_singleton.mp hz] at e; rw [← e]; exact hy)⟩
  · rw [e0] at hx
    by_cases q : x = p
    · rw [if_pos q]
      exact ⟨(fun z => nomatch z), fun z => absurd (List.mem_append_left cm (hS x z)) (by rw [q]; exact hn)⟩
    · rw [if_neg q]
      refine h.src x ((List.mem_append.mp hx).elim id fun z => absurd (List.mem_singleton.mp z) q)
  · rw [e0]
    by_cases q : x = p
    · rw [if_pos q] at e
      cases Option.some.inj e
      rw [q]
      exact ⟨hp, Bef.snoc (List.mem_append_left _ hv)⟩
    · rw [if_neg q] at e
      exact ⟨(h.up x u e).1, (h.up x u e).2.app⟩
  · rcases List.mem_append.mp hx with hx | hx
    · exact h.cmu x hx
    · rw [List.mem_singleton.mp hx]
      exact ⟨v, hv, hp⟩
theorem SprI.next {f' : Int → Option Int} (h : SprI cs ns S k ks ws f) (m : SprM cs ns S ks cm f') (dn : ∀ u ∈ ws, ∀ p ∈ parA cs ns u, p ∈ ks ++ cm) : SprI cs ns S (k + 1) (ks ++ cm) cm f' := by
  refine ⟨m.nd, fun x => ⟨fun hx => ?_, fun hx => ?_⟩, m.src, m.up, fun x hx => List.mem_append_right _ hx, fun x hx hn p hp => ?_⟩
  · rcases List.mem_append.mp hx with hx | hx
    · exact .inl ((h.mem x).mp hx)
    · obtain ⟨u, hu, hp⟩ := m.cmu x hx
      exact .inr ⟨u, (h.mem u).mp hu, hp⟩
  · rcases hx with hx | ⟨u, hu, hp⟩
    · exact List.mem_append_left _ ((h.mem x).mpr hx)
    · have hu := (h.mem u).mpr hu
      by_cases q : u ∈ ws
      · exact dn u q x hp
      · exact List.mem_append_left _ (h.cl u hu q x hp)
  · have hx : x ∈ ks := (List.mem_append.mp hx).elim id fun z => absurd z hn
    by_cases q : x ∈ ws
    · exact dn x q p hp
    · exact List.mem_append_left _ (h.cl x hx q p hp)
theorem RchN.le {j : Nat} {x : Int} : ∀ {k : Nat}, j ≤ k → RchN cs ns S j x → RchN cs ns S k x
  | 0, h, r => by rw [Nat.le_zero.mp h] at r; exact r
  | k + 1, h, r => by
    by_cases q : j = k + 1
    · rw [q] at r; exact r
    · exact .inl (RchN.le (by omega) r)
theorem RchN.out (h : ∀ x, RchN cs ns S k x → ∀ p ∈ parA cs ns x, RchN cs ns S k p) {x : Int} : ∀ {j : Nat}, RchN cs ns S j x → RchN cs ns S k x
  | 0, r => RchN.le (Nat.zero_le _) r
  | j + 1, r => by
    rcases r with r | ⟨u, r, hp⟩
    · exact RchN.out h r
    · exact h u (RchN.out h r) x hp
theorem SprI.done (h : SprI cs ns S k ks ws f) {n : Nat} (hk : k ≤ n) (e : ws = [] ∨ k = n) : SprOk cs ns S n ks f := by
  refine ⟨h.nd, fun x => (h.mem x).trans ⟨RchN.le hk, fun r => ?_⟩, h.src, h.up⟩
  rcases e with rfl | rfl
  · exact RchN.out (fun y hy p hp => (h.mem p).mp (h.cl y ((h.mem y).mpr hy) (fun z => nomatch z) p hp)) r
  · exact r
theorem SprOk.sub (h : SprOk cs ns S k ks f) (hS : ∀ x, S x → x ∈ ns) : ∀ x ∈ ks, x ∈ ns := fun x hx => by
  have : ∀ k x, RchN cs ns S k x → x ∈ ns := by
    intro k
    induction k with
    | zero => exact fun x hx => hS x hx
    | succ k ih =>
      rintro x (r | ⟨u, _, hp⟩)
      · exact ih x r
      · exact of_decide_eq_true (List.mem_filter.mp hp).2
  exact this k x ((h.mem x).mp hx)
end
section
variable [HasW] {K : PySem.W.Frag} {vs : List V} {H : Hp} {Q : VK} {E : XK}
/-- the versions that a view holds are versions, their parents too -/
theorem ver_of {b : BkA} {cs : List Ct} {as : List Addr} {ns : List Int} (bk : BkAt K H b cs as) (nm : NmOk cs ns) {x : Int} (hx : x ∈ ns) (hv : isV cs x = true) : ∃ (i : Nat) (ps : List Int) (r s : Int), x = (i : Int) ∧ cs[i]? = some (.ver ps r s) ∧ ps.length ≤ 4 ∧ ∀ p ∈ ps, isV cs p = true := by
  obtain ⟨i, c, rfl, hc⟩ := nm.get hx
  obtain ⟨ps, r, s, rfl⟩ := isV_ver hc hv
  have fo := bk.ok _ (List.mem_of_getElem? hc)
  refine ⟨i, ps, r, s, rfl, hc, fo.1.1, fun p hp => ?_⟩
  have ib := fo.2
  unfold Ct.inB at ib
  rw [Bool.and_eq_true] at ib
  have := List.all_eq_true.mp ib.1 p hp
  unfold hasK at this
  rw [Bool.and_eq_true, Bool.and_eq_true, List.contains_iff_mem, List.mem_singleton] at this
  exact decide_eq_true this.2.2
end
end Fw
set_option Elab.async false
set_option linter.all false
set_option maxRecDepth 100000
set_option maxHeartbeats 4000000
namespace Fw
open PySem PySem.Spec PyProof.Rows L2
end Fw
set_option Elab.async false
set_option linter.all false
set_option maxRecDepth 100000
set_option maxHeartbeats 4000000
namespace Fw
open PySem PySem.Spec PyProof.Rows L2
end Fw
set_option Elab.async false
set_option linter.all false
set_option maxRecDepth 100000
set_option maxHeartbeats 4000000
namespace Fw
open PySem L2 RZ RT
def partsN (cs : List Ct) (n : Int) : List Int := (cs.getD n.toNat (.leaf [])).parts
theorem partsN_at {cs : List Ct} {n : Nat} {c : Ct} (h : cs[n]? = some c) : partsN cs (n : Int) = c.parts := by
  unfold partsN
  rw [getD_nat h]
theorem len_sub : ∀ {fs vs : List Int}, fs.Nodup → (∀ x ∈ fs, x ∈ vs) → fs.length ≤ vs.length
  | [], _, _, _ => Nat.zero_le _
  | x :: fs, vs, nd, h => by
    rw [List.nodup_cons] at nd
    have hx := h x List.mem_cons_self
    have e : (vs.erase x).length = vs.length - 1 := List.length_erase_of_mem hx
    have pos : 0 < vs.length := List.length_pos_of_mem hx
    have := len_sub (vs := vs.erase x) nd.2 fun y hy => (List.mem_erase_of_ne fun z => nd.1 (by rw [← z]; exact hy)).mpr (h y (List.mem_cons_of_mem _ hy))
    rw [List.length_cons]
    omega
theorem NmOk.mem {cs : List Ct} {ns : List Int} (h : NmOk cs ns) {n : Int} (hn : n ∈ ns) : n ∈ (List.range cs.length).map Int.ofNat := by
  have := h n hn
  obtain ⟨m, rfl⟩ := Int.eq_ofNat_of_zero_le this.1
  exact List.mem_map.mpr ⟨m, List.mem_range.mpr (by have := this.2; rwa [Int.toNat_natCast] at this), rfl⟩
theorem NmOk.len {cs : List Ct} {ns : List Int} (h : NmOk cs ns) (nd : ns.Nodup) : ns.length ≤ cs.length := by
  have := len_sub nd fun x hx => h.mem hx
  rwa [List.length_map, List.length_range] at this
/-- the parts of a content of a family are names of it -/
theorem FamOk.parts {cs : List Ct} (f : FamOk cs) {n : Nat} {c : Ct} (h : cs[n]? = some c) : NmOk cs c.parts := fun p hp => by
  have inb := f.inb n c h
  have lt : ∀ {ks : List Str} {p : Int}, hasK (cs.take n) ks p = true → 0 ≤ p ∧ p.toNat < cs.length := fun q => by
    have := hasK_lt q
    rw [List.length_take] at this
    exact ⟨this.1, by omega⟩
  cases c with
  | leaf rows => exact nomatch hp
  | tree es =>
    unfold Ct.inB at inb
    rw [Bool.and_eq_true] at inb
    obtain ⟨e, he, rfl⟩ := List.mem_map.mp (show p ∈ es.map (·.2) from hp)
    exact lt (List.all_eq_true.mp inb.1 e he)
  | ver ps r s =>
    unfold Ct.inB at inb
    rw [Bool.and_eq_true] at inb
    rcases List.mem_append.mp (show p ∈ ps ++ [r] from hp) with h | h
    · exact lt (List.all_eq_true.mp inb.1 p h)
    · rw [List.mem_singleton.mp h]
      exact lt inb.2
/-- some of the ints of a walk, the test may draw -/
theorem lc_sub {J : It} {n : Nat} {G : Hp → Prop} {Y : Nat → Hp → V → Hp → Prop} {ns : List Int} (w : Walk J n G Y) (hY : ∀ i H x H', Y i H x H' → H' = H ∧ (ns.map V.int)[i]? = some x) {k : Nat} {tt : TT} {σ : L2.St} {H1 : Hp} {L : Addr} {Qd : Hp → Prop} (Pv : Nat → Hp → Prop) (φ : Int → Prop) (hk : k < σ.length)
    (hl : ns.length = n) (hz : n ≤ 100000) (h0 : Pv 0 (L2.upd H1 L (.lst []))) (hG : ∀ i H', Pv i H' → G H') (up : ∀ i H' o, Pv i H' → Pv i (L2.upd H' L o))
    (hs : ∀ (i : Nat) (v : Int) (H' : Hp) (R : Bool → Hp → Prop), ns[i]? = some v → Pv i H' → (∀ b H'', (b = true → φ v) → Pv (i + 1) H'' → H'' L = H' L → R b H'') → tt ((wipe σ [k]).set k (some (.int v))) H' R)
    (hd : ∀ (H' : Hp) (ms : List Int), Pv n H' → ms.Sublist ns → (∀ m ∈ ms, φ m) → H' L = some (.lst (ms.map V.int)) → Qd H') :
    ∃ W : Nat → Nat → Hp → Prop, (∃ m, W 0 m (L2.upd H1 L (.lst []))) ∧ ∀ i m H, W i m H →
      (J.stop i H ∧ Qd H) ∨ (J.go i H ∧ ∃ Nx : Hp → Prop, (∀ H', Nx H' → ∃ m', m' < m ∧ W (i + 1) m' H') ∧ ∀ x H', J.yld i H x H' → gName k x (wipe σ [k]) H' fun σ2 H2 => wipe σ2 [k] = wipe σ [k] ∧ tt σ2 H2 fun b H3 =>
        if b = true then tVar k σ2 H3 fun y H4 => ∃ acc, H4 L = some (.lst acc) ∧ acc.length < sizeLine ∧ Nx (L2.upd H4 L (.lst (acc ++ [y]))) else Nx H3) := by
  refine lc_it w (fun i H => Pv i H ∧ ∃ ms : List Int, ms.Sublist (ns.take i) ∧ (∀ m ∈ ms, φ m) ∧ H L = some (.lst (ms.map V.int))) ⟨h0, [], List.nil_sublist _, (fun _ z => nomatch z), updS⟩ (fun i H _ q => hG i H q.1) (fun i x H H' hi q hy => ?_) fun H ⟨p, ms, hm, hf, e⟩ => hd H ms p (by rw [List.take_of_length_le (by omega)] at hm; exact hm) hf e
  obtain ⟨rfl, hx⟩ := hY i H x H' hy
  obtain ⟨pv, ms, hm, hf, e⟩ := q
  rw [List.getElem?_map] at hx
  have hv : ns[i]? = some ns[i] := List.getElem?_eq_getElem (by omega)
  rw [hv] at hx
  cases Option.some.inj hx
  have eT : ns.take (i + 1) = ns.take i ++ [ns[i]] := by rw [List.take_succ, hv]; rfl
  refine ⟨?_, hs i _ _ _ hv pv fun b H'' bf p2 e2 => ?_⟩
  · show (((σ.set k none).set k _).set k none) = σ.set k none
    rw [List.set_set, List.set_set]
  have lm := hm.length_le
  rw [List.length_take] at lm
  rw [e] at e2
  refine ite2 (fun eb => ?_) fun _ => ⟨p2, ms, by rw [eT]; exact hm.trans (List.sublist_append_left _ _), hf, e2⟩
  refine ⟨.int ns[i], List.getElem?_set_self (show k < (σ.set k none).length by rw [List.length_set]; exact hk), _, e2, ?_, up _ _ _ p2, ms ++ [ns[i]], by rw [eT]; exact hm.append_right _, fun m hm => (List.mem_append.mp hm).elim (hf m) fun z => by rw [List.mem_singleton.mp z]; exact bf eb, by rw [updS, List.map_append]; rfl⟩
  rw [List.length_map]
  exact Nat.lt_of_le_of_lt (show ms.length ≤ 100000 by omega) (by decide)
theorem fl_ints : ∀ ns : List Int, (ns.map V.int).all flatV = true
  | [] => rfl
  | n :: r => by rw [List.map_cons, List.all_cons, fl_ints r]; rfl
theorem i_ints (w : Int) : ∀ ns : List Int, inV (.int w) (ns.map V.int) = decide (w ∈ ns)
  | [] => by simp [inV]
  | n :: r => by
    have ih := i_ints w r
    unfold inV at ih ⊢
    rw [List.map_cons, List.any_cons, ih]
    show ((n == w) || _) = _
    by_cases h : n = w
    · simp [h]
    · have : w ≠ n := fun e => h e.symm
      simp [h, this]
theorem NmOk.sub {cs : List Ct} {ns ms : List Int} (h : NmOk cs ns) (s : ∀ x ∈ ms, x ∈ ns) : NmOk cs ms := fun n hn => h n (s n hn)
theorem range_ok (cs : List Ct) : NmOk cs ((List.range cs.length).map Int.ofNat) := fun n hn => by
  obtain ⟨m, hm, rfl⟩ := List.mem_map.mp hn
  exact ⟨Int.natCast_nonneg _, List.mem_range.mp hm⟩
theorem rgV_names {k : Nat} : rgV 0 (k : Int) = ((List.range k).map Int.ofNat).map V.int := by
  unfold rgV
  rw [Int.sub_zero, Int.toNat_natCast, List.map_map]
  refine List.map_congr_left fun i _ => ?_
  rw [Int.zero_add]
  rfl
end Fw
set_option Elab.async false
set_option linter.all false
set_option maxRecDepth 100000
set_option maxHeartbeats 4000000
namespace Fw
open PySem L2 RZ RT
/-- come to in any number of steps -/
def Lw (cs : List Ct) (ns : List Int) (new x : Int) : Prop := ∃ k, RchN cs ns (fun y => y = new) k x
/-- a version's parents are lower names -/
def LowP (cs : List Ct) : Prop := ∀ (i : Nat) (ps : List Int) (r s : Int), cs[i]? = some (.ver ps r s) → ∀ p ∈ ps, p < (i : Int)
theorem par_low {cs : List Ct} {ns : List Int} (lo : LowP cs) (nm : NmOk cs ns) {u x : Int} (hu : u ∈ ns) (h : x ∈ parA cs ns u) : x < u ∧ x ∈ ns := by
  obtain ⟨i, c, rfl, hc⟩ := nm.get hu
  unfold parA at h
  obtain ⟨h1, h2⟩ := List.mem_filter.mp h
  refine ⟨?_, of_decide_eq_true h2⟩
  cases c with
  | leaf rows =>
    unfold parsOf at h1
    rw [getD_nat hc] at h1
    exact nomatch h1
  | tree es =>
    unfold parsOf at h1
    rw [getD_nat hc] at h1
    exact nomatch h1
  | ver ps r s =>
    rw [parsOf_at hc] at h1
    exact lo i ps r s hc x h1
theorem Lw.near {cs : List Ct} {ns : List Int} {new : Int} (lo : LowP cs) (nm : NmOk cs ns) (hn : new ∈ ns) : ∀ {k : Nat} {x : Int}, RchN cs ns (fun y => y = new) k x → x ∈ ns ∧ x ≤ new ∧ ∃ j : Nat, x + (j : Int) ≤ new ∧ RchN cs ns (fun y => y = new) j x
  | 0, x, h => by
    have h : x = new := h
    subst h
    exact ⟨hn, Int.le_refl _, 0, by omega, rfl⟩
  | k + 1, x, h => by
    rcases h with h | ⟨u, h, hp⟩
    · exact Lw.near lo nm hn h
    · obtain ⟨hu, _, j, hj, r⟩ := Lw.near lo nm hn h
      obtain ⟨lt, hx⟩ := par_low lo nm hu hp
      exact ⟨hx, by omega, j + 1, by omega, .inr ⟨u, r, hp⟩⟩
theorem Lw.at {cs : List Ct} {ns : List Int} {new : Int} (lo : LowP cs) (nm : NmOk cs ns) (few : cs.length ≤ 400) (hn : new ∈ ns) {x : Int} : Lw cs ns new x ↔ RchN cs ns (fun y => y = new) 400 x := by
  refine ⟨fun ⟨k, r⟩ => ?_, fun r => ⟨_, r⟩⟩
  obtain ⟨hx, _, j, hj, q⟩ := Lw.near lo nm hn r
  have h1 := nm x hx
  have h2 := nm new hn
  exact RchN.le (by omega) q
theorem Lw.ver [HasW] {K : PySem.W.Frag} {H : Hp} {b : BkA} {cs : List Ct} {as : List Addr} {ns : List Int} {new : Int} (bk : BkAt K H b cs as) (lo : LowP cs) (nm : NmOk cs ns) (hn : new ∈ ns) (hv : isV cs new = true) : ∀ {k : Nat} {x : Int}, RchN cs ns (fun y => y = new) k x → isV cs x = true
  | 0, x, h => by
    have h : x = new := h
    rw [h]
    exact hv
  | k + 1, x, h => by
    rcases h with h | ⟨u, h, hp⟩
    · exact Lw.ver bk lo nm hn hv h
    · have hu := Lw.ver bk lo nm hn hv h
      obtain ⟨hun, _⟩ := Lw.near lo nm hn h
      obtain ⟨i, ps, r', s', rfl, hc, _, hps⟩ := ver_of bk nm hun hu
      unfold parA at hp
      have hm := (List.mem_filter.mp hp).1
      rw [parsOf_at hc] at hm
      exact hps x hm
/-- is an edge: a parent is not held -/
def brim (cs : List Ct) (ns : List Int) (v : Int) : Bool := !(parsOf cs v).all fun p => decide (p ∈ ns)
structure WalkB (cs : List Ct) (ns : List Int) (old new : Int) (ws : List Int) : Prop where
  fst : ws[0]? = some new
  lst : ws[ws.length - 1]? = some old
  all : ∀ x ∈ ws, x ∈ ns ∧ isV cs x = true
  st : ∀ (i : Nat) (u x : Int), ws[i]? = some u → ws[i + 1]? = some x → x ∈ parsOf cs u
  few : ws.length ≤ 1000
/-- the way told: ahead, with a walk, or apart, with all that new is at or after, and its edges -/
def WayA (H : Hp) (q : Addr) (cs : List Ct) (ns : List Int) (old new : Int) : Prop :=
  (Lw cs ns new old ∧ ∃ (w : Addr) (ws : List Int), H q = some (.tup [.str "ahead", .ref w]) ∧ H w = some (.tup (ws.map V.int)) ∧ WalkB cs ns old new ws) ∨
  (¬ Lw cs ns new old ∧ ∃ (v e : Addr) (ks : List Int), H q = some (.tup [.str "apart", .ref v, .ref e]) ∧ H v = some (.tup (ks.map V.int)) ∧ H e = some (.tup ((ks.filter (brim cs ns)).map V.int)) ∧ ks.Pairwise (· < ·) ∧ (∀ x, x ∈ ks ↔ Lw cs ns new x) ∧ (∀ x ∈ ks, x ∈ ns ∧ isV cs x = true) ∧ ks.length ≤ 400)
theorem WayA.same {H H' : Hp} {q : Addr} {cs : List Ct} {ns : List Int} {old new : Int} (h : WayA H q cs ns old new) (s : Same H H') : WayA H' q cs ns old new := by
  rcases h with ⟨l, w, ws, h1, h2, h3⟩ | ⟨l, v, e, ks, h1, h2, h3, h4⟩
  · exact .inl ⟨l, w, ws, s _ _ h1, s _ _ h2, h3⟩
  · exact .inr ⟨l, v, e, ks, s _ _ h1, s _ _ h2, s _ _ h3, h4⟩
end Fw
set_option Elab.async false
set_option linter.all false
set_option maxRecDepth 100000
set_option maxHeartbeats 4000000
namespace Fw
open PySem L2 RZ RT
theorem inc_ext {l m : List Int} (h1 : l.Pairwise (· < ·)) (h2 : m.Pairwise (· < ·)) (h : ∀ x, x ∈ l ↔ x ∈ m) : l = m := by
  have p := (List.perm_ext_iff_of_nodup (lt_nodupA h1) (lt_nodupA h2)).mpr h
  exact p.eq_of_pairwise (le := (· < ·)) (fun a b _ _ h1 h2 => by omega) h1 h2
/-- the laws' contents, and the names that are held: versions among them are the book's -/
structure ThAt [HasW] (H : Hp) (T Hd : Addr) (cs : List Ct) (ns : List Int) : Prop where
  tr : ∃ as : List Addr, H T = some (.lst (as.map V.ref)) ∧ CsAt H as cs
  hd : H Hd = some (.dK (nmD ns))
  fam : FamOk cs
  nm : NmOk cs ns
  inc : ns.Pairwise (· < ·)
  few : cs.length ≤ 400
section
variable [HasW] {H H' : Hp} {T Hd : Addr} {cs : List Ct} {ns : List Int}
theorem ThAt.same (t : ThAt H T Hd cs ns) (s : Same H H') : ThAt H' T Hd cs ns := by
  obtain ⟨as, h1, h2⟩ := t.tr
  exact ⟨⟨as, s _ _ h1, h2.mono (TM.of s)⟩, s _ _ t.hd, t.fam, t.nm, t.inc, t.few⟩
theorem FamOk.vers {cs : List Ct} (f : FamOk cs) {i : Nat} {ps : List Int} {r s : Int} (hc : cs[i]? = some (.ver ps r s)) : ∀ p ∈ ps, isV cs p = true := by
  intro p hp
  have ib := f.inb i _ hc
  unfold Ct.inB at ib
  rw [Bool.and_eq_true] at ib
  have hk := List.all_eq_true.mp ib.1 p hp
  have hlt := hasK_lt hk
  rw [List.length_take] at hlt
  unfold hasK at hk
  rw [Bool.and_eq_true, Bool.and_eq_true, List.contains_iff_mem, List.mem_singleton] at hk
  have hw := hk.2.2
  obtain ⟨m, rfl⟩ := Int.eq_ofNat_of_zero_le hlt.1
  have hm : m < i := by have := hlt.2; rw [Int.toNat_natCast] at this; omega
  rw [Int.toNat_natCast, List.getD_eq_getElem?_getD, List.getElem?_take_of_lt hm] at hw
  unfold isV
  rw [Int.toNat_natCast, List.getD_eq_getElem?_getD]
  exact decide_eq_true hw
/-- a version of the book, at its place -/
theorem ThAt.ver (t : ThAt H T Hd cs ns) {x : Int} (hx : x ∈ ns) (hv : isV cs x = true) : ∃ (i : Nat) (ps : List Int) (r s : Int) (as : List Addr) (a q : Addr), x = (i : Int) ∧ cs[i]? = some (.ver ps r s) ∧ ps.length ≤ 4 ∧ (∀ p ∈ ps, isV cs p = true) ∧ H T = some (.lst (as.map V.ref)) ∧ as[i]? = some a ∧ H a = some (.tup [.str "version", .ref q, .int r, .int s]) ∧ H q = some (.tup (ps.map V.int)) := by
  obtain ⟨i, c, rfl, hc⟩ := t.nm.get hx
  obtain ⟨ps, r, s, rfl⟩ := isV_ver hc hv
  obtain ⟨as, hT, hcs⟩ := t.tr
  obtain ⟨a, ha, q, h1, h2⟩ := hcs.get hc
  exact ⟨i, ps, r, s, as, a, q, rfl, hc, (t.fam.form _ (List.mem_of_getElem? hc)).1, t.fam.vers hc, hT, ha, h1, h2⟩
end
end Fw
set_option Elab.async false
set_option linter.all false
set_option maxRecDepth 100000
set_option maxHeartbeats 4000000
namespace Fw
open PySem L2 RZ RT
theorem FamOk.snoc {cs : List Ct} {c : Ct} (f : FamOk cs) (fo : c.form) (inb : c.inB cs = true) (h : c ∉ cs) : FamOk (cs ++ [c]) := by
  have x := f.add fo inb
  unfold addC at x
  rwa [if_neg h] at x
/-- a leaf, a tree, and versions of it, one stamp each -/
structure LnC (cs : List Ct) (n : Nat) : Prop where
  len : cs.length = n + 2
  fam : FamOk cs
  c0 : ∃ rs, cs[0]? = some (.leaf rs)
  c1 : ∃ es, cs[1]? = some (.tree es)
  ver : ∀ i : Nat, i < n → ∃ ps, cs[i + 2]? = some (.ver ps 1 (i : Int))
theorem LnC.snoc {cs : List Ct} {n : Nat} (l : LnC cs n) {ps : List Int} (few : ps.length ≤ 4) (inc : ps.Pairwise (· < ·)) (lo : ∀ p ∈ ps, 2 ≤ p ∧ p < (n : Int) + 2) (hn : n ≤ 1000) : LnC (cs ++ [.ver ps 1 (n : Int)]) (n + 1) := by
  obtain ⟨len, fam, ⟨rs, c0⟩, ⟨es, c1⟩, ver⟩ := l
  have nin : Ct.ver ps 1 (n : Int) ∉ cs := fun h => by
    obtain ⟨i, hi⟩ := List.mem_iff_getElem?.mp h
    have il : i < n + 2 := by rw [← len]; exact (List.getElem?_eq_some_iff.mp hi).1
    match i, hi, il with
    | 0, hi, _ => rw [c0] at hi; cases hi
    | 1, hi, _ => rw [c1] at hi; cases hi
    | j + 2, hi, il =>
      obtain ⟨ps', h2⟩ := ver j (by omega)
      rw [h2] at hi
      have := (Ct.ver.inj (Option.some.inj hi)).2.2
      omega
  refine ⟨by rw [List.length_append, len]; rfl, fam.snoc ⟨few, inc, by omega, by omega⟩ ?_ nin, ⟨rs, ?_⟩, ⟨es, ?_⟩, fun i hi => ?_⟩
  · unfold Ct.inB
    rw [Bool.and_eq_true]
    refine ⟨List.all_eq_true.mpr fun p hp => ?_, hasK_at c1 con1⟩
    obtain ⟨h1, h2⟩ := lo p hp
    obtain ⟨m, rfl⟩ := Int.eq_ofNat_of_zero_le (show 0 ≤ p by omega)
    obtain ⟨j, rfl⟩ : ∃ j, m = j + 2 := ⟨m - 2, by omega⟩
    obtain ⟨ps', h3⟩ := ver j (by omega)
    exact hasK_at h3 con1
  · rw [List.getElem?_append_left (by omega)]; exact c0
  · rw [List.getElem?_append_left (by omega)]; exact c1
  · by_cases h : i < n
    · rw [List.getElem?_append_left (by omega)]; exact ver i h
    · have e : i = n := by omega
      subst e
      exact ⟨ps, by rw [List.getElem?_append_right (by omega), len, Nat.sub_self]; rfl⟩
theorem LnC.isV {cs : List Ct} {n : Nat} (l : LnC cs n) {i : Nat} (h : i < n) : isV cs ((i + 2 : Nat) : Int) = true := by
  obtain ⟨ps, hc⟩ := l.ver i h
  rw [isV_at hc]
  exact decide_eq_true rfl
end Fw
set_option Elab.async false
set_option linter.all false
set_option maxRecDepth 100000
set_option maxHeartbeats 4000000
namespace Fw
open PySem L2 RZ RT
/-- a leaf, and trees over it, each over the one ahead of it -/
structure TlC (cs : List Ct) (i : Nat) : Prop where
  len : cs.length = i + 1
  fam : FamOk cs
  c0 : ∃ rs, cs[0]? = some (.leaf rs)
  tr : ∀ j : Nat, j < i → ∃ es, cs[j + 1]? = some (.tree es) ∧ (∃ e ∈ es, e.2 = (j : Int)) ∧ ∀ e ∈ es, e.2 ≤ (j : Int)
  dep : ∀ d ∈ deps cs, d ≤ (i : Int)
theorem TlC.has {cs : List Ct} {i j : Nat} (t : TlC cs i) (h : j ≤ i) : hasK cs ["leaf", "tree"] (j : Int) = true := by
  cases j with
  | zero =>
    obtain ⟨rs, h0⟩ := t.c0
    exact hasK_at h0 con2
  | succ j =>
    obtain ⟨es, he, _⟩ := t.tr j (by omega)
    exact hasK_at he con3
theorem TlC.snoc {cs : List Ct} {i : Nat} {es : List (Str × Int)} (t : TlC cs i) (hi : i ≤ 7) (fo : (Ct.tree es).form) (ex : ∃ e ∈ es, e.2 = (i : Int)) (al : ∀ e ∈ es, 0 ≤ e.2 ∧ e.2 ≤ (i : Int)) : TlC (cs ++ [.tree es]) (i + 1) := by
  have dl : depOf (deps cs) (.tree es) ≤ 1 + (i : Int) := depOf_le (by omega) t.dep
  have inb : (Ct.tree es).inB cs = true := by
    unfold Ct.inB
    rw [Bool.and_eq_true]
    refine ⟨List.all_eq_true.mpr fun e he => ?_, decide_eq_true (by omega)⟩
    obtain ⟨h0, h1⟩ := al e he
    obtain ⟨m, hm⟩ := Int.eq_ofNat_of_zero_le h0
    rw [hm]
    exact t.has (by omega)
  have nin : (Ct.tree es) ∉ cs := fun h => by
    obtain ⟨j, hj, e⟩ := List.getElem_of_mem h
    cases j with
    | zero =>
      obtain ⟨rs, this⟩ := t.c0
      rw [List.getElem?_eq_getElem hj, e] at this
      cases this
    | succ j =>
      rw [t.len] at hj
      obtain ⟨fs, h1, _, h3⟩ := t.tr j (by omega)
      rw [List.getElem?_eq_getElem (by rw [t.len]; omega), e] at h1
      cases h1
      obtain ⟨x, hx, ex⟩ := ex
      have := h3 x hx
      omega
  refine ⟨by rw [List.length_append, t.len]; rfl, t.fam.snoc fo inb nin, ?_, fun j hj => ?_, fun d hd => ?_⟩
  · obtain ⟨rs, h0⟩ := t.c0
    exact ⟨rs, by rw [List.getElem?_append_left (by rw [t.len]; omega)]; exact h0⟩
  · by_cases e : j < i
    · obtain ⟨fs, h1, h2⟩ := t.tr j e
      exact ⟨fs, by rw [List.getElem?_append_left (by rw [t.len]; omega)]; exact h1, h2⟩
    · have e : j = i := by omega
      subst e
      exact ⟨es, by rw [List.getElem?_append_right (by rw [t.len]; exact Nat.le_refl _), t.len, Nat.sub_self]; rfl, ex, fun e he => (al e he).2⟩
  · rw [deps_snoc] at hd
    rcases List.mem_append.mp hd with h | h
    · have := t.dep d h
      omega
    · rw [List.mem_singleton.mp h]
      omega
/-- behind the trees, versions, one stamp each -/
structure TlV (cs : List Ct) (m : Nat) : Prop where
  len : cs.length = 9 + m
  fam : FamOk cs
  lo : ∀ j : Nat, j < 9 → ∀ ps r s, cs[j]? ≠ some (.ver ps r s)
  tr : ∀ j : Nat, 1 ≤ j → j ≤ 8 → ∃ es, cs[j]? = some (.tree es)
  ver : ∀ j : Nat, j < m → ∃ ps r, cs[9 + j]? = some (.ver ps r (j : Int))
theorem TlC.vers {cs : List Ct} (t : TlC cs 8) : TlV cs 0 := by
  refine ⟨t.len, t.fam, fun j hj ps r s h => ?_, fun j h1 h2 => ?_, fun j h => absurd h (Nat.not_lt_zero j)⟩
  · cases j with
    | zero =>
      obtain ⟨rs, h0⟩ := t.c0
      rw [h0] at h
      cases h
    | succ j =>
      obtain ⟨es, he, _⟩ := t.tr j (by omega)
      rw [he] at h
      cases h
  · obtain ⟨k, rfl⟩ : ∃ k, j = k + 1 := ⟨j - 1, by omega⟩
    obtain ⟨es, he, _⟩ := t.tr k (by omega)
    exact ⟨es, he⟩
theorem TlV.snoc {cs : List Ct} {m : Nat} {ps : List Int} {r : Int} (t : TlV cs m) (few : ps.length ≤ 4) (inc : ps.Pairwise (· < ·)) (lo : ∀ p ∈ ps, 9 ≤ p ∧ p < 9 + (m : Int)) (r0 : 1 ≤ r) (r1 : r ≤ 8) (hm : m ≤ 1000) : TlV (cs ++ [.ver ps r (m : Int)]) (m + 1) := by
  have nin : Ct.ver ps r (m : Int) ∉ cs := fun h => by
    obtain ⟨j, hj⟩ := List.mem_iff_getElem?.mp h
    have jl : j < 9 + m := by rw [← t.len]; exact (List.getElem?_eq_some_iff.mp hj).1
    by_cases h9 : j < 9
    · exact t.lo j h9 _ _ _ hj
    · obtain ⟨k, rfl⟩ : ∃ k, j = 9 + k := ⟨j - 9, by omega⟩
      obtain ⟨ps', r', h2⟩ := t.ver k (by omega)
      rw [h2] at hj
      have := (Ct.ver.inj (Option.some.inj hj)).2.2
      omega
  refine ⟨by rw [List.length_append, t.len]; rfl, t.fam.snoc ⟨few, inc, by omega, by omega⟩ ?_ nin, fun j hj => ?_, fun j h1 h2 => ?_, fun j hj => ?_⟩
  · unfold Ct.inB
    rw [Bool.and_eq_true]
    refine ⟨List.all_eq_true.mpr fun p hp => ?_, ?_⟩
    · obtain ⟨h1, h2⟩ := lo p hp
      obtain ⟨k, rfl⟩ := Int.eq_ofNat_of_zero_le (show 0 ≤ p by omega)
      obtain ⟨j, rfl⟩ : ∃ j, k = 9 + j := ⟨k - 9, by omega⟩
      obtain ⟨ps', r', h3⟩ := t.ver j (by omega)
      exact hasK_at h3 con1
    · obtain ⟨k, rfl⟩ := Int.eq_ofNat_of_zero_le (show 0 ≤ r by omega)
      obtain ⟨es, he⟩ := t.tr k (by omega) (by omega)
      exact hasK_at he con1
  · rw [List.getElem?_append_left (by rw [t.len]; omega)]
    exact t.lo j hj
  · rw [List.getElem?_append_left (by rw [t.len]; omega)]
    exact t.tr j h1 h2
  · by_cases h : j < m
    · rw [List.getElem?_append_left (by rw [t.len]; omega)]
      exact t.ver j h
    · have e : j = m := by omega
      subst e
      exact ⟨ps, r, by rw [List.getElem?_append_right (by rw [t.len]; exact Nat.le_refl _), t.len, Nat.sub_self]; rfl⟩
/-- what a scene is -/
structure SceneOk (cs : List Ct) : Prop where
  fam : FamOk cs
  few : cs.length ≤ 400
  ver : ∃ i : Nat, isV cs (i : Int) = true
theorem TlV.ok {cs : List Ct} {m : Nat} (t : TlV cs m) (h0 : 0 < m) (h1 : m ≤ 300) : SceneOk cs := by
  obtain ⟨ps, r, h⟩ := t.ver 0 h0
  exact ⟨t.fam, by rw [t.len]; omega, 9, by rw [isV_at h]; exact decide_eq_true rfl⟩
section
variable {K : PySem.W.Frag} {H H' H0 : Hp} {Q : VK} {c D T A p q : Addr} {dn : List Int} {t : Nat} {as : List Addr} {cs : List Ct}
/-- what the makers keep: the deck, and their list -/
structure Mk62 (H0 H : Hp) (c D : Addr) (dn : List Int) (t : Nat) (T : Addr) (as : List Addr) (cs : List Ct) : Prop where
  kp : Kp D H0 H
  dk : Dk c D dn t H
  nT : H0 T = none
  nD : T ≠ D
  nc : T ≠ c
  hT : H T = some (.lst (as.map V.ref))
  cs : CsAt H as cs
theorem Mk62.same (m : Mk62 H0 H c D dn t T as cs) (s : Same H H') : Mk62 H0 H' c D dn t T as cs :=
  ⟨m.kp.trans (Kp.of_same s), m.dk.same s, m.nT, m.nD, m.nc, s _ _ m.hT, m.cs.mono (TM.of s)⟩
theorem Mk62.le {t' : Nat} (m : Mk62 H0 H c D dn t T as cs) (h : t ≤ t') : Mk62 H0 H c D dn t' T as cs := ⟨m.kp, m.dk.le h, m.nT, m.nD, m.nc, m.hT, m.cs⟩
theorem Mk62.add {x : Ct} (m : Mk62 H0 H c D dn t T as cs) (hA : CtAt H A x) : Mk62 H0 (upd H T (.lst (as.map V.ref ++ [.ref A]))) c D dn t T (as ++ [A]) (cs ++ [x]) := by
  have tm : TM H (upd H T (.lst (as.map V.ref ++ [.ref A]))) := fun b xs h => updN (ne_of h m.hT (by intro z; cases z)) h
  exact ⟨fun b o e n => updN (ne_of_none e m.nT) (m.kp b o e n), m.dk.upd m.nc m.nD, m.nT, m.nD, m.nc, by rw [updS, List.map_append]; rfl, (m.cs.snoc hA).mono tm⟩
end
end Fw
set_option Elab.async false
set_option linter.all false
set_option maxRecDepth 100000
set_option maxHeartbeats 4000000
namespace Fw
open PySem L2 RZ RT
end Fw
set_option Elab.async false
set_option linter.all false
set_option maxRecDepth 100000
set_option maxHeartbeats 1000000
namespace Fw
open PySem L2 RZ RT
def stp (cs : List Ct) (p : Int) : Int := if isV cs p = true then 1 else 0
theorem stp_nn {cs : List Ct} {p : Int} : 0 ≤ stp cs p := by unfold stp; split <;> omega
/-- a map of least steps -/
structure Kmap (cs : List Ct) (ns st : List Int) (most : Int) (f : Int → Option Int) : Prop where
  beg : ∀ n ∈ st, f n = some 0
  hel : ∀ n s, f n = some s → n ∈ ns
  ups : ∀ n s, f n = some s → n ∉ st → s ≤ most ∧ ∃ u su, f u = some su ∧ n ∈ partsN cs u ∧ s = su + stp cs n
  dn : ∀ u su, f u = some su → ∀ p ∈ partsN cs u, p ∈ ns → su + stp cs p ≤ most → ∃ sp, f p = some sp ∧ sp ≤ su + stp cs p
section
variable [HasW]
theorem hasK_low {cs : List Ct} {i : Nat} {ks : List Str} {p : Int} (h : hasK (cs.take i) ks p = true) : 0 ≤ p ∧ p < (i : Int) ∧ hasK cs ks p = true := by
  have hlt := hasK_lt h
  rw [List.length_take] at hlt
  refine ⟨hlt.1, by omega, ?_⟩
  rw [← List.take_append_drop i cs]
  exact hasK_mono h
theorem hasK_word {cs : List Ct} {ks : List Str} {p : Int} (h : hasK cs ks p = true) : (cs.getD p.toNat (.leaf [])).word ∈ ks := by
  unfold hasK at h
  rw [Bool.and_eq_true, Bool.and_eq_true, List.contains_iff_mem] at h
  exact h.2.2
/-- where the parts of a content stand -/
theorem FamOk.part {cs : List Ct} (f : FamOk cs) {i : Nat} {c : Ct} (hc : cs[i]? = some c) {p : Int} (hp : p ∈ c.parts) : 0 ≤ p ∧ p < (i : Int) ∧ (isV cs p = true ↔ ∃ ps r s, c = .ver ps r s ∧ p ∈ ps) := by
  have ib := f.inb i _ hc
  cases c with
  | leaf rows => cases hp
  | tree es =>
    unfold Ct.inB at ib
    rw [Bool.and_eq_true] at ib
    obtain ⟨e, he, rfl⟩ := List.mem_map.mp hp
    obtain ⟨h1, h2, h3⟩ := hasK_low (List.all_eq_true.mp ib.1 e he)
    refine ⟨h1, h2, fun v => ?_, fun ⟨_, _, _, z, _⟩ => by cases z⟩
    have w := hasK_word h3
    have v : (cs.getD e.2.toNat (.leaf [])).word = "version" := of_decide_eq_true v
    rw [v] at w
    exact absurd w (by decide +kernel)
  | ver ps r s =>
    unfold Ct.inB at ib
    rw [Bool.and_eq_true] at ib
    rcases List.mem_append.mp hp with hp | hp
    · obtain ⟨h1, h2, _⟩ := hasK_low (List.all_eq_true.mp ib.1 p hp)
      exact ⟨h1, h2, fun _ => ⟨ps, r, s, rfl, hp⟩, fun _ => f.vers hc p hp⟩
    · rw [List.mem_singleton.mp hp]
      obtain ⟨h1, h2, h3⟩ := hasK_low ib.2
      have w := hasK_word h3
      refine ⟨h1, h2, fun v => ?_, fun ⟨ps', r', s', z, hr⟩ => ?_⟩
      · have v : (cs.getD r.toNat (.leaf [])).word = "version" := of_decide_eq_true v
        rw [v] at w
        exact absurd w (by decide +kernel)
      · cases z
        have := f.vers hc r hr
        exact this
theorem partsN_lt {cs : List Ct} (f : FamOk cs) {u p : Int} (h0 : 0 ≤ u) (h1 : u.toNat < cs.length) (hp : p ∈ partsN cs u) : 0 ≤ p ∧ p < u := by
  obtain ⟨i, rfl⟩ := Int.eq_ofNat_of_zero_le h0
  rw [Int.toNat_natCast] at h1
  have hc := List.getElem?_eq_getElem h1
  rw [partsN_at hc] at hp
  have := f.part hc hp
  exact ⟨this.1, this.2.1⟩
section
variable {cs : List Ct} {ns st : List Int} {most : Int} {f g : Int → Option Int}
theorem Kmap.le (fam : FamOk cs) (nm : NmOk cs ns) (a : Kmap cs ns st most f) (b : Kmap cs ns st most g) : ∀ (k : Nat) (n s : Int), f n = some s → cs.length - n.toNat ≤ k → ∃ s', g n = some s' ∧ s' ≤ s
  | k, n, s, hn, hk => by
    by_cases h : n ∈ st
    · rw [a.beg n h] at hn
      exact ⟨0, b.beg n h, by rw [← Option.some.inj hn]; exact Int.le_refl _⟩
    obtain ⟨h1, u, su, h2, h3, h4⟩ := a.ups n s hn h
    have hu := nm u (a.hel u su h2)
    have lo := partsN_lt fam hu.1 hu.2 h3
    obtain ⟨hn0, hn1⟩ := nm n (a.hel n s hn)
    cases k with
    | zero => omega
    | succ k =>
      obtain ⟨su', g1, g2⟩ := Kmap.le fam nm a b k u su h2 (by omega)
      obtain ⟨sp, g3, g4⟩ := b.dn u su' g1 n h3 (a.hel n s hn) (by omega)
      exact ⟨sp, g3, by omega⟩
end
/-- the map that a dict is -/
def mapOf (ks : List Int) (f : Int → Int) : Int → Option Int := fun n => if n ∈ ks then some (f n) else none
theorem mapOf_some {ks : List Int} {f : Int → Int} {n s : Int} : mapOf ks f n = some s ↔ n ∈ ks ∧ f n = s := by
  unfold mapOf
  by_cases h : n ∈ ks
  · rw [if_pos h]; exact ⟨fun e => ⟨h, Option.some.inj e⟩, fun e => by rw [e.2]⟩
  · rw [if_neg h]; exact ⟨fun e => (by cases e), fun e => absurd e.1 h⟩
def inK (ks : List Int) (n : Int) : List Int := if n ∈ ks then ks else ks ++ [n]
def ovf (f : Int → Int) (n v : Int) : Int → Int := fun x => if x = n then v else f x
theorem inK_mem {ks : List Int} {n x : Int} : x ∈ inK ks n ↔ x = n ∨ x ∈ ks := by
  unfold inK
  split
  · exact ⟨.inr, fun h => h.elim (fun e => by rw [e]; assumption) id⟩
  · rw [List.mem_append, List.mem_singleton]
    exact ⟨fun h => h.symm, fun h => h.symm⟩
theorem inK_nd {ks : List Int} {n : Int} (h : ks.Nodup) : (inK ks n).Nodup := by
  unfold inK
  split
  · exact h
  · refine List.nodup_append.mpr ⟨h, List.pairwise_singleton _ _, fun x hx y hy => ?_⟩
    rw [List.mem_singleton.mp hy]
    intro e
    subst e
    contradiction
/-- the names above m are done, and of m the parts ps -/
structure Kw (cs : List Ct) (ns st : List Int) (most m : Int) (ps ks : List Int) (f : Int → Int) : Prop where
  nd : ks.Nodup
  beg : ∀ n ∈ st, n ∈ ks ∧ f n = 0
  hel : ∀ n ∈ ks, n ∈ ns
  nn : ∀ n ∈ ks, 0 ≤ f n
  ups : ∀ n ∈ ks, n ∉ st → f n ≤ most ∧ ∃ u ∈ ks, m ≤ u ∧ n ∈ partsN cs u ∧ f n = f u + stp cs n
  dnA : ∀ u ∈ ks, m < u → ∀ p ∈ partsN cs u, p ∈ ns → f u + stp cs p ≤ most → p ∈ ks ∧ f p ≤ f u + stp cs p
  dnM : m ∈ ks → ∀ p ∈ ps, p ∈ ns → f m + stp cs p ≤ most → p ∈ ks ∧ f p ≤ f m + stp cs p
section
variable {cs : List Ct} {ns st ps ks : List Int} {most m : Int} {f : Int → Int}
theorem Kw.done (k : Kw cs ns st most (-1) [] ks f) (nm : NmOk cs ns) : Kmap cs ns st most (mapOf ks f) where
  beg := fun n hn => mapOf_some.mpr ⟨(k.beg n hn).1, (k.beg n hn).2⟩
  hel := fun n s h => k.hel n (mapOf_some.mp h).1
  ups := fun n s h hn => by
    obtain ⟨h1, rfl⟩ := mapOf_some.mp h
    obtain ⟨h2, u, hu, _, hp, e⟩ := k.ups n h1 hn
    exact ⟨h2, u, f u, mapOf_some.mpr ⟨hu, rfl⟩, hp, e⟩
  dn := fun u su h p hp hn hm => by
    obtain ⟨h1, rfl⟩ := mapOf_some.mp h
    have h0 := (nm u (k.hel u h1)).1
    have := k.dnA u h1 (by omega) p hp hn hm
    exact ⟨f p, mapOf_some.mpr ⟨this.1, rfl⟩, this.2⟩
/-- down to the next name -/
theorem Kw.next (k : Kw cs ns st most m ps ks f) (h : m ∈ ks → ps = partsN cs m) : Kw cs ns st most (m - 1) [] ks f where
  nd := k.nd
  beg := k.beg
  hel := k.hel
  nn := k.nn
  ups := fun n hn hs => by
    obtain ⟨h1, u, hu, hm, r⟩ := k.ups n hn hs
    exact ⟨h1, u, hu, by omega, r⟩
  dnA := fun u hu hm p hp hn hl => by
    by_cases e : u = m
    · subst e
      exact k.dnM hu p (by rw [h hu]; exact hp) hn hl
    · exact k.dnA u hu (by omega) p hp hn hl
  dnM := fun _ p hp => by cases hp
/-- a part that is laid down -/
theorem Kw.lay {p : Int} (k : Kw cs ns st most m ps ks f) (hm : m ∈ ks) (lt : p < m) (hp : p ∈ partsN cs m) (hn : p ∈ ns) (hl : f m + stp cs p ≤ most) (le : p ∈ ks → f m + stp cs p < f p) (low : ∀ q ∈ ps, q < m) :
    Kw cs ns st most m (ps ++ [p]) (inK ks p) (ovf f p (f m + stp cs p)) := by
  have ne : ∀ {x : Int}, x ≠ p → ovf f p (f m + stp cs p) x = f x := fun h => if_neg h
  have eq : ovf f p (f m + stp cs p) p = f m + stp cs p := if_pos rfl
  have up : ∀ {u : Int}, m ≤ u → ovf f p (f m + stp cs p) u = f u := fun h => ne (by omega)
  have mm := k.nn m hm
  have s0 := stp_nn (cs := cs) (p := p)
  refine ⟨inK_nd k.nd, fun n h => ?_, fun n h => ?_, fun n h => ?_, fun n h hs => ?_, fun u hu hu2 q hq hqn hql => ?_, fun hm2 q hq hqn hql => ?_⟩
  · obtain ⟨h1, h2⟩ := k.beg n h
    refine ⟨inK_mem.mpr (.inr h1), ?_⟩
    rw [ne fun e => ?_]
    · exact h2
    · subst e
      have := le h1
      omega
  · rcases inK_mem.mp h with rfl | h
    · exact hn
    · exact k.hel n h
  · by_cases e : n = p
    · rw [e, eq]; omega
    · rw [ne e]
      exact k.nn n ((inK_mem.mp h).resolve_left e)
  · by_cases e : n = p
    · subst e
      rw [eq]
      exact ⟨hl, m, inK_mem.mpr (.inr hm), Int.le_refl _, hp, by rw [up (Int.le_refl _)]⟩
    · obtain ⟨h1, u, hu, hmu, r1, r2⟩ := k.ups n ((inK_mem.mp h).resolve_left e) hs
      rw [ne e]
      exact ⟨h1, u, inK_mem.mpr (.inr hu), hmu, r1, by rw [up hmu]; exact r2⟩
  · have e0 : ovf f p (f m + stp cs p) u = f u := up (by omega)
    rw [e0] at hql ⊢
    have hu' := (inK_mem.mp hu).resolve_left (by omega)
    obtain ⟨h1, h2⟩ := k.dnA u hu' hu2 q hq hqn hql
    refine ⟨inK_mem.mpr (.inr h1), ?_⟩
    by_cases e : q = p
    · subst e
      have := le h1
      rw [eq]; omega
    · rw [ne e]; exact h2
  · have e0 : ovf f p (f m + stp cs p) m = f m := up (Int.le_refl m)
    rw [e0] at hql ⊢
    rcases List.mem_append.mp hq with hq | hq
    · obtain ⟨h1, h2⟩ := k.dnM hm q hq hqn hql
      refine ⟨inK_mem.mpr (.inr h1), ?_⟩
      by_cases e : q = p
      · subst e; rw [eq]; omega
      · rw [ne e]; exact h2
    · rw [List.mem_singleton.mp hq]
      exact ⟨inK_mem.mpr (.inl rfl), by rw [eq]; omega⟩
end
end
end Fw
set_option Elab.async false
set_option linter.all false
set_option maxRecDepth 100000
set_option maxHeartbeats 1000000
namespace Fw
open PySem L2 RZ RT
/-- what is found (ks, with its steps f and what it was found from, o), what waits in this layer and in the next one -/
structure KI (cs : List Ct) (ns st : List Int) (most s : Int) (ks : List Int) (f : Int → Int) (o : Int → Option Int) (wa fu : List Int) (cur : Option Int) : Prop where
  nd : ks.Nodup
  sub : ∀ n ∈ ks, n ∈ ns
  beg : ∀ n ∈ st, n ∈ ks ∧ f n = 0 ∧ o n = none
  ups : ∀ n ∈ ks, n ∉ st → f n ≤ most ∧ ∃ u ∈ ks, o n = some u ∧ n ∈ partsN cs u ∧ f n = f u + stp cs n
  lay : ∀ n ∈ ks, f n ≤ s ∨ (f n = s + 1 ∧ isV cs n = true)
  wt : ∀ n ∈ wa, n ∈ ks ∧ f n = s
  ft : ∀ n ∈ fu, n ∈ ks ∧ f n = s + 1
  dn : ∀ u ∈ ks, u ∈ wa ∨ u ∈ fu ∨ cur = some u ∨ ∀ p ∈ partsN cs u, p ∈ ns → f u + stp cs p ≤ most → p ∈ ks ∧ f p ≤ f u + stp cs p
section
variable [HasW] {cs : List Ct} {ns st ks wa fu : List Int} {most s : Int} {f : Int → Int} {o : Int → Option Int} {cur : Option Int}
/-- one is taken from those that wait -/
theorem KI.take {u : Int} {wr : List Int} (k : KI cs ns st most s ks f o wa fu none) (h : ∀ x, x ∈ wa → x ∈ wr ∨ x = u) (hw : ∀ x ∈ wr, x ∈ wa) : KI cs ns st most s ks f o wr fu (some u) :=
  ⟨k.nd, k.sub, k.beg, k.ups, k.lay, fun n hn => k.wt n (hw n hn), k.ft, fun v hv => by
    rcases k.dn v hv with q | q | q | q
    · rcases h v q with z | z
      · exact .inl z
      · exact .inr (.inr (.inl (by rw [z])))
    · exact .inr (.inl q)
    · cases q
    · exact .inr (.inr (.inr q))⟩
/-- the next layer -/
theorem KI.next (k : KI cs ns st most s ks f o [] fu none) : KI cs ns st most (s + 1) ks f o fu [] none :=
  ⟨k.nd, k.sub, k.beg, k.ups, fun n h => .inl ((k.lay n h).elim (fun q => by omega) fun q => by omega), k.ft, (fun n h => nomatch h), fun v hv => by
    rcases k.dn v hv with q | q | q | q
    · cases q
    · exact .inl q
    · cases q
    · exact .inr (.inr (.inr q))⟩
end
end Fw
set_option Elab.async false
set_option linter.all false
set_option maxRecDepth 100000
set_option maxHeartbeats 1000000
namespace Fw
open PySem L2 RZ RT
structure TwC (cs : List Ct) (i : Nat) : Prop where
  len : cs.length = i + 1
  fam : FamOk cs
  c0 : cs[0]? = some (.leaf [])
  tr : ∀ j : Nat, j < i → ∃ es, cs[j + 1]? = some (.tree es) ∧ es ≠ [] ∧ ∀ e ∈ es, e.2 = (j : Int)
  dep : ∀ d ∈ deps cs, d ≤ (i : Int)
theorem TwC.has {cs : List Ct} {i j : Nat} (t : TwC cs i) (h : j ≤ i) : hasK cs ["leaf", "tree"] (j : Int) = true := by
  cases j with
  | zero => exact hasK_at t.c0 (by decide +kernel)
  | succ j =>
    obtain ⟨es, he, _⟩ := t.tr j (by omega)
    exact hasK_at he con3
theorem TwC.snoc {cs : List Ct} {i : Nat} {es : List (Str × Int)} (t : TwC cs i) (hi : i ≤ 7) (fo : (Ct.tree es).form) (ne : es ≠ []) (al : ∀ e ∈ es, e.2 = (i : Int)) : TwC (cs ++ [.tree es]) (i + 1) := by
  have dl : depOf (deps cs) (.tree es) ≤ 1 + (i : Int) := depOf_le (by omega) t.dep
  have inb : (Ct.tree es).inB cs = true := by
    unfold Ct.inB
    rw [Bool.and_eq_true]
    refine ⟨List.all_eq_true.mpr fun e he => ?_, decide_eq_true (by omega)⟩
    rw [al e he]
    exact t.has (Nat.le_refl _)
  have nin : (Ct.tree es) ∉ cs := fun h => by
    obtain ⟨j, hj, e⟩ := List.getElem_of_mem h
    cases j with
    | zero =>
      have := t.c0
      rw [List.getElem?_eq_getElem hj, e] at this
      cases this
    | succ j =>
      rw [t.len] at hj
      obtain ⟨fs, h1, _, h3⟩ := t.tr j (by omega)
      rw [List.getElem?_eq_getElem (by rw [t.len]; omega), e] at h1
      cases h1
      obtain ⟨x, hx⟩ := List.exists_mem_of_ne_nil _ ne
      have := (h3 x hx).symm.trans (al x hx)
      omega
  refine ⟨by rw [List.length_append, t.len]; rfl, t.fam.snoc fo inb nin, ?_, fun j hj => ?_, fun d hd => ?_⟩
  · rw [List.getElem?_append_left (by rw [t.len]; omega)]
    exact t.c0
  · by_cases e : j < i
    · obtain ⟨fs, h1, h2⟩ := t.tr j e
      exact ⟨fs, by rw [List.getElem?_append_left (by rw [t.len]; omega)]; exact h1, h2⟩
    · have e : j = i := by omega
      subst e
      exact ⟨es, by rw [List.getElem?_append_right (by rw [t.len]; exact Nat.le_refl _), t.len, Nat.sub_self]; rfl, ne, al⟩
  · rw [deps_snoc] at hd
    rcases List.mem_append.mp hd with h | h
    · have := t.dep d h
      omega
    · rw [List.mem_singleton.mp h]
      omega
end Fw
set_option Elab.async false
set_option linter.all false
set_option maxRecDepth 100000
set_option maxHeartbeats 4000000
namespace Fw
open PySem L2 RZ RT
end Fw
set_option Elab.async false
set_option linter.all false
set_option maxRecDepth 100000
set_option maxHeartbeats 4000000
namespace Fw
open PySem L2 RZ RT
/-- an empty tree, and versions of it -/
structure LgC (P : Nat → List Int → Int → Prop) (cs : List Ct) (n : Nat) : Prop where
  len : cs.length = 1 + n
  fam : FamOk cs
  c0 : cs[0]? = some (.tree [])
  ver : ∀ i : Nat, i < n → ∃ ps s, cs[1 + i]? = some (.ver ps 0 s) ∧ P i ps s
theorem LgC.snoc {P : Nat → List Int → Int → Prop} {cs : List Ct} {n : Nat} {ps : List Int} {s : Int} (l : LgC P cs n) (few : ps.length ≤ 4) (inc : ps.Pairwise (· < ·)) (lo : ∀ p ∈ ps, 1 ≤ p ∧ p < 1 + (n : Int)) (s0 : 0 ≤ s) (s1 : s ≤ 1000000000000000000) (hp : P n ps s) (new : ∀ i < n, ¬ P i ps s) : LgC P (cs ++ [.ver ps 0 s]) (n + 1) := by
  have nin : Ct.ver ps 0 s ∉ cs := fun h => by
    obtain ⟨j, hj⟩ := List.mem_iff_getElem?.mp h
    have jl : j < 1 + n := by rw [← l.len]; exact (List.getElem?_eq_some_iff.mp hj).1
    cases j with
    | zero => rw [l.c0] at hj; cases hj
    | succ j =>
      obtain ⟨ps', s', h2, h3⟩ := l.ver j (by omega)
      rw [show 1 + j = j + 1 from by omega, hj] at h2
      obtain ⟨e1, _, e2⟩ := Ct.ver.inj (Option.some.inj h2)
      rw [← e1, ← e2] at h3
      exact new j (by omega) h3
  refine ⟨by rw [List.length_append, l.len]; rfl, l.fam.snoc ⟨few, inc, s0, s1⟩ ?_ nin, ?_, fun i hi => ?_⟩
  · unfold Ct.inB
    rw [Bool.and_eq_true]
    refine ⟨List.all_eq_true.mpr fun p hp => ?_, hasK_at l.c0 con1⟩
    obtain ⟨h1, h2⟩ := lo p hp
    obtain ⟨k, rfl⟩ := Int.eq_ofNat_of_zero_le (show 0 ≤ p by omega)
    obtain ⟨j, rfl⟩ : ∃ j, k = 1 + j := ⟨k - 1, by omega⟩
    obtain ⟨ps', s', h3, _⟩ := l.ver j (by omega)
    exact hasK_at h3 con1
  · rw [List.getElem?_append_left (by rw [l.len]; omega)]
    exact l.c0
  · by_cases h : i < n
    · obtain ⟨ps', s', h3, h4⟩ := l.ver i h
      exact ⟨ps', s', by rw [List.getElem?_append_left (by rw [l.len]; omega)]; exact h3, h4⟩
    · have e : i = n := by omega
      subst e
      exact ⟨ps, s, by rw [List.getElem?_append_right (by rw [l.len]; exact Nat.le_refl _), l.len, Nat.sub_self]; rfl, hp⟩
theorem LgC.ok {P : Nat → List Int → Int → Prop} {cs : List Ct} {n : Nat} (l : LgC P cs n) (h0 : 0 < n) (h1 : n ≤ 399) : SceneOk cs := by
  obtain ⟨ps, s, h, _⟩ := l.ver 0 h0
  exact ⟨l.fam, by rw [l.len]; omega, 1, by rw [isV_at h]; exact decide_eq_true rfl⟩
end Fw
set_option Elab.async false
set_option linter.all false
set_option maxRecDepth 100000
set_option maxHeartbeats 4000000
namespace Fw
open PySem L2 RZ RT
end Fw
set_option Elab.async false
set_option linter.all false
set_option maxRecDepth 100000
set_option maxHeartbeats 4000000
namespace Fw
open PySem PySem.Spec PyProof.Rows L2
theorem un_off {fs : List Addr} {H H1 : Hp} {h h1 h2 : Heap} {c d : Addr} (u : Un fs [] H H1 h h1) (hc : h.get? c = none) (hd : h.get? d = none) (k : ∀ b o, b ≠ c → b ≠ d → h1.get? b = some o → h2.get? b = some o) : Un fs [] H H1 h h2 := by
  have ne : ∀ {e : Addr}, h.get? e = none → ∀ b o, h.get? b = some o → b ≠ e := fun he b o e z => by rw [z, he] at e; cases e
  refine ⟨fun b o e n hb hx => k b o (ne hc b o e) (ne hd b o e) (u.keep b o e n hb hx), fun b o e n hb hx => ?_, u.free, fun b o e hx => ?_, u.tups, u.frzs, u.tbls⟩
  · obtain ⟨sl, q⟩ := u.slot b o e n hb hx
    exact ⟨sl, k b _ (ne hc b o e) (ne hd b o e) q⟩
  · obtain ⟨o', q⟩ := u.there b o e hx
    exact ⟨o', k b o' (ne hc b o e) (ne hd b o e) q⟩
theorem hok_off {P : Program} {w : World} {H : Hp} {h h' : Heap} {c d : Addr} (x : HOk P w H h) (hc : H c = none) (hd : H d = none) (k : ∀ b o, b ≠ c → b ≠ d → h.get? b = some o → h'.get? b = some o) : HOk P w H h' := fun b u e =>
  (x b u e).stay (fun f v hf q => by
    have hh : ∃ z, H f = some z := by
      rcases hf with z | z
      · exact ⟨u, by rw [z]; exact e⟩
      · exact ⟨_, z⟩
    obtain ⟨z, hz⟩ := hh
    exact k f v (fun y => by rw [y, hc] at hz; cases hz) (fun y => by rw [y, hd] at hz; cases hz) q) (fun _ q => q) fun _ _ q => q
/-- what stands while the keys are made -/
structure KeyL (X : Cx) (s : Shared) (H : Hp) (kS a : Addr) (e1 : Nat) (kz : List Int) (s1 : Shared) (H1 : Hp) : Prop where
  os : s1.os = s.os
  bare : AllBare s1.gens
  un : Un (frs X.stack) [] H H1 s.heap s1.heap
  hok : HOk X.prog X.w H1 s1.heap
  same : Same H H1
  nk : H1 kS = none
  na : H1 a = none
  ga : s1.heap.get? a = some (seqObj "list" #[] e1)
  gk : ∃ (kA : Array Value) (e : Nat), s1.heap.get? kS = some (seqObj "list" kA e) ∧ IntsAre kA.toList kz
section
variable {X : Cx} {n : Nat} {fn : Addr} {fd : FuncData} {ps : List Str} {sp : Sp} {pins : List (Addr × Obj)} {σ : L2.St} {H : Hp} {s : Shared}
theorem KeyL.but {kS a : Addr} {e1 : Nat} {kz kz' : List Int} {s1 : Shared} {H1 : Hp} {h2 : Heap} {tk : Nat} (L : KeyL X s H kS a e1 kz s1 H1) (fS : s.heap.get? kS = none) (nSa : kS ≠ a) (k : ∀ b o, b ≠ kS → s1.heap.get? b = some o → h2.get? b = some o)
    (gk : ∃ (kA : Array Value) (e : Nat), h2.get? kS = some (seqObj "list" kA e) ∧ IntsAre kA.toList kz') : KeyL X s H kS a e1 kz' { s1 with heap := h2, toks := tk } H1 :=
  ⟨L.os, L.bare, un_off L.un fS fS (fun b o h1 _ e => k b o h1 e), hok_off L.hok L.nk L.nk (fun b o h1 _ e => k b o h1 e), L.same, L.nk, L.na, k _ _ nSa.symm L.ga, gk⟩
end
end Fw
set_option Elab.async false
set_option linter.all false
set_option maxRecDepth 100000
set_option maxHeartbeats 4000000
namespace Fw
open PySem PySem.Spec PyProof.Rows L2
end Fw
set_option Elab.async false
set_option linter.all false
set_option maxRecDepth 100000
set_option maxHeartbeats 1000000
namespace Fw
open PySem PySem.Spec PyProof.Rows L2
end Fw
set_option Elab.async false
set_option linter.all false
set_option maxRecDepth 100000
set_option maxHeartbeats 1000000
namespace Fw
open PySem L2 RZ RT
end Fw
set_option Elab.async false
set_option linter.all false
set_option maxRecDepth 100000
set_option maxHeartbeats 1000000
namespace Fw
open PySem L2 RZ RT
/-- the step at which each version is come to -/
structure StpOk (cs : List Ct) (ns : List Int) (S : Int → Prop) (ks : List Int) (f : Int → Int) : Prop where
  nd : ks.Nodup
  lo : ∀ x ∈ ks, 0 ≤ f x
  at_ : ∀ (x : Int) (k : Nat), (x ∈ ks ∧ f x ≤ (k : Int)) ↔ RchN cs ns S k x
structure StpI (cs : List Ct) (ns : List Int) (S : Int → Prop) (k : Nat) (ks : List Int) (f : Int → Int) (row : List Int) : Prop where
  nd : ks.Nodup
  lo : ∀ x ∈ ks, 0 ≤ f x ∧ f x < (k : Int)
  at_ : ∀ (x : Int) (j : Nat), j < k → ((x ∈ ks ∧ f x ≤ (j : Int)) ↔ RchN cs ns S j x)
  rw : ∀ x ∈ row, RchN cs ns S k x
  al : ∀ x, RchN cs ns S k x → x ∈ ks ∨ x ∈ row
  few : row.length ≤ 10 + 4 * ks.length
/-- within a round: some of the row gone through -/
structure StpM (cs : List Ct) (ns : List Int) (k : Nat) (ks : List Int) (f : Int → Int) (done : List Int) (ks' : List Int) (f' : Int → Int) (on : List Int) : Prop where
  nd : ks'.Nodup
  mem : ∀ x, x ∈ ks' ↔ x ∈ ks ∨ x ∈ done
  old : ∀ x ∈ ks, f' x = f x
  new : ∀ x ∈ ks', x ∉ ks → f' x = (k : Int)
  fro : ∀ y ∈ on, ∃ u ∈ ks', u ∉ ks ∧ y ∈ parA cs ns u
  to : ∀ u ∈ ks', u ∉ ks → ∀ y ∈ parA cs ns u, y ∈ on
  few : on.length + 4 * ks.length ≤ 4 * ks'.length
section
variable {cs : List Ct} {ns : List Int} {S : Int → Prop} {k : Nat} {ks ks' row done on : List Int} {f f' : Int → Int}
theorem RchN.inN (hS : ∀ x, S x → x ∈ ns) : ∀ {k : Nat} {x : Int}, RchN cs ns S k x → x ∈ ns
  | 0, x, h => hS x h
  | k + 1, x, h => by
    rcases h with h | ⟨u, _, hp⟩
    · exact RchN.inN hS h
    · exact of_decide_eq_true (List.mem_filter.mp hp).2
theorem StpM.add {x : Int} (m : StpM cs ns k ks f done ks' f' on) (hx : x ∉ ks') (l4 : (parA cs ns x).length ≤ 4) : StpM cs ns k ks f (done ++ [x]) (ks' ++ [x]) (ovf f' x (k : Int)) (on ++ parA cs ns x) := by
  have xk : x ∉ ks := fun z => hx ((m.mem x).mpr (.inl z))
  have nsin : ∀ y ∈ ks', y ≠ x := fun y hy e => hx (by rw [← e]; exact hy)
  refine ⟨?_, fun y => ?_, fun y hy => ?_, fun y hy n => ?_, fun y hy => ?_, fun u hu n y hy => ?_, ?_⟩
  · rw [List.nodup_append]
    exact ⟨m.nd, by simp, fun y hy z hz e => hx (by rw [List.mem_singleton.mp hz] at e; rw [← e]; exact hy)⟩
  · rw [List.mem_append, List.mem_append, m.mem, or_assoc]
  · unfold ovf
    rw [if_neg (nsin y ((m.mem y).mpr (.inl hy)))]
    exact m.old y hy
  · unfold ovf
    by_cases e : y = x
    · rw [if_pos e]
    · rw [if_neg e]
      exact m.new y ((List.mem_append.mp hy).elim id fun z => absurd (List.mem_singleton.mp z) e) n
  · rcases List.mem_append.mp hy with hy | hy
    · obtain ⟨u, hu, n, hp⟩ := m.fro y hy
      exact ⟨u, List.mem_append_left _ hu, n, hp⟩
    · exact ⟨x, List.mem_append_right _ (List.mem_singleton.mpr rfl), xk, hy⟩
  · rcases List.mem_append.mp hu with hu | hu
    · exact List.mem_append_left _ (m.to u hu n y hy)
    · rw [List.mem_singleton.mp hu] at hy
      exact List.mem_append_right _ hy
  · have := m.few
    rw [List.length_append, List.length_append, List.length_singleton]
    omega
theorem StpI.next (h : StpI cs ns S k ks f row) (m : StpM cs ns k ks f row ks' f' on) : StpI cs ns S (k + 1) ks' f' on := by
  have inK : ∀ x, RchN cs ns S k x → x ∈ ks' := fun x hx => (m.mem x).mpr (h.al x hx)
  have outK : ∀ x ∈ ks', RchN cs ns S k x := fun x hx => by
    rcases (m.mem x).mp hx with q | q
    · have l := h.lo x q
      obtain ⟨j, hj⟩ := Int.eq_ofNat_of_zero_le l.1
      exact RchN.le (by omega : j ≤ k) ((h.at_ x j (by omega)).mp ⟨q, by omega⟩)
    · exact h.rw x q
  have lo' : ∀ x ∈ ks', 0 ≤ f' x ∧ f' x < ((k + 1 : Nat) : Int) := fun x hx => by
    by_cases q : x ∈ ks
    · rw [m.old x q]
      have := h.lo x q
      omega
    · rw [m.new x hx q]
      omega
  refine ⟨m.nd, lo', fun x j hj => ⟨fun ⟨hx, le⟩ => ?_, fun r => ?_⟩, fun x hx => ?_, fun x hx => ?_, ?_⟩
  · by_cases q : x ∈ ks
    · rw [m.old x q] at le
      by_cases e : j < k
      · exact (h.at_ x j e).mp ⟨q, le⟩
      · rw [show j = k by omega]
        exact outK x hx
    · rw [m.new x hx q] at le
      rw [show j = k by omega]
      exact outK x hx
  · have hx := inK x (RchN.le (by omega) r)
    refine ⟨hx, ?_⟩
    by_cases e : j < k
    · obtain ⟨q, le⟩ := (h.at_ x j e).mpr r
      rw [m.old x q]
      exact le
    · have := (lo' x hx).2
      omega
  · obtain ⟨u, hu, n, hp⟩ := m.fro x hx
    exact .inr ⟨u, outK u hu, hp⟩
  · rcases hx with hx | ⟨u, hu, hp⟩
    · exact .inl (inK x hx)
    · by_cases q : u ∈ ks
      · have l := h.lo u q
        obtain ⟨j, hj⟩ := Int.eq_ofNat_of_zero_le l.1
        have r := (h.at_ u j (by omega)).mp ⟨q, by omega⟩
        exact .inl (inK x (RchN.le (by omega : j + 1 ≤ k) (.inr ⟨u, r, hp⟩)))
      · exact .inr (m.to u (inK u hu) q x hp)
  · have := m.few
    omega
theorem StpOk.inn (s : StpOk cs ns S ks f) (hS : ∀ x, S x → x ∈ ns) : ∀ x ∈ ks, x ∈ ns := fun x hx =>
  RchN.inN hS ((s.at_ x (f x).toNat).mp ⟨hx, by have := s.lo x hx; omega⟩)
end
section
variable [HasW]
/-- the laws' contents -/
structure Th0 (H : Hp) (T : Addr) (cs : List Ct) : Prop where
  tr : ∃ as : List Addr, H T = some (.lst (as.map V.ref)) ∧ CsAt H as cs
  fam : FamOk cs
  few : cs.length ≤ 400
theorem Th0.same {H H' : Hp} {T : Addr} {cs : List Ct} (t : Th0 H T cs) (s : Same H H') : Th0 H' T cs := by
  obtain ⟨as, h1, h2⟩ := t.tr
  exact ⟨⟨as, s _ _ h1, h2.mono (TM.of s)⟩, t.fam, t.few⟩
theorem Th0.kp {H H' : Hp} {T D c : Addr} {cs : List Ct} {dn : List Int} {t : Nat} (x : Th0 H T cs) (k : Kp D H H') (d : Dk c D dn t H) (n : T ≠ D) : Th0 H' T cs := by
  obtain ⟨as, h1, h2⟩ := x.tr
  exact ⟨⟨as, k _ _ h1 n, h2.mono (k.tm d)⟩, x.fam, x.few⟩
end
end Fw
set_option Elab.async false
set_option linter.all false
set_option maxRecDepth 100000
set_option maxHeartbeats 4000000
namespace Fw
open PySem L2 RZ RT
def sp_NoName_init (K : PySem.W.Frag) : Sp := fun vs H Q _ => ∃ (a C : Addr) (u : V), vs = [.ref a, u] ∧ OexC K C ∧ PySem.W.findIn K (.ref C) "name" = some none ∧ H a = some (exo a C none) ∧
  ∀ d, H d = none → d ≠ a → Q .non (upd (upd H d (exd d [("name", u)])) a (exo a C (some d)))
section
variable [HasW] {K : PySem.W.Frag} {vs : List V} {H : Hp} {Q : VK} {E : XK}
theorem len_NoName_init (h : sp_NoName_init K vs H Q E) : vs.length = 2 := by obtain ⟨_, _, _, rfl, _⟩ := h; rfl
end
section
variable [HasW]
abbrev N_NoName_init : List Str := ["self", "name"]
def t_NoName_init (K : PySem.W.Frag) : TS := (tSeq (tDrop (tVeI K (tCons (tVar 0) (tCons (tC (.str "the book has given no such name")) tNil))))
    (tOst K "name" (tVar 0) (tVar 1)))
end
section
variable [HasW] {K : PySem.W.Frag} {vs : List V} {H : Hp} {Q : VK} {E : XK}
theorem pure_NoName_init (h : sp_NoName_init K vs H Q E) : t_NoName_init K { nx := fun _ H' => Q .non H', rt := Q } (start N_NoName_init vs) H := by
  obtain ⟨a, C, u, rfl, oe, n1, ha, k⟩ := h
  refine ⟨_, rfl, a, C, _, rfl, (by show (1 : Nat) ≤ 1000; decide), oe, ha, ?_⟩
  exact ⟨_, rfl, _, rfl, a, C, rfl, oe, n1, .inl ⟨ha, fun d nd hd => k d nd hd⟩⟩
end
end Fw
set_option Elab.async false
set_option linter.all false
set_option maxRecDepth 100000
set_option maxHeartbeats 1000000
namespace Fw
open PySem L2 RZ RT
/-- the name of a version -/
def isVn (cs : List Ct) (i : Int) : Bool := (decide (0 ≤ i) && decide (i < (cs.length : Nat))) && isV cs i
section
variable [HasW]
def sp_Book_is_version (K : PySem.W.Frag) : Sp := fun vs H Q _ => ∃ (b : BkA) (cs : List Ct) (as : List Addr) (i : Int), vs = [.ref b.B, .int i] ∧ BkAt K H b cs as ∧ Q (.bl (isVn cs i)) H
end
section
variable [HasW] {K : PySem.W.Frag} {vs : List V} {H : Hp} {Q : VK} {E : XK}
theorem len_Book_is_version (h : sp_Book_is_version K vs H Q E) : vs.length = 2 := by obtain ⟨_, _, _, _, rfl, _⟩ := h; rfl
end
section
variable [HasW]
abbrev N_Book_is_version : List Str := ["self", "thing"]
def t_Book_is_version (K : PySem.W.Frag) : TS := (tRet (tAndV (tMeth (He.ga K "Book") "is_name" (sp_Book_is_name K) [] E0 (tVar 0) (tCons (tVar 1) tNil)) (tOp rEq (tOp (rIx K) (tOp (rIx K) (tFld K (tVar 0) "contents") (tVar 1)) (tC (.int 0))) (tC (.str "version")))))
end
section
variable [HasW] {K : PySem.W.Frag} {vs : List V} {H : Hp} {Q : VK} {E : XK}
theorem pure_Book_is_version (h : sp_Book_is_version K vs H Q E) : t_Book_is_version K { nx := fun _ H' => Q .non H', rt := Q } (start N_Book_is_version vs) H := by
  obtain ⟨b, cs, as, i, rfl, bk, q⟩ := h
  unfold isVn at q
  refine bk.me (by decide) rfl ⟨_, rfl, b, cs, as, i, rfl, bk, _, rfl, ?_⟩
  by_cases h0 : (0 : Int) ≤ i
  · by_cases h1 : i < (cs.length : Nat)
    · rw [decide_eq_true h0, decide_eq_true h1] at q ⊢
      obtain ⟨m, rfl⟩ := Int.eq_ofNat_of_zero_le h0
      have hm : m < cs.length := by omega
      obtain ⟨a, ha, hc⟩ := bk.at_.get (List.getElem?_eq_getElem hm)
      obtain ⟨dx, fs, hx, hf1, _⟩ := id bk.bo
      refine iteT ⟨_, rfl, b.B, _, dx, fs, _, rfl, hx, bk.bc.cl, bk.bc.n1, hf1, _, rfl, ixL bk.hL (atI_nat (by rw [List.getElem?_map, ha]; rfl)) (hc.fst ⟨rfl, ?_⟩)⟩
      rw [isV_at (List.getElem?_eq_getElem hm)] at q
      rw [show decide (V.str cs[m].word = V.str "version") = decide (cs[m].word = "version") from decide_eq_decide.mpr ⟨fun h => V.str.inj h, fun h => by rw [h]⟩]
      exact q
    · rw [decide_eq_true h0, decide_eq_false h1] at q ⊢
      exact iteF q
  · rw [decide_eq_false h0] at q ⊢
    exact iteF q
end
end Fw
set_option Elab.async false
set_option linter.all false
set_option maxRecDepth 100000
set_option maxHeartbeats 1000000
namespace Fw
open PySem L2 RZ RT
section
variable [HasW]
abbrev N_check_versionsX : List Str := ["book", "names", "name"]
def t_check_versionsX (K : PySem.W.Frag) (E : XK) : TS := (tFor (iTup K (tVar 1)) (gName 2) (tIfS (tNot (tB (tMeth (He.ga K "Book") "is_version" (sp_Book_is_version K) [] E0 (tVar 0) (tCons (tVar 2) tNil)))) (tRaiseO E (He.ga K "NoName") (sp_NoName_init K) (tCons (tVar 2) tNil)) tNext))
end
end Fw
set_option Elab.async false
set_option linter.all false
set_option maxRecDepth 100000
set_option maxHeartbeats 1000000
namespace Fw
open PySem L2 RZ RT
section
variable [HasW] {K : PySem.W.Frag} {vs : List V} {H H' H0 : Hp} {Q : VK} {E : XK}
theorem Th0.at {T : Addr} {cs : List Ct} {ns : List Int} (t : Th0 H T cs) (nm : NmOk cs ns) {x : Int} (hx : x ∈ ns) (hv : isV cs x = true) : ∃ (i : Nat) (ps : List Int) (r s : Int) (as : List Addr) (a q : Addr), x = (i : Int) ∧ cs[i]? = some (.ver ps r s) ∧ ps.length ≤ 4 ∧ H T = some (.lst (as.map V.ref)) ∧ as[i]? = some a ∧ H a = some (.tup [.str "version", .ref q, .int r, .int s]) ∧ H q = some (.tup (ps.map V.int)) := by
  obtain ⟨i, c, rfl, hc⟩ := nm.get hx
  obtain ⟨ps, r, s, rfl⟩ := isV_ver hc hv
  obtain ⟨as, hT, hcs⟩ := t.tr
  obtain ⟨a, ha, q, h1, h2⟩ := hcs.get hc
  exact ⟨i, ps, r, s, as, a, q, rfl, hc, (t.fam.form _ (List.mem_of_getElem? hc)).1, hT, ha, h1, h2⟩
theorem Th0.kf {T : Addr} {G : List Addr} {cs : List Ct} (t : Th0 H T cs) (k : Kf G H H') (h1 : T ∉ G) (tm : TM H H') : Th0 H' T cs := by
  obtain ⟨as, e1, e2⟩ := t.tr
  exact ⟨⟨as, k _ _ e1 h1, e2.mono tm⟩, t.fam, t.few⟩
end
end Fw
set_option Elab.async false
set_option linter.all false
set_option maxRecDepth 100000
set_option maxHeartbeats 1000000
namespace Fw
open PySem L2 RZ RT
def stmp (cs : List Ct) (x : Int) : Int :=
  match cs.getD x.toNat (.leaf []) with
  | .ver _ _ s => s
  | _ => 0
structure LogAt (H : Hp) (L : Addr) (as : List Addr) (cs : List Ct) (ns ks : List Int) : Prop where
  hL : H L = some (.lst (as.map V.ref))
  len : as.length = ks.length
  row : ∀ (i : Nat) (a : Addr) (x : Int), as[i]? = some a → ks[i]? = some x → H a = some (.tup [.int x, .int (stmp cs x), .bl (brim cs ns x)])
theorem LogAt.same {H H' : Hp} {L : Addr} {as : List Addr} {cs : List Ct} {ns ks : List Int} (l : LogAt H L as cs ns ks) (s : Same H H') : LogAt H' L as cs ns ks := ⟨s _ _ l.hL, l.len, fun i a x h1 h2 => s _ _ (l.row i a x h1 h2)⟩
end Fw
set_option Elab.async false
set_option linter.all false
set_option maxRecDepth 100000
set_option maxHeartbeats 1000000
namespace Fw
open PySem L2 RZ RT
structure ErG (K : PySem.W.Frag) (X : Str) (no : List Str) : Prop where
  ec : ExcC K (He.ga K X)
  me : PySem.W.exmOne K (.ref (He.ga K X)) (.ref (He.ga K X)) = some true
  em : PySem.W.exmOne K (.ref (He.ga K X)) (.ref (He.ga K "HouseError")) = some true
  kv : PySem.W.kitOne K (.ref (He.ga K X)) (.type "ValueError") = some true
  kx : PySem.W.kitOne K (.ref (He.ga K X)) (.ref (He.ga K X)) = some true
  kn : ∀ Y ∈ no, PySem.W.kitOne K (.ref (He.ga K X)) (.ref (He.ga K Y)) = some false
  en : ∀ Y ∈ no, PySem.W.exmOne K (.ref (He.ga K X)) (.ref (He.ga K Y)) = some false
  xf : XfC K (He.ga K X)
  oex : OexC K (He.ga K X)
  no_ : PySem.W.findIn K (.ref (He.ga K X)) "name" = some none
  ini : PySem.W.findIn K (.ref (He.ga K X)) "__init__" = some (some (.ref (He.fAd K (X, some "__init__"))))
  tin : PySem.W.typeIn K (.ref (He.fAd K (X, some "__init__"))) = some (.type "function")
theorem ergB_ok {K : PySem.W.Frag} {X : Str} {no : List Str} (h : ergB K X no = true) : ErG K X no := by
  unfold ergB at h
  obtain ⟨h1, h⟩ := He.ba h
  obtain ⟨h2, h⟩ := He.ba h
  obtain ⟨h3, h⟩ := He.ba h
  obtain ⟨h4, h⟩ := He.ba h
  obtain ⟨h5, h⟩ := He.ba h
  obtain ⟨h6, h⟩ := He.ba h
  obtain ⟨h6b, h⟩ := He.ba h
  obtain ⟨h7, h⟩ := He.ba h
  obtain ⟨h8, h⟩ := He.ba h
  obtain ⟨h9, h⟩ := He.ba h
  obtain ⟨h10, h11⟩ := He.ba h
  exact ⟨excB_ok h1, of_decide_eq_true h2, of_decide_eq_true h3, of_decide_eq_true h4, of_decide_eq_true h5, fun Y hY => of_decide_eq_true (List.all_eq_true.mp h6 Y hY), fun Y hY => of_decide_eq_true (List.all_eq_true.mp h6b Y hY), xfB_ok h7, oexB_ok h8, of_decide_eq_true h9, of_decide_eq_true h10, of_decide_eq_true h11⟩
/-- raise X(v) -/
theorem raiseE {K : PySem.W.Frag} {H : Hp} {E : XK} {σ : L2.St} {X : Str} {no : List Str} {v : V} {i : Nat} {D : Ends} {sp : PySem.W.Frag → Sp} (e : ErG K X no) (hs : ∀ (H : Hp) (a : Addr) (W : VK) (E : XK), H a = some (exo a (He.ga K X) none) → (∀ d, H d = none → d ≠ a → W .non (upd (upd H d (exd d [("name", v)])) a (exo a (He.ga K X) (some d)))) → sp K [.ref a, v] H W E) (ei : σ[i]? = some (some v))
    (k : ∀ d H', Same H H' → H d = none → H' d = some (.xd [("name", v)]) → E (.ref (He.ga K X)) (some d) H') : tRaiseO E (He.ga K X) (sp K) (tCons (tVar i) tNil) D σ H := by
  refine ⟨_, ei, (by show (1 : Nat) ≤ 1000; decide), fun a na => ?_⟩
  refine hs _ a _ _ updS fun d nd hd => ⟨rfl, d, _, updS, updN hd updS, ?_, ?_⟩
  · rw [upd_ne hd] at nd
    exact nd
  · rw [upd_ne hd] at nd
    refine k d _ (fun b o e => ?_) nd updS
    have b1 : b ≠ d := ne_of_none e nd
    have b2 : b ≠ a := ne_of_none e na
    rw [upd_ne b1, del_ne b2, upd_ne b2, upd_ne b1, upd_ne b2]
    exact e
end Fw
set_option Elab.async false
set_option linter.all false
set_option maxRecDepth 100000
set_option maxHeartbeats 1000000
namespace Fw
open PySem L2 RZ RT
def sp_Lack_init (K : PySem.W.Frag) : Sp := fun vs H Q _ => ∃ (a C : Addr) (u : V), vs = [.ref a, u] ∧ OexC K C ∧ PySem.W.findIn K (.ref C) "name" = some none ∧ H a = some (exo a C none) ∧
  ∀ d, H d = none → d ≠ a → Q .non (upd (upd H d (exd d [("name", u)])) a (exo a C (some d)))
section
variable [HasW] {K : PySem.W.Frag} {vs : List V} {H : Hp} {Q : VK} {E : XK}
theorem len_Lack_init (h : sp_Lack_init K vs H Q E) : vs.length = 2 := by obtain ⟨_, _, _, rfl, _⟩ := h; rfl
end
section
variable [HasW]
abbrev N_Lack_init : List Str := ["self", "name"]
def t_Lack_init (K : PySem.W.Frag) : TS := (tSeq (tDrop (tVeI K (tCons (tVar 0) (tCons (tC (.str "the thing is not held")) tNil))))
    (tOst K "name" (tVar 0) (tVar 1)))
end
section
variable [HasW] {K : PySem.W.Frag} {vs : List V} {H : Hp} {Q : VK} {E : XK}
theorem pure_Lack_init (h : sp_Lack_init K vs H Q E) : t_Lack_init K { nx := fun _ H' => Q .non H', rt := Q } (start N_Lack_init vs) H := by
  obtain ⟨a, C, u, rfl, oe, n1, ha, k⟩ := h
  refine ⟨_, rfl, a, C, _, rfl, (by show (1 : Nat) ≤ 1000; decide), oe, ha, ?_⟩
  exact ⟨_, rfl, _, rfl, a, C, rfl, oe, n1, .inl ⟨ha, fun d nd hd => k d nd hd⟩⟩
end
end Fw
set_option Elab.async false
set_option linter.all false
set_option maxRecDepth 100000
set_option maxHeartbeats 1000000
namespace Fw
open PySem L2 RZ RT
/-- what the class Pin must have -/
structure PnC (K : PySem.W.Frag) : Prop where
  cl : Cls K (He.ga K "Pin")
  n1 : NoAttr K (He.ga K "Pin") "home"
  n2 : NoAttr K (He.ga K "Pin") "inside"
  n3 : NoAttr K (He.ga K "Pin") "is_let_go"
structure PnA where
  A : Addr
  I : Addr
abbrev pnF (hA I : Addr) (off : Bool) : List (Str × V) := [("home", .ref hA), ("inside", .ref I), ("is_let_go", .bl off)]
/-- a pin of the house at hA, with these names; let go or not -/
structure PnAt (K : PySem.W.Frag) (H : Hp) (p : PnA) (hA : Addr) (ks : List Int) (off : Bool) : Prop where
  pc : PnC K
  ho : ∃ dx, H p.A = some (.ins (He.ga K "Pin") dx (pnF hA p.I off))
  hI : H p.I = some (.dK (nmD ks))
  nd : ks.Nodup
  few : ks.length ≤ 400
structure ErN (K : PySem.W.Frag) : Prop where
  nn : ErG K "NoName" ["Lack"]
  lk : ErG K "Lack" ["NoName"]
def HeldE (K : PySem.W.Frag) (H : Hp) (E : XK) (X : Str) (x : Int) : Prop := ∀ d H', Same H H' → H d = none → H' d = some (.xd [("name", .int x)]) → E (.ref (He.ga K X)) (some d) H'
theorem HeldE.back {K : PySem.W.Frag} {H H1 : Hp} {E : XK} {X : Str} {x : Int} (e : HeldE K H E X x) (s : Same H H1) : HeldE K H1 E X x := fun d H' s' nd hd => e d H' (s.trans s') (by
  cases z : H d with
  | none => rfl
  | some o => rw [s _ _ z] at nd; cases nd) hd
def rLenDp : List V → Hp → VK → Prop := fun xs H Q => ∃ a kvs, xs = [V.ref a] ∧ H a = some (.dK kvs) ∧ Q (.int kvs.length) H
def goodN (cs : List Ct) (x : Int) : Bool := decide (0 ≤ x) && decide (x < (cs.length : Nat))
/-- the first name that is refused, and by which error -/
def heldDue (cs : List Ct) (ns xs : List Int) : Option (Str × Int) :=
  match xs.find? (fun x => !goodN cs x) with
  | some x => some ("NoName", x)
  | none => (xs.find? (fun x => !decide (x ∈ ns))).map fun x => ("Lack", x)
def verDue (cs : List Ct) (ns : List Int) (x : Int) : Option (Str × Int) := if isVn cs x = true then (if x ∈ ns then none else some ("Lack", x)) else some ("NoName", x)
theorem find_at {α : Type} {p : α → Bool} : ∀ {xs : List α} {i : Nat} {x : α}, xs[i]? = some x → (∀ y ∈ xs.take i, p y = false) → p x = true → xs.find? p = some x
  | [], i, x, h, _, _ => by simp at h
  | y :: ys, 0, x, h, _, hx => by
    cases Option.some.inj h
    rw [List.find?_cons, hx]
  | y :: ys, i + 1, x, h, b, hx => by
    rw [List.find?_cons, b y (by rw [List.take_succ_cons]; exact List.mem_cons_self)]
    exact find_at (by simpa using h) (fun z hz => b z (by rw [List.take_succ_cons]; exact List.mem_cons_of_mem _ hz)) hx
theorem find_no {α : Type} {p : α → Bool} {xs : List α} (h : ∀ y ∈ xs, p y = false) : xs.find? p = none := List.find?_eq_none.mpr fun y hy => by rw [h y hy]; decide
section
variable [HasW]
def sp_House_holds (K : PySem.W.Frag) : Sp := fun vs H Q _ => ∃ (h : HsA) (B : Addr) (ns : List Int) (m x : Int), vs = [.ref h.A, .int x] ∧ HsAt K H h B ns m ∧ Q (.bl (decide (x ∈ ns))) H
def sp_check_held (K : PySem.W.Frag) : Sp := fun vs H Q E => ∃ (h : HsA) (b : BkA) (cs : List Ct) (as : List Addr) (ns xs : List Int) (m : Int) (N : Addr), vs = [.ref h.A, .ref N] ∧ ErN K ∧ HsAt K H h b.B ns m ∧ BkAt K H b cs as ∧ (H N = some (.lst (xs.map V.int)) ∨ H N = some (.tup (xs.map V.int))) ∧
  (heldDue cs ns xs = none → Q .non H) ∧ ∀ X x, heldDue cs ns xs = some (X, x) → HeldE K H E X x
def sp_check_versionsB (K : PySem.W.Frag) : Sp := fun vs H Q E => ∃ (P : Addr) (b : BkA) (cs : List Ct) (as : List Addr) (v : Int), vs = [.ref b.B, .ref P] ∧ ErN K ∧ BkAt K H b cs as ∧ H P = some (.tup [.int v]) ∧ (isVn cs v = true → Q .non H) ∧ (isVn cs v = false → HeldE K H E "NoName" v)
def sp_check_held_versionH (K : PySem.W.Frag) : Sp := fun vs H Q E => ∃ (h : HsA) (b : BkA) (cs : List Ct) (as : List Addr) (ns : List Int) (m v : Int), vs = [.ref h.A, .int v] ∧ ErN K ∧ HsAt K H h b.B ns m ∧ BkAt K H b cs as ∧
  (verDue cs ns v = none → ∀ H', Same H H' → Q .non H') ∧ ∀ X x, verDue cs ns v = some (X, x) → HeldE K H E X x
def sp_Pin_init (K : PySem.W.Frag) : Sp := fun vs H Q E => ∃ (x dx : Addr) (h : HsA) (b : BkA) (cs : List Ct) (as : List Addr) (ns xs : List Int) (m : Int) (N : Addr), vs = [.ref x, .ref h.A, .ref N] ∧ PnC K ∧ ErN K ∧ H x = some (.ins (He.ga K "Pin") dx []) ∧ HsAt K H h b.B ns m ∧ BkAt K H b cs as ∧ (H N = some (.lst (xs.map V.int)) ∨ H N = some (.tup (xs.map V.int))) ∧ xs.length ≤ 400 ∧
  (heldDue cs ns xs = none → ∀ (p : PnA) (H' : Hp), p.A = x → (∀ a o, H a = some o → a ≠ x → H' a = some o) → H p.I = none → PnAt K H' p h.A (once xs) false → Q .non H') ∧ ∀ X y, heldDue cs ns xs = some (X, y) → HeldE K H E X y
def sp_Pin_len (K : PySem.W.Frag) : Sp := fun vs H Q _ => ∃ (p : PnA) (hA : Addr) (ks : List Int) (off : Bool), vs = [.ref p.A] ∧ PnAt K H p hA ks off ∧ Q (.int (ks.length : Nat)) H
def sp_Pin_names (K : PySem.W.Frag) : Sp := fun vs H Q _ => ∃ (p : PnA) (hA : Addr) (ks : List Int) (off : Bool), vs = [.ref p.A] ∧ PnAt K H p hA ks off ∧
  ∀ (L : Addr) (ks' : List Int), H L = none → ks'.Perm ks → ks'.Pairwise (· < ·) → Q (.ref L) (upd H L (.lst (ks'.map V.int)))
def sp_Pin_add (K : PySem.W.Frag) : Sp := fun vs H Q E => ∃ (p : PnA) (h : HsA) (b : BkA) (cs : List Ct) (as : List Addr) (ns ks : List Int) (m n : Int) (off : Bool), vs = [.ref p.A, .int n] ∧ ErN K ∧ PnAt K H p h.A ks off ∧ HsAt K H h b.B ns m ∧ BkAt K H b cs as ∧ ks.length < 400 ∧
  (off = true → E (.ref (He.ga K "LetGo")) none H) ∧ (off = false → heldDue cs ns [n] = none → ∀ H', Kf [p.I] H H' → PnAt K H' p h.A (insM ks n) false → Q .non H') ∧ (off = false → ∀ X y, heldDue cs ns [n] = some (X, y) → HeldE K H E X y)
def sp_Pin_let_go (K : PySem.W.Frag) : Sp := fun vs H Q _ => ∃ (p : PnA) (hA : Addr) (ks : List Int) (off : Bool), vs = [.ref p.A] ∧ PnAt K H p hA ks off ∧
  ∀ (I : Addr) (H' : Hp), Kf [p.A] H H' → H I = none → PnAt K H' ⟨p.A, I⟩ hA [] true → Q .non H'
theorem len_House_holds {K : PySem.W.Frag} {vs : List V} {H : Hp} {Q : VK} {E : XK} (h : sp_House_holds K vs H Q E) : vs.length = 2 := by obtain ⟨_, _, _, _, _, rfl, _⟩ := h; rfl
theorem len_check_held {K : PySem.W.Frag} {vs : List V} {H : Hp} {Q : VK} {E : XK} (h : sp_check_held K vs H Q E) : vs.length = 2 := by obtain ⟨_, _, _, _, _, _, _, _, rfl, _⟩ := h; rfl
theorem len_check_versionsB {K : PySem.W.Frag} {vs : List V} {H : Hp} {Q : VK} {E : XK} (h : sp_check_versionsB K vs H Q E) : vs.length = 2 := by obtain ⟨_, _, _, _, _, rfl, _⟩ := h; rfl
theorem len_check_held_versionH {K : PySem.W.Frag} {vs : List V} {H : Hp} {Q : VK} {E : XK} (h : sp_check_held_versionH K vs H Q E) : vs.length = 2 := by obtain ⟨_, _, _, _, _, _, _, rfl, _⟩ := h; rfl
theorem len_Pin_init {K : PySem.W.Frag} {vs : List V} {H : Hp} {Q : VK} {E : XK} (h : sp_Pin_init K vs H Q E) : vs.length = 3 := by obtain ⟨_, _, _, _, _, _, _, _, _, _, rfl, _⟩ := h; rfl
theorem len_Pin_len {K : PySem.W.Frag} {vs : List V} {H : Hp} {Q : VK} {E : XK} (h : sp_Pin_len K vs H Q E) : vs.length = 1 := by obtain ⟨_, _, _, _, rfl, _⟩ := h; rfl
theorem len_Pin_names {K : PySem.W.Frag} {vs : List V} {H : Hp} {Q : VK} {E : XK} (h : sp_Pin_names K vs H Q E) : vs.length = 1 := by obtain ⟨_, _, _, _, rfl, _⟩ := h; rfl
theorem len_Pin_add {K : PySem.W.Frag} {vs : List V} {H : Hp} {Q : VK} {E : XK} (h : sp_Pin_add K vs H Q E) : vs.length = 2 := by obtain ⟨_, _, _, _, _, _, _, _, _, _, rfl, _⟩ := h; rfl
theorem len_Pin_let_go {K : PySem.W.Frag} {vs : List V} {H : Hp} {Q : VK} {E : XK} (h : sp_Pin_let_go K vs H Q E) : vs.length = 1 := by obtain ⟨_, _, _, _, rfl, _⟩ := h; rfl
abbrev N_House_holds : List Str := ["self", "name"]
def t_House_holds (K : PySem.W.Frag) : TS := (tRet (tAndV (tCall (sp_is_intI K) [] E0 (tCons (tVar 1) tNil)) (tDIn (tVar 1) (tFld K (tVar 0) "inside"))))
abbrev N_check_held : List Str := ["house", "names", "name"]
def t_check_held (K : PySem.W.Frag) (E : XK) : TS := (tSeq (tFor (iOr (iList K (tVar 1)) (iTup K (tVar 1))) (gName 2) (tIfS (tNot (tB (tMeth (He.ga K "Book") "is_name" (sp_Book_is_name K) [] E0 (tFld K (tVar 0) "book") (tCons (tVar 2) tNil)))) (tRaiseO E (He.ga K "NoName") (sp_NoName_init K) (tCons (tVar 2) tNil)) tNext))
    (tFor (iOr (iList K (tVar 1)) (iTup K (tVar 1))) (gName 2) (tIfS (tNot (tB (tMeth (He.ga K "House") "holds" (sp_House_holds K) [] E0 (tVar 0) (tCons (tVar 2) tNil)))) (tRaiseO E (He.ga K "Lack") (sp_Lack_init K) (tCons (tVar 2) tNil)) tNext)))
abbrev N_check_held_versionH : List Str := ["holder", "name"]
def t_check_held_versionH (K : PySem.W.Frag) (E : XK) : TS := (tSeq (tDrop (tCallS (sp_check_versionsB K) (fun _ => E) (tCons (tFld K (tVar 0) "book") (tCons (tTup (tCons (tVar 1) tNil)) tNil))))
    (tIfS (tNot (tB (tMeth (He.ga K "House") "holds" (sp_House_holds K) [] E0 (tVar 0) (tCons (tVar 1) tNil)))) (tRaiseO E (He.ga K "Lack") (sp_Lack_init K) (tCons (tVar 1) tNil)) tNext))
abbrev N_Pin_init : List Str := ["self", "house", "names", "name"]
def t_Pin_init (K : PySem.W.Frag) (E : XK) : TS := (tSeq (tDrop (tCallS (sp_check_held K) (fun _ => E) (tCons (tVar 1) (tCons (tVar 2) tNil))))
    (tSeq (sFld K (tVar 0) (tVar 1) "home")
    (tSeq (sFld K (tVar 0) (tDc (iOr (iList K (tVar 2)) (iTup K (tVar 2))) (gName 3) tYes (tVar 3) (tC (.bl true)) [3]) "inside")
    (sFld K (tVar 0) (tC (.bl false)) "is_let_go"))))
abbrev N_Pin_len : List Str := ["self"]
def t_Pin_len (K : PySem.W.Frag) : TS := (tRet (tCB rLenDp (tCons (tFld K (tVar 0) "inside") tNil)))
abbrev N_Pin_names : List Str := ["self"]
def t_Pin_names (K : PySem.W.Frag) : TS := (tRet (tCB rSortK (tCons (tFld K (tVar 0) "inside") tNil)))
abbrev N_Pin_add : List Str := ["self", "name"]
def t_Pin_add (K : PySem.W.Frag) (E : XK) : TS := (tSeq (tIfS (tB (tFld K (tVar 0) "is_let_go")) (tRaise E (.ref (He.ga K "LetGo"))) tNext)
    (tSeq (tDrop (tCallS (sp_check_held K) (fun _ => E) (tCons (tFld K (tVar 0) "home") (tCons (tTup (tCons (tVar 1) tNil)) tNil))))
    (sDPut (tFld K (tVar 0) "inside") (tVar 1) (tC (.bl true)))))
abbrev N_Pin_let_go : List Str := ["self"]
def t_Pin_let_go (K : PySem.W.Frag) : TS := (tSeq (sFld K (tVar 0) tDNewK "inside")
    (sFld K (tVar 0) (tC (.bl true)) "is_let_go"))
end
section
variable [HasW] {K : PySem.W.Frag} {vs : List V} {H H' : Hp} {Q : VK} {E : XK} {p : PnA} {hA : Addr} {ks : List Int} {off : Bool} {σ : L2.St} {i : Nat}
theorem PnAt.kf {F : List Addr} (x : PnAt K H p hA ks off) (kf : Kf F H H') (n : ∀ y ∈ [p.A, p.I], y ∉ F) : PnAt K H' p hA ks off := by
  obtain ⟨dx, e⟩ := x.ho
  exact ⟨x.pc, ⟨dx, kf _ _ e (n _ (by simp))⟩, kf _ _ x.hI (n _ (by simp)), x.nd, x.few⟩
theorem PnAt.same (x : PnAt K H p hA ks off) (s : Same H H') : PnAt K H' p hA ks off := x.kf (F := []) (.same s) fun _ _ z => nomatch z
theorem PnAt.fI (x : PnAt K H p hA ks off) (e : σ[i]? = some (some (.ref p.A))) (q : Q (.ref p.I) H) : tFld K (tVar i) "inside" σ H Q := by
  obtain ⟨dx, hx⟩ := x.ho
  exact ⟨_, e, p.A, _, dx, _, _, rfl, hx, x.pc.cl, x.pc.n2, rfl, q⟩
theorem PnAt.fH (x : PnAt K H p hA ks off) (e : σ[i]? = some (some (.ref p.A))) (q : Q (.ref hA) H) : tFld K (tVar i) "home" σ H Q := by
  obtain ⟨dx, hx⟩ := x.ho
  exact ⟨_, e, p.A, _, dx, _, _, rfl, hx, x.pc.cl, x.pc.n1, rfl, q⟩
theorem PnAt.fG (x : PnAt K H p hA ks off) (e : σ[i]? = some (some (.ref p.A))) (q : Q (.bl off) H) : tFld K (tVar i) "is_let_go" σ H Q := by
  obtain ⟨dx, hx⟩ := x.ho
  exact ⟨_, e, p.A, _, dx, _, _, rfl, hx, x.pc.cl, x.pc.n3, rfl, q⟩
theorem PnAt.me {n : Str} {sp : Sp} {E : XK} {ta : TA} (x : PnAt K H p hA ks off) (hm : (pnF hA p.I off).lookup n = none) (e : σ[i]? = some (some (.ref p.A))) (q : ta σ H fun vs H2 => sp (.ref p.A :: (vs ++ [])) H2 Q E) : tMeth (He.ga K "Pin") n sp [] E (tVar i) ta σ H Q := by
  obtain ⟨dx, hx⟩ := x.ho
  exact ⟨_, e, p.A, dx, _, rfl, hx, hm, q⟩
theorem PnAt.ne (x : PnAt K H p hA ks off) : p.A ≠ p.I := by
  obtain ⟨dx, e⟩ := x.ho
  exact ne_of e x.hI fun z => by cases z
theorem pure_House_holds (h : sp_House_holds K vs H Q E) : t_House_holds K { nx := fun _ H' => Q .non H', rt := Q } (start N_House_holds vs) H := by
  obtain ⟨h, B, ns, m, x, rfl, st, k⟩ := h
  refine ⟨_, rfl, x, rfl, _, rfl, iteT ⟨_, rfl, ?_⟩⟩
  show tFld K (tVar 0) "inside" _ _ _
  refine st.fI rfl ⟨h.I, _, rfl, DGet.k (k := Sum.inl x) st.hI, ?_⟩
  rw [nmD_some]
  exact k
/-- raise X(name), the name in a slot -/
theorem raiseN {X : Str} {no : List Str} {sp : PySem.W.Frag → Sp} {x : Int} {D : Ends} (er : ErG K X no) (hs : ∀ (H : Hp) (a : Addr) (W : VK) (E : XK), H a = some (exo a (He.ga K X) none) → (∀ d, H d = none → d ≠ a → W .non (upd (upd H d (exd d [("name", .int x)])) a (exo a (He.ga K X) (some d)))) → sp K [.ref a, .int x] H W E) (e : σ[i]? = some (some (.int x))) (k : HeldE K H E X x) :
    tRaiseO E (He.ga K X) (sp K) (tCons (tVar i) tNil) D σ H := raiseE (sp := sp) er hs e fun d H' s nd hd => k d H' s nd hd
theorem initN {X : Str} {no : List Str} (er : ErG K X no) {x : V} : ∀ (H : Hp) (a : Addr) (W : VK) (E : XK), H a = some (exo a (He.ga K X) none) → (∀ d, H d = none → d ≠ a → W .non (upd (upd H d (exd d [("name", x)])) a (exo a (He.ga K X) (some d)))) → sp_NoName_init K [.ref a, x] H W E := fun H a W E ha kk => ⟨a, _, _, rfl, er.oex, er.no_, ha, kk⟩
theorem initL {X : Str} {no : List Str} (er : ErG K X no) {x : V} : ∀ (H : Hp) (a : Addr) (W : VK) (E : XK), H a = some (exo a (He.ga K X) none) → (∀ d, H d = none → d ≠ a → W .non (upd (upd H d (exd d [("name", x)])) a (exo a (He.ga K X) (some d)))) → sp_Lack_init K [.ref a, x] H W E := fun H a W E ha kk => ⟨a, _, _, rfl, er.oex, er.no_, ha, kk⟩
theorem pure_check_held (h : sp_check_held K vs H Q E) : t_check_held K E { nx := fun _ H' => Q .non H', rt := Q } (start N_check_held vs) H := by
  obtain ⟨h, b, cs, as, ns, xs, m, N, rfl, er, st, bk, hN, k1, k2⟩ := h
  have l0 : (xs.map V.int).length = xs.length := List.length_map ..
  refine iOr_ints (i := 1) rfl hN fun J G w hG => ?_
  refine for_it w (fun i σ H' => H' = H ∧ (∀ y ∈ xs.take i, goodN cs y = true) ∧ ∃ z, σ = [some (.ref h.A), some (.ref N), z]) ⟨rfl, fun y hy => by rw [List.take_zero] at hy; exact absurd hy (by simp), _, rfl⟩ (fun i σ H' _ e => hG _ (by rw [e.1])) ?_ ?_
  · rintro i y σ H2 H3 hi ⟨rfl, gd, z, rfl⟩ ⟨rfl, hy⟩
    rw [List.getElem?_map] at hy
    cases e : xs[i]? with
    | none => rw [e] at hy; cases hy
    | some v =>
      rw [e] at hy
      cases Option.some.inj hy
      have eT : xs.take (i + 1) = xs.take i ++ [v] := by rw [List.take_succ, e]; rfl
      dsimp only [tIfS, tNot, tB, tMeth]
      refine st.fB rfl ?_
      refine bk.meF (m := "is_name") (by decide) ?_
      refine ⟨_, rfl, b, cs, as, v, rfl, bk, _, rfl, ?_⟩
      cases hg : goodN cs v with
      | true =>
        rw [show (decide (0 ≤ v) && decide (v < (cs.length : Nat))) = true from hg]
        refine iteF ⟨rfl, fun y hy => ?_, _, rfl⟩
        rw [eT] at hy
        rcases List.mem_append.mp hy with hy | hy
        · exact gd y hy
        · rw [List.mem_singleton.mp hy]; exact hg
      | false =>
        rw [show (decide (0 ≤ v) && decide (v < (cs.length : Nat))) = false from hg]
        refine iteT (raiseN er.nn (initN er.nn) rfl (k2 "NoName" v ?_))
        unfold heldDue
        rw [find_at e (fun y hy => by rw [gd y hy]; rfl) (by rw [hg]; rfl)]
  · rintro σ H2 ⟨rfl, gd, z, rfl⟩
    rw [l0, List.take_length] at gd
    have fg : xs.find? (fun x => !goodN cs x) = none := find_no fun y hy => by rw [gd y hy]; rfl
    show tFor (iOr (iList K (tVar 1)) (iTup K (tVar 1))) (gName 2) _ _ _ H2
    refine iOr_ints (i := 1) rfl hN fun J2 G2 w2 hG2 => ?_
    refine for_it w2 (fun i σ H' => H' = H2 ∧ (∀ y ∈ xs.take i, y ∈ ns) ∧ ∃ z, σ = [some (.ref h.A), some (.ref N), z]) ⟨rfl, fun y hy => by rw [List.take_zero] at hy; exact absurd hy (by simp), _, rfl⟩ (fun i σ H' _ e => hG2 _ (by rw [e.1])) ?_ ?_
    · rintro i y σ H3 H4 hi ⟨rfl, gd2, z, rfl⟩ ⟨rfl, hy⟩
      rw [List.getElem?_map] at hy
      cases e : xs[i]? with
      | none => rw [e] at hy; cases hy
      | some v =>
        rw [e] at hy
        cases Option.some.inj hy
        have eT : xs.take (i + 1) = xs.take i ++ [v] := by rw [List.take_succ, e]; rfl
        refine st.me (fun _ => rfl) rfl ⟨_, rfl, h, b.B, ns, m, v, rfl, st, _, rfl, ?_⟩
        by_cases hn : v ∈ ns
        · rw [decide_eq_true hn]
          refine iteF ⟨rfl, fun y hy => ?_, _, rfl⟩
          rw [eT] at hy
          rcases List.mem_append.mp hy with hy | hy
          · exact gd2 y hy
          · rw [List.mem_singleton.mp hy]; exact hn
        · rw [decide_eq_false hn]
          refine iteT (raiseN er.lk (initL er.lk) rfl (k2 "Lack" v ?_))
          unfold heldDue
          rw [fg, find_at e (fun y hy => by rw [decide_eq_true (gd2 y hy)]; rfl) (by rw [decide_eq_false hn]; rfl)]
          rfl
    · rintro σ H3 ⟨rfl, gd2, z, rfl⟩
      rw [l0, List.take_length] at gd2
      refine k1 ?_
      unfold heldDue
      rw [fg, find_no fun y hy => by rw [decide_eq_true (gd2 y hy)]; rfl]
      rfl
theorem pure_check_versionsB (h : sp_check_versionsB K vs H Q E) : t_check_versionsX K E { nx := fun _ H' => Q .non H', rt := Q } (start N_check_versionsX vs) H := by
  obtain ⟨P, b, cs, as, v, rfl, er, bk, hP, k1, k2⟩ := h
  refine ⟨_, rfl, P, rfl, ⟨_, sqT hP⟩, ?_⟩
  refine for_tup (K := K) (a := P) (xs := [.int v]) (fun i σ H' => H' = H ∧ (0 < i → isVn cs v = true) ∧ ∃ z, σ = [some (.ref b.B), some (.ref P), z]) ⟨rfl, fun z => absurd z (by decide), _, rfl⟩ ?_ ?_ ?_
  · rintro i σ H' _ ⟨rfl, _⟩
    exact sqT hP
  · rintro i u σ H' hx ⟨rfl, _, z, rfl⟩
    have hi : i = 0 := by have := (List.getElem?_eq_some_iff.mp hx).1; simpa using this
    subst hi
    cases Option.some.inj hx
    refine bk.meV (by decide) rfl ⟨_, rfl, b, cs, as, v, rfl, bk, _, rfl, ?_⟩
    cases hv : isVn cs v with
    | true => exact iteF ⟨rfl, fun _ => rfl, _, rfl⟩
    | false => exact iteT (raiseN er.nn (initN er.nn) rfl (k2 hv))
  · rintro σ H' ⟨rfl, hv, z, rfl⟩
    exact k1 (hv (by show 0 < 1; decide))
theorem pure_check_held_versionH (h : sp_check_held_versionH K vs H Q E) : t_check_held_versionH K E { nx := fun _ H' => Q .non H', rt := Q } (start N_check_held_versionH vs) H := by
  obtain ⟨h, b, cs, as, ns, m, v, rfl, er, st, bk, k1, k2⟩ := h
  dsimp only [t_check_held_versionH, tSeq, tDrop, tCallS, tCons]
  refine st.fB rfl ⟨_, rfl, by show (1 : Nat) ≤ sizeLine; decide, fun P nP => ?_⟩
  have sP : Same H (upd H P (.tup [.int v])) := samN nP
  have hP : upd H P (.tup [.int v]) P = some (.tup [.int v]) := updS
  dsimp only [tNil] at nP ⊢
  generalize upd H P (.tup [.int v]) = H1 at sP hP ⊢
  have st1 := st.same sP
  refine ⟨P, b, cs, as, v, rfl, er, bk.same sP, hP, fun ok => ?_, fun no => (k2 "NoName" v (by unfold verDue; rw [if_neg (by rw [no]; decide)])).back sP⟩
  refine st1.me (fun _ => rfl) rfl ⟨_, rfl, h, b.B, ns, m, v, rfl, st1, _, rfl, ?_⟩
  by_cases hn : v ∈ ns
  · rw [decide_eq_true hn]
    exact iteF (k1 (by unfold verDue; rw [if_pos ok, if_pos hn]) _ sP)
  · rw [decide_eq_false hn]
    exact iteT (raiseN er.lk (initL er.lk) rfl ((k2 "Lack" v (by unfold verDue; rw [if_pos ok, if_neg hn])).back sP))
theorem pure_Pin_init (h : sp_Pin_init K vs H Q E) : t_Pin_init K E { nx := fun _ H' => Q .non H', rt := Q } (start N_Pin_init vs) H := by
  obtain ⟨x, dx, h, b, cs, as, ns, xs, m, N, rfl, pc, er, hx, st, bk, hN, few, k1, k2⟩ := h
  refine ⟨_, rfl, _, rfl, h, b, cs, as, ns, xs, m, N, rfl, er, st, bk, hN, fun ok => ?_, k2⟩
  refine ⟨_, rfl, _, rfl, x, _, dx, _, rfl, hx, pc.cl, pc.n1, by decide, ?_⟩
  have s1 : ∀ a o, H a = some o → a ≠ x → upd H x (.ins (He.ga K "Pin") dx (putF "home" (.ref h.A) [])) a = some o := fun a o e ne => updN ne e
  have hx1 : upd H x (.ins (He.ga K "Pin") dx (putF "home" (.ref h.A) [])) x = some (.ins (He.ga K "Pin") dx [("home", .ref h.A)]) := updS
  have nnx : N ≠ x := hN.elim (fun h => ne_of h hx (by intro z; cases z)) fun h => ne_of h hx (by intro z; cases z)
  have hN1 := hN.imp (fun h => s1 _ _ h nnx) fun h => s1 _ _ h nnx
  generalize upd H x (.ins (He.ga K "Pin") dx (putF "home" (.ref h.A) [])) = H1 at s1 hx1 hN1
  dsimp only [tSeq, sFld]
  refine tDc_setA (i := 2) rfl (by show 3 < 4; decide) hN1 (by omega) fun I nI => ?_
  have nxI : x ≠ I := ne_of_none hx1 nI
  have nI0 : H I = none := by
    cases e : H I with
    | none => rfl
    | some o => rw [s1 _ _ e nxI.symm] at nI; cases nI
  obtain ⟨nd, mem⟩ := once_ok xs
  refine ⟨_, rfl, x, _, dx, _, rfl, updN nxI hx1, pc.cl, pc.n2, by show (1 : Nat) < 1000; decide, ?_⟩
  refine ⟨_, rfl, x, _, dx, _, rfl, updS, pc.cl, pc.n3, by show (2 : Nat) < 1000; decide, ?_⟩
  refine k1 ok ⟨x, I⟩ _ rfl (fun a o e ne => updN ne (updN ne (updN (ne_of_none e nI0) (s1 _ _ e ne)))) nI0 ⟨pc, ⟨dx, updS⟩, updN nxI.symm (updN nxI.symm updS), nd, Nat.le_trans (once_len xs) few⟩
theorem pure_Pin_len (h : sp_Pin_len K vs H Q E) : t_Pin_len K { nx := fun _ H' => Q .non H', rt := Q } (start N_Pin_len vs) H := by
  obtain ⟨p, hA, ks, off, rfl, st, k⟩ := h
  dsimp only [t_Pin_len, tRet, tCB, tCons]
  refine st.fI rfl ⟨p.I, nmD ks, rfl, st.hI, ?_⟩
  rw [List.length_map]
  exact k
theorem pure_Pin_names (h : sp_Pin_names K vs H Q E) : t_Pin_names K { nx := fun _ H' => Q .non H', rt := Q } (start N_Pin_names vs) H := by
  obtain ⟨p, hA, ks, off, rfl, st, k⟩ := h
  dsimp only [t_Pin_names, tRet, tCB, tCons]
  refine st.fI rfl ?_
  exact ⟨p.I, nmD ks, ks, rfl, st.hI, nmD_keys ks, fun ns' L pm inc np => k L ns' np pm (perm_lt pm inc st.nd)⟩
theorem pure_Pin_add (h : sp_Pin_add K vs H Q E) : t_Pin_add K E { nx := fun _ H' => Q .non H', rt := Q } (start N_Pin_add vs) H := by
  obtain ⟨p, h, b, cs, as, ns, ks, m, n, off, rfl, er, pn, st, bk, few, k1, k2, k3⟩ := h
  dsimp only [t_Pin_add, tSeq, tIfS, tB]
  refine pn.fG rfl ⟨_, rfl, ?_⟩
  cases off with
  | true => exact iteT (k1 rfl)
  | false =>
    refine iteF ?_
    dsimp only [tNext]
    dsimp only [tSeq, tDrop, tCallS, tCons]
    refine pn.fH rfl ⟨_, rfl, by show (1 : Nat) ≤ sizeLine; decide, fun P nP => ?_⟩
    have sP : Same H (upd H P (.tup [.int n])) := samN nP
    have hP : upd H P (.tup [.int n]) P = some (.tup ([n].map V.int)) := updS
    dsimp only [tNil] at nP ⊢
    generalize upd H P (.tup [.int n]) = H1 at sP hP ⊢
    have pn1 := pn.same sP
    refine ⟨h, b, cs, as, ns, [n], m, P, rfl, er, st.same sP, bk.same sP, .inr hP, fun ok => ?_, fun X y e => (k3 rfl X y e).back sP⟩
    dsimp only [sDPut, tC]
    refine pn1.fI rfl ⟨_, rfl, p.I, _, rfl, DPut.k (k := Sum.inl n) pn1.hI (by rw [List.length_map]; exact Nat.lt_of_le_of_lt pn.few (by decide)), ?_⟩
    rw [nmD_insM]
    obtain ⟨dx, hA⟩ := pn1.ho
    refine k2 rfl ok _ ((Kf.same sP).up (by simp)) ⟨pn.pc, ⟨dx, updN pn.ne hA⟩, updS, insM_nodup pn.nd, ?_⟩
    unfold insM
    split
    · exact pn.few
    · rw [List.length_append, List.length_singleton]; omega
theorem pure_Pin_let_go (h : sp_Pin_let_go K vs H Q E) : t_Pin_let_go K { nx := fun _ H' => Q .non H', rt := Q } (start N_Pin_let_go vs) H := by
  obtain ⟨p, hA, ks, off, rfl, pn, k⟩ := h
  obtain ⟨dx, hx⟩ := pn.ho
  refine fun I nI => ?_
  have nAI : p.A ≠ I := ne_of_none hx nI
  refine ⟨_, rfl, p.A, _, dx, _, rfl, updN nAI hx, pn.pc.cl, pn.pc.n2, by show (3 : Nat) < 1000; decide, ?_⟩
  refine ⟨_, rfl, p.A, _, dx, _, rfl, updS, pn.pc.cl, pn.pc.n3, by show (3 : Nat) < 1000; decide, ?_⟩
  refine k I _ (fun a o e ne => ?_) nI ⟨pn.pc, ⟨dx, updS⟩, updN nAI.symm (updN nAI.symm updS), .nil, Nat.zero_le _⟩
  have n1 : a ≠ p.A := fun z => ne (by rw [z]; simp)
  exact updN n1 (updN n1 (updN (ne_of_none e nI) e))
end
end Fw
set_option Elab.async false
set_option linter.all false
set_option maxRecDepth 100000
set_option maxHeartbeats 4000000
namespace Fw
open PySem PySem.Spec PyProof.Rows L2 PySem.W SrtO
abbrev PrE := Addr × Str × Str
def pK (p : Str × Str) : List Key := [Sum.inr p.1, Sum.inr p.2]
theorem pK_inj {p q : Str × Str} (h : pK p = pK q) : p = q := by
  unfold pK at h
  injection h with h1 h2
  injection h2 with h2 _
  exact Prod.ext (Sum.inr.inj h1) (Sum.inr.inj h2)
def ltPr (p q : Str × Str) : Prop := p.1.cps.toList < q.1.cps.toList ∨ p.1 = q.1 ∧ p.2.cps.toList < q.2.cps.toList
def encP (z : PrE) : PyData := .tuple [.str z.2.1, .str z.2.2]
def leP (a b : PrE) : Bool := if a.2.1 = b.2.1 then decide (a.2.2.cps.toList ≤ b.2.2.cps.toList) else decide (a.2.1.cps.toList ≤ b.2.1.cps.toList)
theorem leP_eq : PySem.W.dataLe false encP = leP := by
  funext a b
  show (!PySem.W.dataLt (encP b) (encP a)) = _
  unfold encP leP
  rw [PySem.W.dataLt_pair rfl rfl]
  by_cases h : a.2.1 = b.2.1
  · rw [if_pos h, h, if_pos (by show decide (b.2.1 = b.2.1) = true; exact decide_eq_true rfl)]
    by_cases h2 : b.2.2 = a.2.2
    · rw [if_pos (by show decide (b.2.2 = a.2.2) = true; exact decide_eq_true h2), h2]
      rw [decide_eq_true (List.le_refl _)]
      rfl
    · rw [if_neg (by show ¬ decide (b.2.2 = a.2.2) = true; simpa using h2), PySem.W.dataLt_str, PySem.W.not_lt_str]
  · rw [if_neg h, if_neg (by show ¬ decide (b.2.1 = a.2.1) = true; simpa using fun z => h z.symm), PySem.W.dataLt_str, PySem.W.not_lt_str]
theorem leP_total : PySem.W.TotalLe leP where
  trans := fun a b c h1 h2 => by
    unfold leP at *
    by_cases x : a.2.1 = b.2.1
    · rw [if_pos x] at h1
      by_cases y : b.2.1 = c.2.1
      · rw [if_pos y] at h2
        rw [if_pos (x.trans y)]
        exact decide_eq_true (List.le_trans (of_decide_eq_true h1) (of_decide_eq_true h2))
      · rw [if_neg y] at h2
        rw [if_neg (fun z => y (x.symm.trans z)), x]
        exact h2
    · rw [if_neg x] at h1
      by_cases y : b.2.1 = c.2.1
      · rw [← y, if_neg x]
        exact h1
      · rw [if_neg y] at h2
        simp only [decide_eq_true_eq] at h1 h2
        have h3 := List.le_trans h1 h2
        by_cases z : a.2.1 = c.2.1
        · exfalso
          rw [z] at h1
          exact y (str_ext (le_antisymm_l h2 h1))
        · rw [if_neg z]
          exact decide_eq_true h3
  total := fun a b => by
    unfold leP
    by_cases x : a.2.1 = b.2.1
    · rw [if_pos x, if_pos x.symm]
      simp only [decide_eq_true_eq]
      exact List.le_total _ _
    · rw [if_neg x, if_neg fun z => x z.symm]
      simp only [decide_eq_true_eq]
      exact List.le_total _ _
theorem lt_of_le_ne {x y : Str} (h : x.cps.toList ≤ y.cps.toList) (n : x ≠ y) : x.cps.toList < y.cps.toList := by
  rcases Classical.em (x.cps.toList < y.cps.toList) with h2 | h2
  · exact h2
  · exact absurd (str_ext (le_antisymm_l h (List.not_lt.mp h2))) n
theorem leP_lt {a b : PrE} (h : leP a b = true) (n : a.2 ≠ b.2) : ltPr a.2 b.2 := by
  unfold leP at h
  by_cases x : a.2.1 = b.2.1
  · rw [if_pos x] at h
    exact .inr ⟨x, lt_of_le_ne (of_decide_eq_true h) fun z => n (Prod.ext x z)⟩
  · rw [if_neg x] at h
    exact .inl (lt_of_le_ne (of_decide_eq_true h) x)
def rSortPP : List V → Hp → VK → Prop := fun vs H Q => ∃ (a : Addr) (kvs : List (List Key × V)) (ks : List (Str × Str)), vs = [.ref a] ∧ H a = some (.dT kvs) ∧ kvs.map (·.1) = ks.map pK ∧ ks.Nodup ∧ ks.length ≤ 1000 ∧
  ∀ (l : Addr) (ps : List PrE), H l = none → (ps.map (·.2)).Perm ks → ps.Pairwise (fun e f => ltPr e.2 f.2) → (∀ z ∈ ps, H z.1 = some (.tup [.str z.2.1, .str z.2.2])) → Q (.ref l) (upd H l (.lst (ps.map fun z => V.ref z.1)))
theorem keys_at {H : Hp} : ∀ {kvs : List (List Key × V)} {xs : List (List Key × Addr × Value)} {ks : List (Str × Str)}, KT H kvs xs → kvs.map (·.1) = ks.map pK → xs.length = ks.length ∧ ∀ (j : Nat) (x : List Key × Addr × Value) (k : Str × Str), xs[j]? = some x → ks[j]? = some k → x.1 = pK k ∧ H x.2.1 = some (.tup [.str k.1, .str k.2])
  | [], _, [], .nil, _ => ⟨rfl, fun j x k h => by simp at h⟩
  | [], _, _ :: _, _, h => by simp at h
  | _ :: _, _, [], _, h => by simp at h
  | p :: kvs, _, k :: ks, .cons (b := q) (l₂ := qs) h t, e => by
    rw [List.map_cons, List.map_cons] at e
    injection e with e1 e2
    obtain ⟨l, r⟩ := keys_at t e2
    refine ⟨by rw [List.length_cons, List.length_cons, l], fun j x k' hx hk => ?_⟩
    cases j with
    | succ j => exact r j x k' (by simpa using hx) (by simpa using hk)
    | zero =>
      have hx : q = x := by simpa using hx
      have hk : k = k' := by simpa using hk
      subst hx
      subst hk
      have h2 := h.2.1
      rw [e1] at h2
      exact ⟨h.1.symm.trans e1, h2⟩
theorem cr_sortedPP {X : Cx} (hc : X.calm = true) (hu : X.A.units + 64 < cLine) : CallR X (.builtin "sorted") rSortPP := by
  intro pins s σ H xs us Q I r h
  obtain ⟨a, kvs, ks, rfl, ha, hk, nd, few, q⟩ := h
  obtain rfl := Vals.ref1 r
  obtain ⟨z, hd, ys, pr, o, es, ep, ho, hx, hdt, he, hn⟩ := (show ObjOk X.prog X.w H s.heap a (.dT kvs) from I.hok a _ ha)
  obtain ⟨lys, kat⟩ := keys_at pr hk
  have l1 : es.size = ys.length := size_of_entries he
  refine Calls.call_function_entry kind_sorted plain_sorted entry_sorted (args_sorted1 _) ?_
  unfold Builtin.«sorted»
  refine wpAny_bind (m := checkCount "sorted" 1 1 _) (wpAny_pure ?_)
  refine wpAny_bind (kdu_collect (A := X.A.in1) (kdl_raw hd hx hdt) (I.ok.hd hc) ho (by rw [l1, lys, sizeLine_eq]; omega) fun h' tk acc kp hacc => ?_)
  have hl : acc.toList.length = ks.length := by rw [Array.length_toList, hacc.1, l1, lys]
  let zs : List PrE := (ys.map fun y => y.2.1).zip ks
  have lz : zs.length = ks.length := by show ((ys.map fun y => y.2.1).zip ks).length = _; rw [List.length_zip, List.length_map]; omega
  have hz2 : zs.map (·.2) = ks := List.map_snd_zip (by rw [List.length_map]; omega)
  have ea : acc.toList = zs.map fun z => Value.ref z.1 := by
    apply List.ext_getElem?
    intro j
    rw [List.getElem?_map]
    cases hj : acc.toList[j]? with
    | none =>
      have h1 := List.getElem?_eq_none_iff.mp hj
      rw [List.getElem?_eq_none (by omega)]
      rfl
    | some v =>
      obtain ⟨en, hen, hv⟩ := hacc.2 j v (by rw [← Array.getElem?_toList]; exact hj)
      have qe := entry_at he j
      rw [hen] at qe
      cases hb : ys[j]? with
      | none =>
        rw [hb] at qe
        exact nomatch (show some en = none from qe)
      | some b =>
        rw [hb] at qe
        have e2 : en = entryOfKey (tupleKind (mixKind X.prog X.w)) b := Option.some.inj qe
        have hj2 : j < ks.length := by have := (List.getElem?_eq_some_iff.mp hb).1; omega
        have : zs[j]? = some (b.2.1, ks[j]) := List.getElem?_zip_eq_some.mpr ⟨by rw [List.getElem?_map, hb]; rfl, List.getElem?_eq_getElem hj2⟩
        rw [this, hv, e2]
        rfl
  have zat : ∀ z ∈ zs, H z.1 = some (.tup [.str z.2.1, .str z.2.2]) := fun z hz => by
    obtain ⟨j, hj⟩ := List.mem_iff_getElem?.mp hz
    obtain ⟨h1, h2⟩ := List.getElem?_zip_eq_some.mp hj
    rw [List.getElem?_map] at h1
    cases hb : ys[j]? with
    | none => rw [hb] at h1; cases h1
    | some b =>
      rw [hb] at h1
      have := (kat j b z.2 hb h2).2
      rwa [show b.2.1 = z.1 from Option.some.inj h1] at this
  refine wpAny_bind (wpAny_newList ?_ (by rw [hl, sizeLine_eq]; omega))
  have hob : (h'.push { cls := .type "list", data := .seq acc.toList.toArray }).get? h'.objs.size = some (seqObj "list" acc.toList.toArray 0) := Heap.get?_push_size _ rfl
  have kp2 : ∀ b o, s.heap.get? b = some o → b ≠ h'.objs.size ∧ (h'.push { cls := .type "list", data := .seq acc.toList.toArray }).get? b = some o := fun b o e => ⟨Nat.ne_of_lt (Heap.lt_size (kp b o e)), Heap.get?_push_of_some _ (kp b o e)⟩
  have n0 : s.heap.get? h'.objs.size = none := by
    cases e : s.heap.get? h'.objs.size with
    | none => rfl
    | some o => exact absurd (Heap.lt_size (kp _ o e)) (Nat.lt_irrefl _)
  have nH : H h'.objs.size = none := (I.kept (h' := h') (t' := tk) kp).hok.fresh (Nat.le_refl _)
  have I2 : Inv X pins σ H { s with heap := h'.push { cls := .type "list", data := .seq acc.toList.toArray }, toks := tk } := I.kept (t' := tk) fun b o e => (kp2 b o e).2
  generalize h'.push { cls := .type "list", data := .seq acc.toList.toArray } = h2 at hob kp2 I2 ⊢
  have eachOf : ∀ {R : Value → PrE → Prop} (l : List PrE), (∀ z ∈ l, R (Value.ref z.1) z) → PySem.W.EachIs R (l.map fun z => Value.ref z.1) l := by
    intro R l
    induction l with
    | nil => intro _; exact .nil
    | cons z l ih => intro h; exact .cons (h z List.mem_cons_self) (ih fun z hz => h z (List.mem_cons_of_mem _ hz))
  rw [ea] at hob
  have e1 : PySem.W.EachIs (fun (v : Value) (z : PrE) => v = Value.ref z.1 ∧ z ∈ zs) (zs.map fun z => Value.ref z.1) zs := eachOf zs fun z hz => ⟨rfl, hz⟩
  have e2 : PySem.W.EachIs (fun v z => ∃ ws, Reads h2 v (encP z) ws ∧ h'.objs.size ∉ ws) (zs.map fun z => Value.ref z.1) zs := by
    refine eachOf zs fun z hz => ?_
    obtain ⟨_, its, rel, o2, g1, g2, n2, g3⟩ := (show ObjOk X.prog X.w H h2 z.1 (.tup [.str z.2.1, .str z.2.2]) from I2.hok _ _ (zat z hz))
    obtain ⟨u1, u2, rfl, ⟨t1, rfl⟩, ⟨t2, rfl⟩⟩ : ∃ u1 u2, its = [u1, u2] ∧ (∃ t, u1 = Value.str z.2.1 t) ∧ ∃ t, u2 = Value.str z.2.2 t := by
      cases rel with
      | cons r1 t => cases t with
        | cons r2 t => cases t; exact ⟨_, _, rfl, r1, r2⟩
    have nz : z.1 ≠ h'.objs.size := ne_of_none (zat z hz) nH
    exact ⟨_, .tuple g1 g2 g3 (.cons (.str _ t1) (.cons (.str _ t2) .nil)), by simpa using nz.symm⟩
  refine wpAny_bind (wpAny_holding ?_)
  refine PySem.W.list_sort_data (enc := encP) (s := { s with heap := h2, toks := tk }) hob e1 e2 (PySem.W.AllAlike.of fun _ _ => rfl) (PySem.W.Sortable.tuples fun _ => ⟨_, _, rfl⟩) (by rw [lz, sizeLine_eq]; omega) (fun b _ => ?_) fun out _ hout => ?_
  · show X.A.in1.units + 1 + _ < cLine
    rw [Around.in1_units]
    have : (encP b).depth = 1 := by simp [encP, PyData.depth, PyData.depthAll]
    omega
  rw [leP_eq] at hout
  have outs : out = (zs.mergeSort leP).map fun z => Value.ref z.1 := by
    have : ∀ {l : List Value} {m : List PrE}, PySem.W.EachIs (fun v z => v = Value.ref z.1 ∧ z ∈ zs) l m → l = m.map fun z => Value.ref z.1 := by
      intro l m q
      induction q with
      | nil => rfl
      | cons h _ ih => rw [List.map_cons, ← h.1, ← ih]
    exact this hout
  have pm : (zs.mergeSort leP).Perm zs := List.mergeSort_perm _ _
  have hsort : (zs.mergeSort leP).Pairwise fun e f => ltPr e.2 f.2 := by
    have p1 := PySem.W.sort_pairwise leP_total zs
    have p2 : ((zs.mergeSort leP).map fun z => z.2).Nodup := by
      refine ((pm.map fun z => z.2).nodup_iff).mpr ?_
      rw [hz2]
      exact nd
    have p2 : (zs.mergeSort leP).Pairwise fun e f => e.2 ≠ f.2 := List.pairwise_map.mp p2
    exact List.Pairwise.imp₂ (fun e f h1 h2 => leP_lt h1 h2) p1 p2
  subst outs
  have lenM : (zs.mergeSort leP).length = ks.length := by rw [pm.length_eq, lz]
  generalize zs.mergeSort leP = ms at pm hsort lenM
  obtain ⟨eF, heF⟩ := PyProof.Rows.sortedHeap_at (vs := zs.map fun z => Value.ref z.1) (out := (ms.map fun z => Value.ref z.1).toArray) hob
  have kF : ∀ b o, s.heap.get? b = some o → (sortedHeap h2 h'.objs.size (zs.map fun z => Value.ref z.1) (ms.map fun z => Value.ref z.1).toArray).get? b = some o := fun b o e => (PyProof.Rows.sortedHeap_old (kp2 b o e).1 (Heap.lt_size (kp2 b o e).2)).trans (kp2 b o e).2
  have hlen2 : (ms.map fun z => V.ref z.1).length ≤ sizeLine := by rw [List.length_map, lenM, sizeLine_eq]; omega
  have rv : Vals (ms.map fun z => V.ref z.1) (ms.map fun z => Value.ref z.1) := vals_maps (fun z : PrE => V.ref z.1) (fun z => Value.ref z.1) ms fun _ _ => rfl
  exact wpAny_pure ⟨_, rfl, .ref _, upd H h'.objs.size (.lst (ms.map fun z => V.ref z.1)), I.laidN (t' := tk) kF n0 nH ⟨hlen2, _, eF, rv, heF⟩, rfl, q _ ms nH (hz2 ▸ pm.map _) hsort fun z hz => zat z (pm.mem_iff.mp hz)⟩
end Fw
set_option Elab.async false
set_option linter.all false
set_option maxRecDepth 100000
set_option maxHeartbeats 2000000
namespace Fw
open PySem PySem.Spec PyProof.Rows L2
def rPopT1 : V → List V → Hp → VK → Prop := fun x xs H Q => ∃ (a : Addr) (kvs : List (List L2.Key × V)) (k : List L2.Key) (b : Addr) (v : V), x = .ref a ∧ xs = [.ref b] ∧ H a = some (.dT kvs) ∧ H b = some (.tup (k.map kV)) ∧ valV kvs k = some v ∧ Q v (upd H a (.dT (dropK kvs k)))
/-- d.pop(k, x) and d.pop(k) -/
def rPopTA : V → List V → Hp → VK → Prop := fun x xs H Q => L2.DX.rPopT x xs H Q ∨ rPopT1 x xs H Q
theorem mt_popT1 {X : Cx} (hu : X.A.units + 1 < cLine) : MtR X "dict.pop" rPopT1 := by
  intro pins s σ H x xs v us Q I rx rxs h
  obtain ⟨a, kvs, k, b, v0, rfl, rfl, ha, hb, hv, q⟩ := h
  cases rx
  obtain ⟨u1, rfl, r1⟩ := rxs.one
  cases r1
  obtain ⟨z, hd, xs', rel, dd⟩ := dt_of I.hok ha
  have hz : xs'.length ≤ sizeLine := by rw [← Paired.length rel]; exact z
  have r := rel.val k
  rw [hv] at r
  obtain ⟨p, hp, rv⟩ : ∃ p, atKey xs' k = some p ∧ RelV v0 p.2 := by
    cases e : atKey xs' k with
    | none =>
      rw [e] at r
      exact (show False from r).elim
    | some p =>
      rw [e] at r
      exact ⟨p, rfl, r⟩
  refine call_pop_heap (knd := tupleKind (mixKind X.prog X.w)) (hsz := hz) (.inl rfl) (PySem.F.args_dict_pop_2 _ _) (tupleKind_room_in1 hu) (key_of I.hok hb) hd dd hp fun h' dd' hs => ?_
  obtain ⟨o, es, ep, hq, h2, h3, h4, _, h5⟩ := dd'
  have keep := (L2.DX.KT_drop k rel).keeps (H' := upd H a (.dT (dropK kvs k))) fun c ys ec => by
    rw [upd_ne (ne_of ec ha fun z => nomatch z)]
    exact ec
  exact ⟨v0, upd H a (.dT (dropK kvs k)), d_write I (by rw [ha]; exact True.intro) hs ⟨o, hq⟩ ⟨Nat.le_trans (dropK_le kvs k) z, hd, _, keep, o, es, ep, hq, h2, h3, h4, h5⟩, rv, q⟩
theorem mt_popTA {X : Cx} (hu : X.A.units + 1 < cLine) : MtR X "dict.pop" rPopTA := by
  intro pins s σ H x xs v us Q I rx rxs h
  rcases h with h | h
  · exact L2.DX.mt_popT hu pins s σ H x xs v us Q I rx rxs h
  · exact mt_popT1 hu pins s σ H x xs v us Q I rx rxs h
end Fw
set_option Elab.async false
set_option linter.all false
set_option maxRecDepth 100000
set_option maxHeartbeats 1000000
namespace Fw
open PySem L2 RZ RT
abbrev PT := Str × Str
def rSortedDm : List V → Hp → VK → Prop := fun xs H Q => ∃ (a : Addr) (kvs : List (Key × V)) (ks : List Str), xs = [.ref a] ∧ Rd H a (.dK kvs) ∧ kvs.map (·.1) = ks.map Sum.inr ∧ ks.length < 64 ∧
    ∀ ys p, ys.Perm ks → PyProof.Rows.sortedS ys = true → H p = none → Q (.ref p) (upd H p (.lst (ys.map V.str)))
def mkD (mk : List (Str × Int)) : List (Key × V) := mk.map fun e => ((Sum.inr e.1 : Key), V.int e.2)
def frD (fr : List (PT × Int)) : List (List Key × V) := fr.map fun e => (pK e.1, V.int e.2)
def frG (fr : List (PT × Int)) (p : PT) : Option Int := (fr.find? fun e => decide (e.1 = p)).map (·.2)
def frP (fr : List (PT × Int)) (p : PT) (v : Int) : List (PT × Int) := if p ∈ fr.map (·.1) then fr.map (fun e => if e.1 = p then (e.1, v) else e) else fr ++ [(p, v)]
def frX (fr : List (PT × Int)) (p : PT) : List (PT × Int) := fr.filter fun e => decide (e.1 ≠ p)
theorem frD_keys (fr : List (PT × Int)) : (frD fr).map (·.1) = (fr.map (·.1)).map pK := by
  unfold frD
  rw [List.map_map, List.map_map]
  rfl
theorem frD_val (p : PT) : ∀ fr : List (PT × Int), valV (frD fr) (pK p) = (frG fr p).map V.int
  | [] => rfl
  | e :: fr => by
    show valV ((pK e.1, V.int e.2) :: frD fr) (pK p) = _
    by_cases h : e.1 = p
    · rw [valV_pos (p := (pK e.1, V.int e.2)) (congrArg pK h)]
      unfold frG
      rw [List.find?_cons, decide_eq_true h]
      rfl
    · rw [valV_neg (p := (pK e.1, V.int e.2)) (fun z => h (pK_inj z)), frD_val p fr]
      unfold frG
      rw [List.find?_cons, decide_eq_false h]
theorem frD_any (p : PT) (fr : List (PT × Int)) : ((frD fr).any fun kv => decide (kv.1 = pK p)) = decide (p ∈ fr.map (·.1)) := by
  induction fr with
  | nil => rfl
  | cons e fr ih =>
    show (decide (pK e.1 = pK p) || ((frD fr).any fun kv => decide (kv.1 = pK p))) = _
    rw [ih]
    by_cases h : e.1 = p
    · rw [decide_eq_true (congrArg pK h), Bool.true_or, decide_eq_true (by rw [List.map_cons, h]; exact List.mem_cons_self)]
    · rw [decide_eq_false (fun z => h (pK_inj z)), Bool.false_or]
      have : p ∈ (e :: fr).map (·.1) ↔ p ∈ fr.map (·.1) := by
        rw [List.map_cons, List.mem_cons]
        exact ⟨fun z => z.resolve_left fun w => h w.symm, .inr⟩
      by_cases h2 : p ∈ fr.map (·.1)
      · rw [decide_eq_true h2, decide_eq_true (this.mpr h2)]
      · rw [decide_eq_false h2, decide_eq_false fun z => h2 (this.mp z)]
theorem frD_put (fr : List (PT × Int)) (p : PT) (v : Int) : putK (frD fr) (pK p) (.int v) = frD (frP fr p v) := by
  unfold putK frP
  rw [frD_any]
  by_cases h : p ∈ fr.map (·.1)
  · rw [decide_eq_true h, if_pos rfl, if_pos h]
    unfold frD
    rw [List.map_map, List.map_map]
    refine List.map_congr_left fun e _ => ?_
    show (if pK e.1 = pK p then (pK e.1, V.int v) else (pK e.1, V.int e.2)) = (fun e : PT × Int => (pK e.1, V.int e.2)) (if e.1 = p then (e.1, v) else e)
    by_cases q : e.1 = p
    · rw [if_pos q, if_pos (congrArg pK q)]
    · rw [if_neg q, if_neg fun z => q (pK_inj z)]
  · rw [decide_eq_false h, if_neg (by decide), if_neg h]
    unfold frD
    rw [List.map_append]
    rfl
theorem frD_drop (fr : List (PT × Int)) (p : PT) : dropK (frD fr) (pK p) = frD (frX fr p) := by
  unfold dropK frX frD
  rw [List.filter_map]
  congr 1
  refine List.filter_congr fun e _ => ?_
  show decide (pK e.1 ≠ pK p) = decide (e.1 ≠ p)
  by_cases h : e.1 = p
  · rw [decide_eq_false (p := e.1 ≠ p) fun z => z h, decide_eq_false (p := pK e.1 ≠ pK p) fun z => z (congrArg pK h)]
  · rw [decide_eq_true (p := e.1 ≠ p) h, decide_eq_true (p := pK e.1 ≠ pK p) fun z => h (pK_inj z)]
theorem frP_keys (fr : List (PT × Int)) (p : PT) (v : Int) : (frP fr p v).map (·.1) = if p ∈ fr.map (·.1) then fr.map (·.1) else fr.map (·.1) ++ [p] := by
  unfold frP
  split
  · rw [List.map_map]
    refine List.map_congr_left fun e _ => ?_
    show (if e.1 = p then (e.1, v) else e).1 = e.1
    split <;> rfl
  · rw [List.map_append]
    rfl
theorem frP_nd {fr : List (PT × Int)} {p : PT} {v : Int} (h : (fr.map (·.1)).Nodup) : ((frP fr p v).map (·.1)).Nodup := by
  rw [frP_keys]
  split
  · exact h
  · rename_i q
    rw [List.nodup_append]
    exact ⟨h, by simp, fun a ha b hb e => q (by rw [← List.mem_singleton.mp hb, ← e]; exact ha)⟩
theorem frX_nd {fr : List (PT × Int)} {p : PT} (h : (fr.map (·.1)).Nodup) : ((frX fr p).map (·.1)).Nodup := by
  unfold frX
  exact h.sublist (List.filter_sublist.map _)
theorem frP_len (fr : List (PT × Int)) (p : PT) (v : Int) : (frP fr p v).length ≤ fr.length + 1 := by
  unfold frP
  split
  · rw [List.length_map]; omega
  · rw [List.length_append]; exact Nat.le_refl _
theorem frX_len (fr : List (PT × Int)) (p : PT) : (frX fr p).length ≤ fr.length := List.length_filter_le _ _
theorem frX_none {fr : List (PT × Int)} {p : PT} (h : frG fr p = none) : frX fr p = fr := by
  unfold frG at h
  rw [Option.map_eq_none_iff, List.find?_eq_none] at h
  exact List.filter_eq_self.mpr fun e he => decide_eq_true fun z => h e he (decide_eq_true z)
theorem frG_mem {fr : List (PT × Int)} {p : PT} {v : Int} (nd : (fr.map (·.1)).Nodup) (h : (p, v) ∈ fr) : frG fr p = some v := by
  induction fr with
  | nil => exact absurd h (by simp)
  | cons e fr ih =>
    rw [List.map_cons, List.nodup_cons] at nd
    unfold frG
    rw [List.find?_cons]
    rcases List.mem_cons.mp h with rfl | h
    · rw [decide_eq_true rfl]
      rfl
    · have ne : e.1 ≠ p := fun z => nd.1 (by rw [z]; exact List.mem_map.mpr ⟨_, h, rfl⟩)
      rw [decide_eq_false ne]
      exact ih nd.2 h
/-- the house's object alone -/
structure HoAt (K : PySem.W.Frag) (H : Hp) (h : HsA) (B : Addr) (m : Int) : Prop where
  hc : HsC K
  ho : ∃ dx, H h.A = some (.ins (He.ga K "House") dx (hsF B h m))
abbrev Pns := List (PnA × List Int × Bool)
section
variable {K : PySem.W.Frag} {H H' : Hp} {h : HsA} {B : Addr} {ns : List Int} {m : Int} {Q : VK} {σ : L2.St} {i : Nat}
theorem HsAt.o (x : HsAt K H h B ns m) : HoAt K H h B m := ⟨x.hc, x.ho⟩
theorem HoAt.kf {F : List Addr} (x : HoAt K H h B m) (kf : Kf F H H') (n : h.A ∉ F) : HoAt K H' h B m := by
  obtain ⟨dx, e⟩ := x.ho
  exact ⟨x.hc, dx, kf _ _ e n⟩
theorem HoAt.fS (x : HoAt K H h B m) (e : σ[i]? = some (some (.ref h.A))) (q : Q (.ref h.S) H) : tFld K (tVar i) "standing" σ H Q := by
  obtain ⟨dx, hx⟩ := x.ho
  exact ⟨_, e, h.A, _, dx, _, _, rfl, hx, x.hc.cl, x.hc.n4, rfl, q⟩
theorem HoAt.fF (x : HoAt K H h B m) (e : σ[i]? = some (some (.ref h.A))) (q : Q (.ref h.F) H) : tFld K (tVar i) "far_standing" σ H Q := by
  obtain ⟨dx, hx⟩ := x.ho
  exact ⟨_, e, h.A, _, dx, _, _, rfl, hx, x.hc.cl, x.hc.n6, rfl, q⟩
theorem HoAt.fP (x : HoAt K H h B m) (e : σ[i]? = some (some (.ref h.A))) (q : Q (.ref h.P) H) : tFld K (tVar i) "pinned" σ H Q := by
  obtain ⟨dx, hx⟩ := x.ho
  exact ⟨_, e, h.A, _, dx, _, _, rfl, hx, x.hc.cl, x.hc.n7, rfl, q⟩
end
/-- triples of a far mark -/
structure FrsAt (H : Hp) (L : Addr) (qs : List Addr) (es : List (PT × Int)) : Prop where
  hL : H L = some (.lst (qs.map V.ref))
  len : qs.length = es.length
  row : ∀ (i : Nat) (a : Addr) (e : PT × Int), qs[i]? = some a → es[i]? = some e → H a = some (.tup [.str e.1.1, .str e.1.2, .int e.2])
section
variable [HasW]
def HsE2 (H : Hp) (h : HsA) : Prop := H h.S = some (.dK (mkD [])) ∧ H h.M = some (.lst []) ∧ H h.F = some (.dT (frD [])) ∧ H h.P = some (.lst [])
def sp_House_initF (K : PySem.W.Frag) : Sp := fun vs H Q _ => ∃ (x dx B : Addr), vs = [.ref x, .ref B] ∧ HsC K ∧ H x = some (.ins (He.ga K "House") dx []) ∧
  ∀ (h : HsA) (H' : Hp), h.A = x → (∀ a o, H a = some o → a ≠ x → H' a = some o) → (∀ y ∈ [h.I, h.S, h.M, h.F, h.P], H y = none) → [h.A, h.I, h.S, h.M, h.F, h.P].Nodup → HsAt K H' h B [] 0 → HsE2 H' h → Q .non H'
def sp_House_set_far (K : PySem.W.Frag) : Sp := fun vs H Q E => ∃ (h : HsA) (b : BkA) (cs : List Ct) (as : List Addr) (ns : List Int) (m : Int) (l k : Str) (v : V) (fr : List (PT × Int)), vs = [.ref h.A, .str l, .str k, v] ∧ ErN K ∧ HsAt K H h b.B ns m ∧ BkAt K H b cs as ∧ H h.F = some (.dT (frD fr)) ∧ fr.length ≤ 1000 ∧
  ((v = .non ∧ ∀ H', Kf [h.F] H H' → H' h.F = some (.dT (frD (frX fr (l, k)))) → Q .non H') ∨ (∃ n, v = .int n ∧ (verDue cs ns n = none → ∀ H', Kf [h.F] H H' → H' h.F = some (.dT (frD (frP fr (l, k) n))) → Q .non H') ∧ ∀ X x, verDue cs ns n = some (X, x) → HeldE K H E X x))
def sp_House_pin (K : PySem.W.Frag) : Sp := fun vs H Q E => ∃ (h : HsA) (b : BkA) (cs : List Ct) (as : List Addr) (ns xs : List Int) (m : Int) (N : Addr) (ps : Pns), vs = [.ref h.A, .ref N] ∧ PnC K ∧ ErN K ∧ HsAt K H h b.B ns m ∧ BkAt K H b cs as ∧ (H N = some (.lst (xs.map V.int)) ∨ H N = some (.tup (xs.map V.int))) ∧ xs.length ≤ 400 ∧
  H h.P = some (.lst (ps.map fun p => V.ref p.1.A)) ∧ (∀ p ∈ ps, PnAt K H p.1 h.A p.2.1 p.2.2) ∧ ps.length ≤ 1000 ∧
  (heldDue cs ns xs = none → ∀ (p : PnA) (P : Addr) (H' : Hp), Kf [h.A] H H' → H p.A = none → H p.I = none → H P = none → P ≠ p.A → P ≠ p.I → HsAt K H' { h with P := P } b.B ns m → H' P = some (.lst ((ps.filter fun p => !p.2.2).map (fun p => V.ref p.1.A) ++ [.ref p.A])) → PnAt K H' p h.A (once xs) false → Q (.ref p.A) H') ∧ ∀ X y, heldDue cs ns xs = some (X, y) → HeldE K H E X y
def sp_House_far (K : PySem.W.Frag) : Sp := fun vs H Q _ => ∃ (h : HsA) (B : Addr) (m : Int) (fr : List (PT × Int)), vs = [.ref h.A] ∧ HoAt K H h B m ∧ H h.F = some (.dT (frD fr)) ∧ (fr.map (·.1)).Nodup ∧ fr.length ≤ 1000 ∧
  ∀ (L : Addr) (qs : List Addr) (es : List (PT × Int)) (H' : Hp), Same H H' → H L = none → FrsAt H' L qs es → es.Perm fr → (es.Pairwise fun e f => ltPr e.1 f.1) → Q (.ref L) H'
def sp_House_marks (K : PySem.W.Frag) : Sp := fun vs H Q _ => ∃ (h : HsA) (B : Addr) (m : Int) (mk : List (Str × Int)), vs = [.ref h.A] ∧ HoAt K H h B m ∧ H h.S = some (.dK (mkD mk)) ∧ (mk.map (·.1)).Nodup ∧ mk.length < 64 ∧
  ∀ (L : Addr) (qs : List Addr) (es : List (Str × Int)) (H' : Hp), Same H H' → H L = none → H' L = some (.lst (qs.map V.ref)) → qs.length = es.length → (∀ (i : Nat) (a : Addr) (e : Str × Int), qs[i]? = some a → es[i]? = some e → H' a = some (.tup [.str e.1, .int e.2])) → es.Perm mk → PyProof.Rows.sortedS (es.map (·.1)) = true → Q (.ref L) H'
def sp_House_roots (K : PySem.W.Frag) : Sp := fun vs H Q _ => ∃ (h : HsA) (B : Addr) (m : Int) (mk : List (Str × Int)) (fr : List (PT × Int)) (ps : Pns), vs = [.ref h.A] ∧ HoAt K H h B m ∧ H h.S = some (.dK (mkD mk)) ∧ (mk.map (·.1)).Nodup ∧ H h.F = some (.dT (frD fr)) ∧ (fr.map (·.1)).Nodup ∧ h.S ≠ h.F ∧ H h.P = some (.lst (ps.map fun p => V.ref p.1.A)) ∧ (∀ p ∈ ps, PnAt K H p.1 h.A p.2.1 p.2.2) ∧ mk.length + fr.length + (ps.map fun p => p.2.1.length).sum ≤ 3000 ∧
  ∀ (L : Addr) (rs : List Int) (H' : Hp), Same H H' → H L = none → H' L = some (.lst (rs.map V.int)) → rs.Pairwise (· < ·) → rs.length ≤ mk.length + fr.length + (ps.map fun p => p.2.1.length).sum → (∀ x, x ∈ rs ↔ x ∈ mk.map (·.2) ∨ x ∈ fr.map (·.2) ∨ ∃ p ∈ ps, x ∈ p.2.1) → Q (.ref L) H'
theorem len_House_initF {K : PySem.W.Frag} {vs : List V} {H : Hp} {Q : VK} {E : XK} (h : sp_House_initF K vs H Q E) : vs.length = 2 := by obtain ⟨_, _, _, rfl, _⟩ := h; rfl
theorem len_House_set_far {K : PySem.W.Frag} {vs : List V} {H : Hp} {Q : VK} {E : XK} (h : sp_House_set_far K vs H Q E) : vs.length = 4 := by obtain ⟨_, _, _, _, _, _, _, _, _, _, rfl, _⟩ := h; rfl
theorem len_House_pin {K : PySem.W.Frag} {vs : List V} {H : Hp} {Q : VK} {E : XK} (h : sp_House_pin K vs H Q E) : vs.length = 2 := by obtain ⟨_, _, _, _, _, _, _, _, _, rfl, _⟩ := h; rfl
theorem len_House_far {K : PySem.W.Frag} {vs : List V} {H : Hp} {Q : VK} {E : XK} (h : sp_House_far K vs H Q E) : vs.length = 1 := by obtain ⟨_, _, _, _, rfl, _⟩ := h; rfl
theorem len_House_marks {K : PySem.W.Frag} {vs : List V} {H : Hp} {Q : VK} {E : XK} (h : sp_House_marks K vs H Q E) : vs.length = 1 := by obtain ⟨_, _, _, _, rfl, _⟩ := h; rfl
theorem len_House_roots {K : PySem.W.Frag} {vs : List V} {H : Hp} {Q : VK} {E : XK} (h : sp_House_roots K vs H Q E) : vs.length = 1 := by obtain ⟨_, _, _, _, _, _, rfl, _⟩ := h; rfl
abbrev N_House_initF : List Str := ["self", "book"]
def t_House_initF (K : PySem.W.Frag) : TS := (tSeq (tDrop (tCall (sp_Store_initH K) [] E0 (tCons (tVar 0) (tCons (tVar 1) tNil))))
    (tSeq (sFld K (tVar 0) tDNewK "standing")
    (tSeq (sFld K (tVar 0) (tLst tNil) "last_moves")
    (tSeq (sFld K (tVar 0) tDNewT "far_standing")
    (sFld K (tVar 0) (tLst tNil) "pinned")))))
abbrev N_House_set_far : List Str := ["self", "label", "mark", "version"]
def t_House_set_far (K : PySem.W.Frag) (E : XK) : TS := (tIfS (tTest (tOp fNotN (tVar 3) (tC .non))) (tSeq (tDrop (tCallS (sp_check_held_versionH K) (fun _ => E) (tCons (tVar 0) (tCons (tVar 3) tNil))))
    (sDPut (tFld K (tVar 0) "far_standing") (tTup (tCons (tVar 1) (tCons (tVar 2) tNil))) (tVar 3))) (tDrop (tBM K "dict" rPopTA (tFld K (tVar 0) "far_standing") (tCons (tTup (tCons (tVar 1) (tCons (tVar 2) tNil))) (tCons (tC .non) tNil)))))
abbrev N_House_pin : List Str := ["self", "names", "made", "pin"]
def t_House_pin (K : PySem.W.Frag) (E : XK) : TS := (tSeq (tAsg (tMake (He.ga K "Pin") (sp_Pin_init K) [] E (tCons (tVar 0) (tCons (tVar 1) tNil))) (gName 2))
    (tSeq (sFld K (tVar 0) (tOp rCat (tLc (iList K (tFld K (tVar 0) "pinned")) (gName 3) (tNot (tB (tFld K (tVar 3) "is_let_go"))) (tVar 3) [3]) (tLst (tCons (tVar 2) tNil))) "pinned")
    (tRet (tVar 2))))
abbrev N_House_far : List Str := ["self", "label", "mark"]
def t_House_far (K : PySem.W.Frag) : TS := (tRet (tLc (iList K (tCB rSortPP (tCons (tFld K (tVar 0) "far_standing") tNil))) (gTup K 2 (gCons (gName 1) (gCons (gName 2) gNil))) tYes (tTup (tCons (tVar 1) (tCons (tVar 2) (tCons (tDGet (tFld K (tVar 0) "far_standing") (tTup (tCons (tVar 1) (tCons (tVar 2) tNil)))) tNil)))) [1, 2]))
abbrev N_House_marks : List Str := ["self", "mark"]
def t_House_marks (K : PySem.W.Frag) : TS := (tRet (tLc (iList K (tCB rSortedDm (tCons (tFld K (tVar 0) "standing") tNil))) (gName 1) tYes (tTup (tCons (tVar 1) (tCons (tDGet (tFld K (tVar 0) "standing") (tVar 1)) tNil))) [1]))
abbrev N_House_roots : List Str := ["self", "names", "mark", "pair", "pin", "name"]
def t_House_roots (K : PySem.W.Frag) : TS := (tSeq (tLock (tAsg (tLc (iKeys (tFld K (tVar 0) "standing")) (gName 2) tYes (tDGet (tFld K (tVar 0) "standing") (tVar 2)) [2]) (gName 1)))
    (tSeq (tDrop (tBM K "list" (rExtendA K) (tVar 1) (tCons (tLockE (tLc (iKeys (tFld K (tVar 0) "far_standing")) (gName 3) tYes (tDGet (tFld K (tVar 0) "far_standing") (tVar 3)) [3])) tNil)))
    (tSeq (tDrop (tBM K "list" (rExtendA K) (tVar 1) (tCons (tLc2 (iList K (tFld K (tVar 0) "pinned")) (gName 4) tYes (iList K (tMeth (He.ga K "Pin") "names" (sp_Pin_names K) [] E0 (tVar 4) tNil)) (gName 5) tYes (tVar 5) [4, 5] [5]) tNil)))
    (tRet (tSortSetA K (tVar 1))))))
end
section
variable [HasW] {K : PySem.W.Frag} {vs : List V} {H H' : Hp} {Q : VK} {E : XK}
theorem pure_House_initF (h : sp_House_initF K vs H Q E) : t_House_initF K { nx := fun _ H' => Q .non H', rt := Q } (start N_House_initF vs) H := by
  obtain ⟨x, dx, B, rfl, sc, hx, k⟩ := h
  refine ⟨_, rfl, _, rfl, x, dx, B, rfl, sc, hx, fun I H1 kp1 nI nIx hx1 hI1 => ?_⟩
  have old : ∀ {y : Addr} {Hn : Hp}, (∀ a o, H a = some o → a ≠ x → Hn a = some o) → Hn y = none → y ≠ x → H y = none := fun kp e n => by
    cases q : H _ with
    | none => rfl
    | some o => rw [kp _ _ q n] at e; cases e
  refine fun S nS => ?_
  have xS : x ≠ S := ne_of_none hx1 nS
  have IS : I ≠ S := ne_of_none hI1 nS
  have nS0 := old kp1 nS xS.symm
  refine ⟨_, rfl, x, _, dx, _, rfl, updN xS hx1, sc.cl, sc.n4, by show (3 : Nat) < 1000; decide, ?_⟩
  refine ⟨by show (0 : Nat) ≤ sizeLine; decide, fun M nM => ?_⟩
  have xM : x ≠ M := ne_of_none updS nM
  rw [upd_ne xM.symm] at nM
  have SM : S ≠ M := ne_of_none updS nM
  rw [upd_ne SM.symm] at nM
  have IM : I ≠ M := ne_of_none hI1 nM
  have nM0 := old kp1 nM xM.symm
  refine ⟨_, rfl, x, _, dx, _, rfl, updN xM updS, sc.cl, sc.n5, by show (4 : Nat) < 1000; decide, ?_⟩
  refine fun F nF => ?_
  have xF : x ≠ F := ne_of_none updS nF
  rw [upd_ne xF.symm] at nF
  have MF : M ≠ F := ne_of_none updS nF
  rw [upd_ne MF.symm, upd_ne xF.symm] at nF
  have SF : S ≠ F := ne_of_none updS nF
  rw [upd_ne SF.symm] at nF
  have IF : I ≠ F := ne_of_none hI1 nF
  have nF0 := old kp1 nF xF.symm
  refine ⟨_, rfl, x, _, dx, _, rfl, updN xF updS, sc.cl, sc.n6, by show (5 : Nat) < 1000; decide, ?_⟩
  refine ⟨by show (0 : Nat) ≤ sizeLine; decide, fun P nP => ?_⟩
  have xP : x ≠ P := ne_of_none updS nP
  rw [upd_ne xP.symm] at nP
  have FP : F ≠ P := ne_of_none updS nP
  rw [upd_ne FP.symm, upd_ne xP.symm] at nP
  have MP : M ≠ P := ne_of_none updS nP
  rw [upd_ne MP.symm, upd_ne xP.symm] at nP
  have SP : S ≠ P := ne_of_none updS nP
  rw [upd_ne SP.symm] at nP
  have IP : I ≠ P := ne_of_none hI1 nP
  have nP0 := old kp1 nP xP.symm
  refine ⟨_, rfl, x, _, dx, _, rfl, updN xP updS, sc.cl, sc.n7, by show (6 : Nat) < 1000; decide, ?_⟩
  refine k ⟨x, I, S, M, F, P⟩ _ rfl (fun a o e n => updN n (updN (ne_of_none e nP0) (updN n (updN (ne_of_none e nF0) (updN n (updN (ne_of_none e nM0) (updN n (updN (ne_of_none e nS0) (kp1 a o e n))))))))) ?_ ?_ ⟨sc, ⟨dx, updS⟩, ?_, List.nodup_nil, Nat.zero_le _⟩ ⟨?_, ?_, ?_, ?_⟩
  · intro y hy
    simp only [List.mem_cons, List.not_mem_nil, or_false] at hy
    rcases hy with rfl | rfl | rfl | rfl | rfl
    · exact nI
    · exact nS0
    · exact nM0
    · exact nF0
    · exact nP0
  · simp [nIx.symm, xS, xM, xF, xP, IS, IM, IF, IP, SM, SF, SP, MF, MP, FP]
  · exact updN nIx (updN IP (updN nIx (updN IF (updN nIx (updN IM (updN nIx (updN IS hI1)))))))
  · exact updN xS.symm (updN SP (updN xS.symm (updN SF (updN xS.symm (updN SM (updN xS.symm updS))))))
  · exact updN xM.symm (updN MP (updN xM.symm (updN MF (updN xM.symm updS))))
  · exact updN xF.symm (updN FP (updN xF.symm updS))
  · exact updN xP.symm updS
theorem pure_House_set_far (h : sp_House_set_far K vs H Q E) : t_House_set_far K E { nx := fun _ H' => Q .non H', rt := Q } (start N_House_set_far vs) H := by
  obtain ⟨h, b, cs, as, ns, m, l, k, v, fr, rfl, er, st, bk, hF, few, hv⟩ := h
  have nAF : h.A ≠ h.F := by
    obtain ⟨dx, e⟩ := st.ho
    exact ne_of e hF fun z => by cases z
  rcases hv with ⟨rfl, k1⟩ | ⟨n, rfl, k1, k2⟩
  · refine ⟨_, rfl, rfl, _, rfl, iteF ?_⟩
    dsimp only [tDrop, tBM]
    refine st.o.fF rfl ⟨.inr (.inr (.inl ⟨rfl, .inr ⟨_, hF⟩⟩)), ?_⟩
    refine ⟨_, rfl, _, rfl, by show (2 : Nat) ≤ sizeLine; decide, fun T nT => ?_⟩
    have sT : Same H (upd H T (.tup [.str l, .str k])) := samN nT
    have hT : upd H T (.tup [.str l, .str k]) T = some (.tup ((pK (l, k)).map kV)) := updS
    have nTF : T ≠ h.F := fun z => by rw [z, hF] at nT; cases nT
    dsimp only [tNil] at nT ⊢
    generalize upd H T (.tup [.str l, .str k]) = H1 at sT hT ⊢
    refine .inl ⟨h.F, frD fr, pK (l, k), T, .non, rfl, rfl, sT _ _ hF, hT, fun v _ => ?_, fun e => ?_⟩
    · rw [frD_drop]
      exact k1 _ ((Kf.same sT).up (by simp)) updS
    · rw [frD_val, Option.map_eq_none_iff] at e
      exact k1 _ (Kf.same sT) (by rw [frX_none e]; exact sT _ _ hF)
  · refine ⟨_, rfl, rfl, _, rfl, iteT ?_⟩
    refine ⟨_, rfl, _, rfl, h, b, cs, as, ns, m, n, rfl, er, st, bk, fun ok H1 s1 => ?_, fun X x e => k2 X x e⟩
    dsimp only [sDPut]
    refine ⟨_, rfl, ?_⟩
    refine (st.same s1).o.fF rfl ⟨_, rfl, _, rfl, by show (2 : Nat) ≤ sizeLine; decide, fun T nT => ?_⟩
    have hF1 := s1 _ _ hF
    have sT : Same H1 (upd H1 T (.tup [.str l, .str k])) := samN nT
    have hT : upd H1 T (.tup [.str l, .str k]) T = some (.tup ((pK (l, k)).map kV)) := updS
    dsimp only [tNil] at nT ⊢
    generalize upd H1 T (.tup [.str l, .str k]) = H2 at sT hT ⊢
    refine ⟨h.F, _, rfl, DPut.t (sT _ _ hF1) hT (by unfold frD; rw [List.length_map]; exact Nat.lt_of_le_of_lt few (by decide)), ?_⟩
    rw [frD_put]
    exact k1 ok _ ((Kf.same (s1.trans sT)).up (by simp)) updS
theorem pins_filt {D P : Addr} {hA : Addr} {ps : Pns} {z0 z1 z2 z3 : Option V} {Qd : Hp → Prop} (hP : H P = some (.lst (ps.map fun p => V.ref p.1.A))) (pn : ∀ p ∈ ps, PnAt K H p.1 hA p.2.1 p.2.2) (few : ps.length ≤ 1000) (nD : H D = none)
    (fin : ∀ H', Same H H' → H' D = some (.lst ((ps.filter fun p => !p.2.2).map fun p => V.ref p.1.A)) → Qd H') :
    ∃ W : Nat → Nat → Hp → Prop, (∃ m, W 0 m (upd H D (.lst []))) ∧ ∀ i m H, W i m H →
      ((Itl K P).stop i H ∧ Qd H) ∨ ((Itl K P).go i H ∧ ∃ Nx : Hp → Prop, (∀ H', Nx H' → ∃ m', m' < m ∧ W (i + 1) m' H') ∧ ∀ x H', (Itl K P).yld i H x H' → gName 3 x (wipe [z0, z1, z2, z3] [3]) H' fun σ2 H2 => wipe σ2 [3] = wipe [z0, z1, z2, z3] [3] ∧ tNot (tB (tFld K (tVar 3) "is_let_go")) σ2 H2 fun b H3 =>
        if b = true then tVar 3 σ2 H3 fun y H4 => ∃ acc, H4 D = some (.lst acc) ∧ acc.length < sizeLine ∧ Nx (upd H4 D (.lst (acc ++ [y]))) else Nx H3) := by
  refine lc_it (walk_list (K := K) (a := P) (xs := ps.map fun p => V.ref p.1.A)) (fun i H' => Same H H' ∧ H' D = some (.lst (((ps.take i).filter fun p => !p.2.2).map fun p => V.ref p.1.A))) ⟨samN nD, updS⟩ (fun i H' _ p => sqL (p.1 _ _ hP)) ?_ ?_
  · rintro i x H2 H3 hi ⟨s2, hD2⟩ ⟨rfl, hx⟩
    rw [List.length_map] at hi
    have e1 : ps[i]? = some ps[i] := List.getElem?_eq_getElem hi
    rw [List.getElem?_map, e1] at hx
    cases Option.some.inj hx
    have eT : ps.take (i + 1) = ps.take i ++ [ps[i]] := by rw [List.take_succ, e1]; rfl
    have pa := (pn _ (List.getElem_mem hi)).same s2
    refine ⟨rfl, ?_⟩
    dsimp only [tNot, tB]
    refine pa.fG rfl ⟨_, rfl, ?_⟩
    cases ho : ps[i].2.2 with
    | true =>
      refine ⟨s2, ?_⟩
      rw [hD2, eT, List.filter_append]
      simp [ho]
    | false =>
      refine ⟨_, rfl, _, hD2, ?_, Same.updA s2 nD, ?_⟩
      · rw [List.length_map]
        have := List.length_filter_le (fun p : PnA × List Int × Bool => !p.2.2) (ps.take i)
        rw [List.length_take] at this
        exact Nat.lt_of_le_of_lt (show _ ≤ 1000 by omega) (by decide)
      · rw [updS, eT, List.filter_append, List.map_append]
        simp [ho]
  · rintro H2 ⟨s2, hD2⟩
    rw [List.length_map, List.take_length] at hD2
    exact fin H2 s2 hD2
theorem pure_House_pin (h : sp_House_pin K vs H Q E) : t_House_pin K E { nx := fun _ H' => Q .non H', rt := Q } (start N_House_pin vs) H := by
  obtain ⟨h, b, cs, as, ns, xs, m, N, ps, rfl, pc, er, st, bk, hN, few, hP, pn, fps, k1, k2⟩ := h
  refine ⟨_, rfl, _, rfl, fun x dx nx ndx ne => ?_⟩
  have s1 : Same H (upd (upd H dx (.own x)) x (.ins (He.ga K "Pin") dx [])) := fun b o e => updN (ne_of_none e nx) (updN (ne_of_none e ndx) e)
  have hx1 : upd (upd H dx (.own x)) x (.ins (He.ga K "Pin") dx []) x = some (.ins (He.ga K "Pin") dx []) := updS
  generalize upd (upd H dx (.own x)) x (.ins (He.ga K "Pin") dx []) = H1 at s1 hx1 ⊢
  refine ⟨x, dx, h, b, cs, as, ns, xs, m, N, rfl, pc, er, hx1, st.same s1, bk.same s1, hN.imp (s1 _ _) (s1 _ _), few, fun ok p H2 ex kp nI pa => ⟨rfl, ?_⟩, fun X y e => (k2 X y e).back s1⟩
  subst ex
  have s2 : Same H H2 := fun a o e => kp a o (s1 _ _ e) (ne_of_none e nx)
  have nI0 : H p.I = none := by
    cases z : H p.I with
    | none => rfl
    | some o => rw [s1 _ _ z] at nI; cases nI
  have st2 := st.same s2
  dsimp only [gName]
  show (tSeq (sFld K (tVar 0) (tOp rCat (tLc (iList K (tFld K (tVar 0) "pinned")) (gName 3) (tNot (tB (tFld K (tVar 3) "is_let_go"))) (tVar 3) [3]) (tLst (tCons (tVar 2) tNil))) "pinned") (tRet (tVar 2))) _ [some (.ref h.A), some (.ref N), some (.ref p.A), none] H2
  dsimp only [tSeq, sFld, tOp, tLc, iList]
  refine st2.o.fP rfl ⟨_, rfl, ⟨_, sqL (s2 _ _ hP)⟩, fun D nD => ?_⟩
  refine pins_filt (s2 _ _ hP) (fun q hq => (pn q hq).same s2) fps nD fun H3 s3 hD => ?_
  have ps3 := pa.same s3
  have pA3 := ps3.ho
  obtain ⟨dxp, pA3⟩ := pA3
  refine ⟨_, rfl, by show (1 : Nat) ≤ sizeLine; decide, fun O nO => ?_⟩
  have sO : Same H3 (upd H3 O (.lst [.ref p.A])) := samN nO
  have hO : upd H3 O (.lst [.ref p.A]) O = some (.lst [.ref p.A]) := updS
  dsimp only [tNil] at nO ⊢
  generalize upd H3 O (.lst [.ref p.A]) = H4 at sO hO ⊢
  refine ⟨D, O, _, _, rfl, rfl, sO _ _ hD, hO, ?_, fun P nP => ?_⟩
  · rw [List.length_map, List.length_singleton]
    have := List.length_filter_le (fun p : PnA × List Int × Bool => !p.2.2) ps
    exact Nat.le_trans (show _ ≤ 2000 by omega) (by decide)
  have s24 := s3.trans sO
  have st4 := (st2.same s24)
  obtain ⟨dx4, hA4⟩ := st4.ho
  have nPA : h.A ≠ P := ne_of_none hA4 nP
  have s04 := s2.trans s24
  have nP0 : H P = none := by
    cases z : H P with
    | none => rfl
    | some o => rw [s04 _ _ z] at nP; cases nP
  have pa4 := pa.same s24
  have pA4 := pa4.ho
  obtain ⟨dx5, pA4⟩ := pA4
  refine ⟨_, rfl, h.A, _, dx4, _, rfl, updN nPA hA4, st.hc.cl, st.hc.n7, by show (7 : Nat) < 1000; decide, ?_⟩
  refine ⟨_, rfl, ?_⟩
  have npA : p.A ≠ h.A := fun z => by
    obtain ⟨dx0, e0⟩ := st.ho
    rw [z, e0] at nx
    cases nx
  have nIA : p.I ≠ h.A := fun z => by
    obtain ⟨dx0, e0⟩ := st.ho
    rw [z, e0] at nI0
    cases nI0
  have nhI : h.I ≠ h.A := st.ne.symm
  have nhIP : h.I ≠ P := ne_of_none st4.hI nP
  refine k1 ok p P _ (fun a o e n => updN (fun z => n (by rw [z]; simp)) (updN (ne_of_none e nP0) (s04 _ _ e))) nx nI0 nP0 (ne_of_none pA4 nP).symm (ne_of_none pa4.hI nP).symm ?_ ?_ ?_
  · exact ⟨st.hc, ⟨dx4, updS⟩, updN nhI (updN nhIP st4.hI), st.nd, st.few⟩
  · exact updN nPA.symm updS
  · exact ⟨pc, ⟨dx5, updN npA (updN (ne_of_none pA4 nP) pA4)⟩, updN nIA (updN (ne_of_none pa4.hI nP) pa4.hI), pa.nd, pa.few⟩
theorem mkD_val {l : Str} {v : Int} : ∀ {mk : List (Str × Int)}, (mk.map (·.1)).Nodup → (l, v) ∈ mk → valV (mkD mk) (Sum.inr l : Key) = some (V.int v)
  | [], _, h => absurd h (by simp)
  | e :: mk, nd, h => by
    rw [List.map_cons, List.nodup_cons] at nd
    show valV (((Sum.inr e.1 : Key), V.int e.2) :: mkD mk) (Sum.inr l) = _
    rcases List.mem_cons.mp h with rfl | h
    · exact valV_pos (p := ((Sum.inr l : Key), V.int v)) rfl
    · have ne : e.1 ≠ l := fun z => nd.1 (by rw [z]; exact List.mem_map.mpr ⟨_, h, rfl⟩)
      rw [valV_neg (p := ((Sum.inr e.1 : Key), V.int e.2)) fun z => ne (Sum.inr.inj z)]
      exact mkD_val nd.2 h
/-- the far marks in the order of their keys -/
theorem frs_perm {fr : List (PT × Int)} {ks : List PT} (nd : (fr.map (·.1)).Nodup) (pm : ks.Perm (fr.map (·.1))) : (ks.map fun p => (p, (frG fr p).getD 0)).Perm fr := by
  refine (pm.map fun p => (p, (frG fr p).getD 0)).trans ?_
  rw [List.map_map]
  refine List.Perm.of_eq ?_
  conv => rhs; rw [← List.map_id fr]
  refine List.map_congr_left fun e he => ?_
  show (e.1, (frG fr e.1).getD 0) = e
  rw [frG_mem (v := e.2) nd he]
  rfl
theorem pure_House_far (h : sp_House_far K vs H Q E) : t_House_far K { nx := fun _ H' => Q .non H', rt := Q } (start N_House_far vs) H := by
  obtain ⟨h, B, m, fr, rfl, st, hF, nd, few, k⟩ := h
  dsimp only [t_House_far, tRet, tLc, iList, tCB, tCons]
  refine st.fF rfl ⟨h.F, frD fr, fr.map (·.1), rfl, hF, frD_keys fr, nd, by rw [List.length_map]; exact few, fun l zs nl pm srt rows => ?_⟩
  have sl : Same H (upd H l (.lst (zs.map fun z => V.ref z.1))) := samN nl
  have hl : upd H l (.lst (zs.map fun z => V.ref z.1)) l = some (.lst (zs.map fun z => V.ref z.1)) := updS
  generalize upd H l (.lst (zs.map fun z => V.ref z.1)) = H1 at sl hl ⊢
  refine ⟨l, rfl, ⟨_, sqL hl⟩, fun D nD => ?_⟩
  have nD0 : H D = none := by
    cases z : H D with
    | none => rfl
    | some o => rw [sl _ _ z] at nD; cases nD
  have lz : zs.length ≤ 1000 := by
    have := pm.length_eq
    rw [List.length_map, List.length_map] at this
    omega
  have fp := frs_perm nd pm
  rw [List.map_map] at fp
  refine lc_it (walk_list (K := K) (a := l) (xs := zs.map fun z => V.ref z.1)) (fun i H' => Same H1 H' ∧ ∃ qs : List Addr, H' D = some (.lst (qs.map V.ref)) ∧ qs.length = i ∧ ∀ (j : Nat) (a : Addr) (z : PrE), qs[j]? = some a → zs[j]? = some z → H' a = some (.tup [.str z.2.1, .str z.2.2, .int ((frG fr z.2).getD 0)])) ⟨samN nD, [], updS, rfl, fun j a z h => by simp at h⟩ (fun i H' _ p => sqL (p.1 _ _ hl)) ?_ ?_
  · rintro i x H2 H3 hi ⟨s2, qs, hD2, lq, row⟩ ⟨rfl, hx⟩
    rw [List.length_map] at hi
    have e1 : zs[i]? = some zs[i] := List.getElem?_eq_getElem hi
    rw [List.getElem?_map, e1] at hx
    cases Option.some.inj hx
    have s02 := sl.trans s2
    have hz := s02 _ _ (rows _ (List.getElem_mem hi))
    refine ⟨_, _, rfl, sqT hz, rfl, _, _, rfl, _, _, rfl, rfl, rfl, ?_⟩
    dsimp only [tYes]
    rw [if_pos rfl]
    refine ⟨_, rfl, _, rfl, ?_⟩
    dsimp only [tCons, tDGet]
    have st2 := st.kf (F := []) (Kf.same s02) (by simp)
    refine st2.fF rfl ⟨_, rfl, _, rfl, by show (2 : Nat) ≤ sizeLine; decide, fun T nT => ?_⟩
    have sT : Same H3 (upd H3 T (.tup [.str zs[i].2.1, .str zs[i].2.2])) := samN nT
    have hT : upd H3 T (.tup [.str zs[i].2.1, .str zs[i].2.2]) T = some (.tup ((pK zs[i].2).map kV)) := updS
    dsimp only [tNil] at nT ⊢
    generalize upd H3 T (.tup [.str zs[i].2.1, .str zs[i].2.2]) = H4 at sT hT ⊢
    have hm : zs[i].2 ∈ fr.map (·.1) := pm.mem_iff.mp (List.mem_map.mpr ⟨_, List.getElem_mem hi, rfl⟩)
    obtain ⟨e, he, ee⟩ := List.mem_map.mp hm
    have gv : frG fr zs[i].2 = some e.2 := by rw [← ee]; exact frG_mem nd he
    refine ⟨h.F, .int e.2, rfl, ?_, by show (3 : Nat) ≤ sizeLine; decide, fun R nR => ?_⟩
    · have := DGet.t (k := pK zs[i].2) (sT _ _ (s02 _ _ hF)) hT
      rw [frD_val, gv] at this
      exact this
    · have sR : Same H4 (upd H4 R (.tup [.str zs[i].2.1, .str zs[i].2.2, .int e.2])) := samN nR
      have hR : upd H4 R (.tup [.str zs[i].2.1, .str zs[i].2.2, .int e.2]) R = some (.tup [.str zs[i].2.1, .str zs[i].2.2, .int e.2]) := updS
      generalize upd H4 R (.tup [.str zs[i].2.1, .str zs[i].2.2, .int e.2]) = H5 at sR hR ⊢
      have s25 := sT.trans sR
      refine ⟨_, s25 _ _ hD2, ?_, Same.updA (s2.trans s25) nD, qs ++ [R], by rw [updS, List.map_append]; rfl, by rw [List.length_append, lq]; rfl, fun j a z hj hz2 => ?_⟩
      · rw [List.length_map, lq]
        exact Nat.lt_of_le_of_lt (show i ≤ 1000 by omega) (by decide)
      · have nDt : ∀ {a : Addr} {ws : List V}, H5 a = some (.tup ws) → upd H5 D (.lst (qs.map V.ref ++ [.ref R])) a = some (.tup ws) := fun {a ws} e => updN (fun z => by rw [z, s25 _ _ hD2] at e; cases e) e
        rcases Nat.lt_or_ge j qs.length with hl2 | hl2
        · rw [List.getElem?_append_left hl2] at hj
          exact nDt (s25 _ _ (row j a z hj hz2))
        · rw [List.getElem?_append_right hl2] at hj
          have hj0 : j - qs.length = 0 := by have := (List.getElem?_eq_some_iff.mp hj).1; simpa using this
          have : j = i := by omega
          subst this
          rw [hj0] at hj
          cases Option.some.inj hj
          rw [e1] at hz2
          cases Option.some.inj hz2
          rw [gv]
          exact nDt hR
  · rintro H2 ⟨s2, qs, hD2, lq, row⟩
    rw [List.length_map] at lq
    refine k D qs (zs.map fun z => (z.2, (frG fr z.2).getD 0)) H2 (sl.trans s2) nD0 ⟨hD2, by rw [List.length_map]; exact lq, fun i a e h1 h2 => ?_⟩ fp ?_
    · rw [List.getElem?_map] at h2
      cases hz : zs[i]? with
      | none => rw [hz] at h2; cases h2
      | some z =>
        rw [hz] at h2
        cases Option.some.inj h2
        exact row i a z h1 hz
    · exact List.pairwise_map.mpr (srt.imp fun h => h)
theorem pure_House_marks (h : sp_House_marks K vs H Q E) : t_House_marks K { nx := fun _ H' => Q .non H', rt := Q } (start N_House_marks vs) H := by
  obtain ⟨h, B, m, mk, rfl, st, hS, nd, few, k⟩ := h
  dsimp only [t_House_marks, tRet, tLc, iList, tCB, tCons]
  refine st.fS rfl ⟨h.S, mkD mk, mk.map (·.1), rfl, .inl hS, by unfold mkD; rw [List.map_map, List.map_map]; rfl, by rw [List.length_map]; exact few, fun ys l pm srt nl => ?_⟩
  have sl : Same H (upd H l (.lst (ys.map V.str))) := samN nl
  have hl : upd H l (.lst (ys.map V.str)) l = some (.lst (ys.map V.str)) := updS
  generalize upd H l (.lst (ys.map V.str)) = H1 at sl hl ⊢
  refine ⟨l, rfl, ⟨_, sqL hl⟩, fun D nD => ?_⟩
  have nD0 : H D = none := by
    cases z : H D with
    | none => rfl
    | some o => rw [sl _ _ z] at nD; cases nD
  have mkm : ∀ y ∈ ys, ∃ v, (y, v) ∈ mk := fun y hy => by
    obtain ⟨e, he, ee⟩ := List.mem_map.mp (pm.mem_iff.mp hy)
    exact ⟨e.2, by rw [← ee]; exact he⟩
  have ly : ys.length = mk.length := by have := pm.length_eq; rwa [List.length_map] at this
  refine lc_it (walk_list (K := K) (a := l) (xs := ys.map V.str)) (fun i H' => Same H1 H' ∧ ∃ (qs : List Addr) (es : List (Str × Int)), H' D = some (.lst (qs.map V.ref)) ∧ qs.length = i ∧ es.map (·.1) = ys.take i ∧ (∀ e ∈ es, e ∈ mk) ∧ ∀ (j : Nat) (a : Addr) (e : Str × Int), qs[j]? = some a → es[j]? = some e → H' a = some (.tup [.str e.1, .int e.2])) ⟨samN nD, [], [], updS, rfl, by rw [List.take_zero]; rfl, fun e h => absurd h (by simp), fun j a z h => by simp at h⟩ (fun i H' _ p => sqL (p.1 _ _ hl)) ?_ ?_
  · rintro i x H2 H3 hi ⟨s2, qs, es, hD2, lq, ee, em, row⟩ ⟨rfl, hx⟩
    rw [List.length_map] at hi
    have e1 : ys[i]? = some ys[i] := List.getElem?_eq_getElem hi
    rw [List.getElem?_map, e1] at hx
    cases Option.some.inj hx
    have eT : ys.take (i + 1) = ys.take i ++ [ys[i]] := by rw [List.take_succ, e1]; rfl
    have le : es.length = i := by
      have := congrArg List.length ee
      rw [List.length_map, List.length_take] at this
      omega
    have s02 := sl.trans s2
    refine ⟨rfl, ?_⟩
    dsimp only [tYes]
    rw [if_pos rfl]
    refine ⟨_, rfl, ?_⟩
    dsimp only [tCons, tDGet]
    have st2 := st.kf (F := []) (Kf.same s02) (by simp)
    obtain ⟨v, hv⟩ := mkm _ (List.getElem_mem hi)
    refine st2.fS rfl ⟨_, rfl, h.S, .int v, rfl, ?_, by show (2 : Nat) ≤ sizeLine; decide, fun R nR => ?_⟩
    · have := DGet.k (k := (Sum.inr ys[i] : Key)) (s02 _ _ hS)
      rw [mkD_val nd hv] at this
      exact this
    · have sR : Same H3 (upd H3 R (.tup [.str ys[i], .int v])) := samN nR
      have hR : upd H3 R (.tup [.str ys[i], .int v]) R = some (.tup [.str ys[i], .int v]) := updS
      generalize upd H3 R (.tup [.str ys[i], .int v]) = H5 at sR hR ⊢
      refine ⟨_, sR _ _ hD2, ?_, Same.updA (s2.trans sR) nD, qs ++ [R], es ++ [(ys[i], v)], by rw [updS, List.map_append]; rfl, by rw [List.length_append, lq]; rfl, by rw [List.map_append, ee, eT]; rfl, fun e he => ?_, fun j a e hj he => ?_⟩
      · rw [List.length_map, lq]
        exact Nat.lt_of_le_of_lt (show i ≤ 1000 by omega) (by decide)
      · rcases List.mem_append.mp he with he | he
        · exact em e he
        · rw [List.mem_singleton.mp he]; exact hv
      · have nDt : ∀ {a : Addr} {ws : List V}, H5 a = some (.tup ws) → upd H5 D (.lst (qs.map V.ref ++ [.ref R])) a = some (.tup ws) := fun {a ws} e => updN (fun z => by rw [z, sR _ _ hD2] at e; cases e) e
        rcases Nat.lt_or_ge j qs.length with hl2 | hl2
        · rw [List.getElem?_append_left hl2] at hj
          rw [List.getElem?_append_left (by omega)] at he
          exact nDt (sR _ _ (row j a e hj he))
        · have hjl := (List.getElem?_eq_some_iff.mp hj).1
          rw [List.length_append, List.length_singleton] at hjl
          have : j = i := by omega
          subst this
          rw [List.getElem?_append_right hl2, show j - qs.length = 0 by omega] at hj
          rw [List.getElem?_append_right (by omega), show j - es.length = 0 by omega] at he
          cases Option.some.inj hj
          cases Option.some.inj he
          exact nDt hR
  · rintro H2 ⟨s2, qs, es, hD2, lq, ee, em, row⟩
    rw [List.length_map] at lq ee
    rw [List.take_length] at ee
    have le : es.length = ys.length := by have := congrArg List.length ee; rwa [List.length_map] at this
    have ndy : ys.Nodup := pm.nodup_iff.mpr nd
    have nde : es.Nodup := by
      have : (es.map (·.1)).Nodup := by rw [ee]; exact ndy
      exact List.Pairwise.of_map _ (fun a b h e => h (by rw [e])) this
    refine k D qs es H2 (sl.trans s2) nD0 hD2 (by omega) row ?_ (by rw [ee]; exact srt)
    refine (List.perm_ext_iff_of_nodup nde (List.Pairwise.of_map _ (fun a b h e => h (by rw [e])) nd)).mpr fun e => ⟨em e, fun he => ?_⟩
    have : e.1 ∈ ys := pm.mem_iff.mpr (List.mem_map.mpr ⟨e, he, rfl⟩)
    rw [← ee] at this
    obtain ⟨e2, he2, ee2⟩ := List.mem_map.mp this
    have h1 := mkD_val nd he
    have h2 := mkD_val nd (em e2 he2)
    rw [ee2, h1] at h2
    have : e = e2 := Prod.ext ee2.symm (V.int.inj (Option.some.inj h2))
    rw [this]
    exact he2
theorem unlockF {H H' : Hp} {d : Addr} {u : HO} {od : Obj} (hd : H d = some u) (s : Same (upd H d (.frz od u)) H') : Same H (upd H' d u) := fun b o e => by
  by_cases z : b = d
  · subst z
    rw [hd] at e
    cases e
    exact updS
  · rw [upd_ne z]
    exact s _ _ (by rw [upd_ne z]; exact e)
theorem roots_marks {od : Obj} {h : HsA} {B D : Addr} {m : Int} {mk : List (Str × Int)} {z1 z2 z3 z4 z5 : Option V} {Qd : Hp → Prop} (st : HoAt K H h B m) (hS : H h.S = some (.frz od (.dK (mkD mk)))) (nd : (mk.map (·.1)).Nodup) (few : mk.length ≤ 3000) (nD : H D = none)
    (fin : ∀ H', Same H H' → H' D = some (.lst ((mk.map (·.2)).map V.int)) → Qd H') :
    ∃ W : Nat → Nat → Hp → Prop, (∃ m, W 0 m (upd H D (.lst []))) ∧ ∀ i m H, W i m H →
      ((Itk h.S od (mkD mk)).stop i H ∧ Qd H) ∨ ((Itk h.S od (mkD mk)).go i H ∧ ∃ Nx : Hp → Prop, (∀ H', Nx H' → ∃ m', m' < m ∧ W (i + 1) m' H') ∧ ∀ x H', (Itk h.S od (mkD mk)).yld i H x H' → gName 2 x (wipe [some (.ref h.A), z1, z2, z3, z4, z5] [2]) H' fun σ2 H2 => wipe σ2 [2] = wipe [some (.ref h.A), z1, z2, z3, z4, z5] [2] ∧ tYes σ2 H2 fun b H3 =>
        if b = true then tDGet (tFld K (tVar 0) "standing") (tVar 2) σ2 H3 fun y H4 => ∃ acc, H4 D = some (.lst acc) ∧ acc.length < sizeLine ∧ Nx (upd H4 D (.lst (acc ++ [y]))) else Nx H3) := by
  refine walk_W walk_keys (fun i H' => Same H H' ∧ H' D = some (.lst (((mk.take i).map (·.2)).map V.int))) ⟨samN nD, by rw [List.take_zero]; exact updS⟩ (fun i H' _ p => p.1 _ _ hS) ?_ ?_
  · rintro i x H2 H3 hi ⟨s2, hD2⟩ ⟨rfl, key, val, hx, rfl⟩
    unfold mkD at hi hx
    rw [List.length_map] at hi
    have e1 : mk[i]? = some mk[i] := List.getElem?_eq_getElem hi
    rw [List.getElem?_map, e1] at hx
    cases Option.some.inj hx
    have eT : mk.take (i + 1) = mk.take i ++ [mk[i]] := by rw [List.take_succ, e1]; rfl
    refine ⟨rfl, ?_⟩
    dsimp only [tYes]
    rw [if_pos rfl]
    dsimp only [tDGet]
    have st2 := st.kf (F := []) (Kf.same s2) (by simp)
    refine st2.fS rfl ⟨_, rfl, h.S, .int mk[i].2, rfl, ?_, _, hD2, ?_, Same.updA s2 nD, ?_⟩
    · have : DGet H3 h.S (kV (Sum.inr mk[i].1)) (valV (mkD mk) (Sum.inr mk[i].1)) := .inl ⟨_, _, .inr ⟨od, s2 _ _ hS⟩, rfl, rfl⟩
      rw [mkD_val (l := mk[i].1) (v := mk[i].2) nd (List.getElem_mem hi)] at this
      exact this
    · rw [List.length_map, List.length_map, List.length_take]
      exact Nat.lt_of_le_of_lt (show _ ≤ 3000 by omega) (by decide)
    · rw [updS, eT, List.map_append, List.map_append]
      rfl
  · rintro H2 ⟨s2, hD2⟩
    unfold mkD at hD2
    rw [List.length_map, List.take_length] at hD2
    exact fin H2 s2 hD2
theorem roots_far {od : Obj} {h : HsA} {B D : Addr} {m : Int} {fr : List (PT × Int)} {z1 z2 z3 z4 z5 : Option V} {Qd : Hp → Prop} (st : HoAt K H h B m) (hF : H h.F = some (.frz od (.dT (frD fr)))) (nd : (fr.map (·.1)).Nodup) (few : fr.length ≤ 3000) (nD : H D = none)
    (fin : ∀ H', Same H H' → H' D = some (.lst ((fr.map (·.2)).map V.int)) → Qd H') :
    ∃ W : Nat → Nat → Hp → Prop, (∃ m, W 0 m (upd H D (.lst []))) ∧ ∀ i m H, W i m H →
      ((Itkt h.F od (frD fr)).stop i H ∧ Qd H) ∨ ((Itkt h.F od (frD fr)).go i H ∧ ∃ Nx : Hp → Prop, (∀ H', Nx H' → ∃ m', m' < m ∧ W (i + 1) m' H') ∧ ∀ x H', (Itkt h.F od (frD fr)).yld i H x H' → gName 3 x (wipe [some (.ref h.A), z1, z2, z3, z4, z5] [3]) H' fun σ2 H2 => wipe σ2 [3] = wipe [some (.ref h.A), z1, z2, z3, z4, z5] [3] ∧ tYes σ2 H2 fun b H3 =>
        if b = true then tDGet (tFld K (tVar 0) "far_standing") (tVar 3) σ2 H3 fun y H4 => ∃ acc, H4 D = some (.lst acc) ∧ acc.length < sizeLine ∧ Nx (upd H4 D (.lst (acc ++ [y]))) else Nx H3) := by
  refine walk_W walk_keysT (fun i H' => Same H H' ∧ H' D = some (.lst (((fr.take i).map (·.2)).map V.int))) ⟨samN nD, by rw [List.take_zero]; exact updS⟩ (fun i H' _ p => p.1 _ _ hF) ?_ ?_
  · rintro i x H2 H3 hi ⟨s2, hD2⟩ ⟨rfl, key, val, q, hx, rfl, hq⟩
    unfold frD at hi hx
    rw [List.length_map] at hi
    have e1 : fr[i]? = some fr[i] := List.getElem?_eq_getElem hi
    rw [List.getElem?_map, e1] at hx
    cases Option.some.inj hx
    have eT : fr.take (i + 1) = fr.take i ++ [fr[i]] := by rw [List.take_succ, e1]; rfl
    refine ⟨rfl, ?_⟩
    dsimp only [tYes]
    rw [if_pos rfl]
    dsimp only [tDGet]
    have st2 := st.kf (F := []) (Kf.same s2) (by simp)
    refine st2.fF rfl ⟨_, rfl, h.F, .int fr[i].2, rfl, ?_, _, hD2, ?_, Same.updA s2 nD, ?_⟩
    · have : DGet H3 h.F (.ref q) (valV (frD fr) (pK fr[i].1)) := .inr ⟨_, _, q, .inr ⟨od, s2 _ _ hF⟩, rfl, hq, rfl⟩
      rw [frD_val, frG_mem (p := fr[i].1) (v := fr[i].2) nd (List.getElem_mem hi)] at this
      exact this
    · rw [List.length_map, List.length_map, List.length_take]
      exact Nat.lt_of_le_of_lt (show _ ≤ 3000 by omega) (by decide)
    · rw [updS, eT, List.map_append, List.map_append]
      rfl
  · rintro H2 ⟨s2, hD2⟩
    unfold frD at hD2
    rw [List.length_map, List.take_length] at hD2
    exact fin H2 s2 hD2
def sumP (ps : Pns) : Nat := (ps.map fun p => p.2.1.length).sum
theorem sumP_snoc (ps : Pns) (p : PnA × List Int × Bool) : sumP (ps ++ [p]) = sumP ps + p.2.1.length := by
  unfold sumP
  rw [List.map_append, List.sum_append]
  simp
theorem sumP_take (ps : Pns) (i : Nat) : sumP (ps.take i) ≤ sumP ps := by
  have h : sumP ps = sumP (ps.take i) + sumP (ps.drop i) := by
    unfold sumP
    rw [← List.sum_append, ← List.map_append, List.take_append_drop]
  omega
theorem roots_pins {P D hA : Addr} {ps : Pns} {z0 z1 z2 z3 z4 z5 : Option V} {Qd : Hp → Prop} (hP : H P = some (.lst (ps.map fun p => V.ref p.1.A))) (pn : ∀ p ∈ ps, PnAt K H p.1 hA p.2.1 p.2.2) (few : sumP ps ≤ 3000) (nD : H D = none)
    (fin : ∀ (ys : List Int) (H' : Hp), Same H H' → H' D = some (.lst (ys.map V.int)) → ys.length = sumP ps → (∀ x, x ∈ ys ↔ ∃ p ∈ ps, x ∈ p.2.1) → Qd H') :
    ∃ W : Nat → Nat → Hp → Prop, (∃ m, W 0 m (upd H D (.lst []))) ∧ ∀ i m H, W i m H →
      ((Itl K P).stop i H ∧ Qd H) ∨ ((Itl K P).go i H ∧ ∃ Nx : Hp → Prop, (∀ H', Nx H' → ∃ m', m' < m ∧ W (i + 1) m' H') ∧ ∀ x H', (Itl K P).yld i H x H' → gName 4 x (wipe [z0, z1, z2, z3, z4, z5] [4, 5]) H' fun σ2 H2 => wipe σ2 [4, 5] = wipe [z0, z1, z2, z3, z4, z5] [4, 5] ∧ tYes σ2 H2 fun b H3 =>
        if b = true then iList K (tMeth (He.ga K "Pin") "names" (sp_Pin_names K) [] E0 (tVar 4) tNil) σ2 H3 fun J1 H4 => ∃ W1 : Nat → Nat → Hp → Prop, (∃ m, W1 0 m H4) ∧ ∀ j k H, W1 j k H →
          (J1.stop j H ∧ Nx H) ∨ (J1.go j H ∧ ∃ Nx1 : Hp → Prop, (∀ H', Nx1 H' → ∃ k', k' < k ∧ W1 (j + 1) k' H') ∧ ∀ x H', J1.yld j H x H' → gName 5 x (wipe σ2 [5]) H' fun σ3 H5 => wipe σ3 [5] = wipe σ2 [5] ∧ tYes σ3 H5 fun b H6 =>
            if b = true then tVar 5 σ3 H6 fun y H7 => ∃ acc, H7 D = some (.lst acc) ∧ acc.length < sizeLine ∧ Nx1 (upd H7 D (.lst (acc ++ [y]))) else Nx1 H6)
        else Nx H3) := by
  refine walk_W (walk_list (K := K) (a := P) (xs := ps.map fun p => V.ref p.1.A)) (fun i H' => Same H H' ∧ ∃ ys : List Int, H' D = some (.lst (ys.map V.int)) ∧ ys.length = sumP (ps.take i) ∧ ∀ x, x ∈ ys ↔ ∃ p ∈ ps.take i, x ∈ p.2.1) ⟨samN nD, [], updS, by rw [List.take_zero]; rfl, fun x => by rw [List.take_zero]; simp⟩ (fun i H' _ p => sqL (p.1 _ _ hP)) ?_ ?_
  · rintro i x H2 H3 hi ⟨s2, ys, hD2, ly, my⟩ ⟨rfl, hx⟩
    rw [List.length_map] at hi
    have e1 : ps[i]? = some ps[i] := List.getElem?_eq_getElem hi
    rw [List.getElem?_map, e1] at hx
    cases Option.some.inj hx
    have eT : ps.take (i + 1) = ps.take i ++ [ps[i]] := by rw [List.take_succ, e1]; rfl
    have pa := (pn _ (List.getElem_mem hi)).same s2
    have st := sumP_take ps (i + 1)
    rw [eT, sumP_snoc] at st
    refine ⟨rfl, ?_⟩
    dsimp only [tYes]
    rw [if_pos rfl]
    refine pa.me (by rfl) rfl ?_
    refine ⟨ps[i].1, hA, ps[i].2.1, ps[i].2.2, rfl, pa, fun L ks' nL pm inc => ?_⟩
    have sL : Same H3 (upd H3 L (.lst (ks'.map V.int))) := samN nL
    have hL : upd H3 L (.lst (ks'.map V.int)) L = some (.lst (ks'.map V.int)) := updS
    have nLD : L ≠ D := fun z => by rw [z, hD2] at nL; cases nL
    generalize upd H3 L (.lst (ks'.map V.int)) = H4 at sL hL ⊢
    have lk := pm.length_eq
    refine ⟨L, rfl, ⟨_, sqL hL⟩, ?_⟩
    refine walk_W (walk_list (K := K) (a := L) (xs := ks'.map V.int)) (fun j H' => Same H H' ∧ H' L = some (.lst (ks'.map V.int)) ∧ H' D = some (.lst ((ys ++ ks'.take j).map V.int))) ⟨s2.trans sL, hL, by rw [List.take_zero, List.append_nil]; exact sL _ _ hD2⟩ (fun j H' _ p => sqL p.2.1) ?_ ?_
    · rintro j y H5 H6 hj ⟨s5, hL5, hD5⟩ ⟨rfl, hy⟩
      rw [List.length_map] at hj
      have e2 : ks'[j]? = some ks'[j] := List.getElem?_eq_getElem hj
      rw [List.getElem?_map, e2] at hy
      cases Option.some.inj hy
      have eT2 : ks'.take (j + 1) = ks'.take j ++ [ks'[j]] := by rw [List.take_succ, e2]; rfl
      refine ⟨rfl, ?_⟩
      dsimp only [tYes]
      rw [if_pos rfl]
      refine ⟨_, rfl, _, hD5, ?_, Same.updA s5 nD, updN nLD hL5, ?_⟩
      · rw [List.length_map, List.length_append, List.length_take, ly]
        exact Nat.lt_of_le_of_lt (show _ ≤ 10000 by omega) (by decide)
      · rw [updS, eT2, ← List.append_assoc, List.map_append (l₁ := ys ++ ks'.take j)]
        rfl
    · rintro H5 ⟨s5, hL5, hD5⟩
      rw [List.length_map, List.take_length] at hD5
      refine ⟨s5, ys ++ ks', hD5, by rw [List.length_append, eT, sumP_snoc, ly, lk], fun x => ?_⟩
      rw [List.mem_append, my x, eT]
      constructor
      · rintro (⟨p, hp, hx⟩ | hx)
        · exact ⟨p, List.mem_append_left _ hp, hx⟩
        · exact ⟨_, List.mem_append_right _ (List.mem_singleton.mpr rfl), pm.mem_iff.mp hx⟩
      · rintro ⟨p, hp, hx⟩
        rcases List.mem_append.mp hp with hp | hp
        · exact .inl ⟨p, hp, hx⟩
        · rw [List.mem_singleton.mp hp] at hx
          exact .inr (pm.mem_iff.mpr hx)
  · rintro H2 ⟨s2, ys, hD2, ly, my⟩
    rw [List.length_map, List.take_length] at ly my
    exact fin ys H2 s2 hD2 ly my
theorem pure_House_roots (h : sp_House_roots K vs H Q E) : t_House_roots K { nx := fun _ H' => Q .non H', rt := Q } (start N_House_roots vs) H := by
  obtain ⟨h, B, m, mk, fr, ps, rfl, st, hS, ndm, hF, ndf, nSF, hP, pn, few, k⟩ := h
  have nAS : h.A ≠ h.S := by
    obtain ⟨dx, e⟩ := st.ho
    exact ne_of e hS fun z => by cases z
  have nAF : h.A ≠ h.F := by
    obtain ⟨dx, e⟩ := st.ho
    exact ne_of e hF fun z => by cases z
  refine ⟨h.S, _, hS, True.intro, fun od => ?_⟩
  have stF : HoAt K (upd H h.S (.frz od (.dK (mkD mk)))) h B m := by
    obtain ⟨dx, e⟩ := st.ho
    exact ⟨st.hc, dx, updN nAS e⟩
  have hSF : upd H h.S (.frz od (.dK (mkD mk))) h.S = some (.frz od (.dK (mkD mk))) := updS
  dsimp only [tAsg, tLc, iKeys]
  refine stF.fS rfl ⟨h.S, od, rfl, .inl ⟨_, hSF, fun D nD => ?_⟩⟩
  have nDS : D ≠ h.S := fun z => by rw [z, hSF] at nD; cases nD
  have nD0 : H D = none := by rw [upd_ne nDS] at nD; exact nD
  refine roots_marks stF hSF ndm (by omega) nD fun H1 s1 hD1 => ?_
  refine ⟨s1 _ _ hSF, ?_⟩
  have u1 := unlockF hS s1
  have hD2 : upd H1 h.S (.dK (mkD mk)) D = some (.lst ((mk.map (·.2)).map V.int)) := updN nDS hD1
  generalize upd H1 h.S (.dK (mkD mk)) = H2 at u1 hD2 ⊢
  have hF2 := u1 _ _ hF
  have nAF2 := nAF
  have few' : mk.length + fr.length + sumP ps ≤ 3000 := few
  -- the far marks
  refine ⟨_, rfl, .inl ⟨rfl, _, sqL hD2⟩, ?_⟩
  refine ⟨h.F, _, hF2, True.intro, fun od2 => ?_⟩
  have st2 := st.kf (F := []) (Kf.same u1) (by simp)
  have stG : HoAt K (upd H2 h.F (.frz od2 (.dT (frD fr)))) h B m := by
    obtain ⟨dx, e⟩ := st2.ho
    exact ⟨st.hc, dx, updN nAF e⟩
  have hFG : upd H2 h.F (.frz od2 (.dT (frD fr))) h.F = some (.frz od2 (.dT (frD fr))) := updS
  dsimp only [tLc, iKeys]
  refine stG.fF rfl ⟨h.F, od2, rfl, .inr ⟨_, hFG, fun L nL => ?_⟩⟩
  have nLF : L ≠ h.F := fun z => by rw [z, hFG] at nL; cases nL
  have nL0 : H2 L = none := by rw [upd_ne nLF] at nL; exact nL
  refine roots_far stG hFG ndf (by omega) nL fun H3 s3 hL3 => ?_
  refine ⟨s3 _ _ hFG, ?_⟩
  have u3 := unlockF hF2 s3
  have hL4 : upd H3 h.F (.dT (frD fr)) L = some (.lst ((fr.map (·.2)).map V.int)) := updN nLF hL3
  generalize upd H3 h.F (.dT (frD fr)) = H4 at u3 hL4 ⊢
  refine ⟨D, L, _, _, rfl, rfl, u3 _ _ hD2, .inl hL4, by rw [List.length_map, List.length_map, List.length_map, List.length_map]; omega, ?_⟩
  have nDn : ∀ {a : Addr} {o : HO}, H a = some o → a ≠ D := fun e z => by rw [z, nD0] at e; cases e
  have s05 : Same H (upd H4 D (.lst ((mk.map (·.2)).map V.int ++ (fr.map (·.2)).map V.int))) := fun a o e => updN (nDn e) (u3 _ _ (u1 _ _ e))
  have hD5 : upd H4 D (.lst ((mk.map (·.2)).map V.int ++ (fr.map (·.2)).map V.int)) D = some (.lst ((mk.map (·.2) ++ fr.map (·.2)).map V.int)) := by rw [updS, List.map_append]
  generalize upd H4 D (.lst ((mk.map (·.2)).map V.int ++ (fr.map (·.2)).map V.int)) = H5 at s05 hD5 ⊢
  -- the pins
  refine ⟨_, rfl, .inl ⟨rfl, _, sqL hD5⟩, ?_⟩
  dsimp only [tCons, tLc2, iList]
  have st5 := st.kf (F := []) (Kf.same s05) (by simp)
  refine st5.fP rfl ⟨_, rfl, ⟨_, sqL (s05 _ _ hP)⟩, fun M nM => ?_⟩
  refine roots_pins (s05 _ _ hP) (fun p hp => (pn p hp).same s05) (by omega) nM fun ys H6 s6 hM6 ly my => ?_
  refine ⟨D, M, _, _, rfl, rfl, s6 _ _ hD5, .inl hM6, by rw [List.length_map, List.length_map, List.length_append, List.length_map, List.length_map]; omega, ?_⟩
  have s07 : Same H (upd H6 D (.lst ((mk.map (·.2) ++ fr.map (·.2)).map V.int ++ ys.map V.int))) := fun a o e => updN (nDn e) (s6 _ _ (s05 _ _ e))
  have hD7 : upd H6 D (.lst ((mk.map (·.2) ++ fr.map (·.2)).map V.int ++ ys.map V.int)) D = some (.lst ((mk.map (·.2) ++ fr.map (·.2) ++ ys).map V.int)) := by rw [updS, List.map_append (l₂ := ys)]
  generalize upd H6 D (.lst ((mk.map (·.2) ++ fr.map (·.2)).map V.int ++ ys.map V.int)) = H7 at s07 hD7 ⊢
  refine ⟨_, rfl, D, _, rfl, sqL hD7, by rw [List.length_append, List.length_append, List.length_map, List.length_map]; omega, fun rs q R u nq nR inc mem len => ?_⟩
  have nq0 : H q = none := by
    cases z : H q with
    | none => rfl
    | some o => rw [s07 _ _ z] at nq; cases nq
  have s78 : Same H (upd (upd H7 q u) R (.lst (rs.map V.int))) := s07.trans ((samN nq).trans (samN nR))
  have nR0 : H R = none := by
    cases z : H R with
    | none => rfl
    | some o => rw [((samN nq : Same H7 (upd H7 q u)) _ _ (s07 _ _ z))] at nR; cases nR
  refine k R rs _ s78 nR0 updS inc ?_ fun x => ?_
  · rw [List.length_append, List.length_append, List.length_map, List.length_map, ly] at len
    exact len
  · rw [mem x, List.mem_append, List.mem_append, my x, or_assoc]
end
end Fw
set_option Elab.async false
set_option linter.all false
set_option maxRecDepth 100000
set_option maxHeartbeats 4000000
namespace Fw
open PySem L2 RZ RT
/-- a leaf, a tree with it, and versions of the tree -/
structure SnC (cs : List Ct) (m : Nat) : Prop where
  fam : FamOk cs
  c0 : ∃ rs, cs[0]? = some (.leaf rs)
  c1 : ∃ es, cs[1]? = some (.tree es)
  ver : ∀ (i : Nat) (c : Ct), cs[i + 2]? = some c → c.word = "version"
  few : cs.length ≤ m + 2
  more : 0 < m → 3 ≤ cs.length
theorem SnC.two {cs : List Ct} {m : Nat} (s : SnC cs m) : 2 ≤ cs.length := by
  obtain ⟨es, h⟩ := s.c1
  exact (List.getElem?_eq_some_iff.mp h).1
theorem SnC.start : SnC [.leaf [], .tree [("a", 0)]] 0 := by
  have f1 : FamOk [Ct.leaf []] := FamOk.snoc (cs := []) FamOk.nil ⟨by decide, fun z h => nomatch h⟩ rfl (by simp)
  have f2 : FamOk ([Ct.leaf []] ++ [Ct.tree [("a", 0)]]) := f1.snoc ⟨by decide, (fun z h => by
      rw [List.mem_singleton.mp h]
      exact okLab1 (c := 97) (by decide) (by decide)), by simp⟩ (inB_tree (fun e he => by
      rw [List.mem_singleton.mp he]
      exact hasK_at (i := 0) (c := .leaf []) rfl con2) (by decide)) (by simp)
  exact ⟨f2, ⟨_, rfl⟩, ⟨_, rfl⟩, (fun i c h => by simp at h), by decide, fun h => absurd h (by decide)⟩
theorem SnC.add {cs : List Ct} {m : Nat} {ps : List Int} {st : Int} (s : SnC cs m) (fo : (Ct.ver ps 1 st).form) (lo : ∀ p ∈ ps, 2 ≤ p ∧ p < (cs.length : Int)) : SnC (addC cs (.ver ps 1 st)) (m + 1) := by
  have two := s.two
  obtain ⟨fam, ⟨rs, c0⟩, ⟨es, c1⟩, ver, few, more⟩ := s
  have inb : (Ct.ver ps 1 st).inB cs = true := by
    unfold Ct.inB
    rw [Bool.and_eq_true]
    refine ⟨List.all_eq_true.mpr fun p hp => ?_, hasK_at c1 con1⟩
    obtain ⟨h1, h2⟩ := lo p hp
    obtain ⟨q, rfl⟩ := Int.eq_ofNat_of_zero_le (show 0 ≤ p by omega)
    obtain ⟨j, rfl⟩ : ∃ j, q = j + 2 := ⟨q - 2, by omega⟩
    have hj : j + 2 < cs.length := by omega
    refine hasK_at (List.getElem?_eq_getElem hj) ?_
    rw [ver j _ (List.getElem?_eq_getElem hj)]
    exact con1
  have f' := fam.add fo inb
  have l' := addC_len cs (.ver ps 1 st)
  unfold addC at *
  by_cases h : Ct.ver ps 1 st ∈ cs
  · rw [if_pos h] at *
    refine ⟨f', ⟨rs, c0⟩, ⟨es, c1⟩, ver, by omega, fun _ => ?_⟩
    obtain ⟨i, hi⟩ := List.mem_iff_getElem?.mp h
    have il := (List.getElem?_eq_some_iff.mp hi).1
    match i, hi, il with
    | 0, hi, _ => rw [c0] at hi; cases hi
    | 1, hi, _ => rw [c1] at hi; cases hi
    | j + 2, _, il => omega
  · rw [if_neg h] at *
    refine ⟨f', ⟨rs, ?_⟩, ⟨es, ?_⟩, fun i c hc => ?_, by omega, fun _ => ?_⟩
    · rw [List.getElem?_append_left (by omega)]; exact c0
    · rw [List.getElem?_append_left (by omega)]; exact c1
    · by_cases hi : i + 2 < cs.length
      · rw [List.getElem?_append_left hi] at hc; exact ver i c hc
      · rw [List.getElem?_append_right (by omega)] at hc
        have := List.mem_singleton.mp (List.mem_of_getElem? hc)
        rw [this]
        rfl
    · rw [List.length_append, List.length_singleton]; omega
theorem SnC.isV {cs : List Ct} {m : Nat} (s : SnC cs m) {i : Nat} (h : i + 2 < cs.length) : isV cs ((i + 2 : Nat) : Int) = true := by
  rw [isV_at (List.getElem?_eq_getElem h), s.ver i _ (List.getElem?_eq_getElem h)]
  exact decide_eq_true rfl
/-- what a law has drawn: the things, and names held, some version among them -/
structure ThK (c D : Addr) (dn : List Int) (t' : Nat) (H H' : Hp) (T L : Addr) (as : List Addr) (cs : List Ct) (ns : List Int) : Prop where
  nT : H T = none
  nL : H L = none
  tr : H' T = some (.lst (as.map V.ref))
  cs_ : CsAt H' as cs
  fam : FamOk cs
  few : cs.length ≤ 400
  held : H' L = some (.lst (ns.map V.int))
  inc : ns.Pairwise (· < ·)
  nm : NmOk cs ns
  some_ : ∃ x ∈ ns, isV cs x = true
  kp : Kp D H H'
  dk : Dk c D dn t' H'
section
variable [HasW]
def sp_l_scene (_ : PySem.W.Frag) : Sp := fun vs H Q _ => ∃ (c D : Addr) (dn : List Int) (t : Nat) (m : Int), vs = [.ref D, .int m] ∧ Dk c D dn t H ∧ 1 ≤ m ∧ m ≤ 20 ∧ t + 2000 < 1000000000 ∧
  ∀ (q T L : Addr) (as : List Addr) (cs : List Ct) (ns : List Int) (H' : Hp), H' q = some (.tup [.ref T, .ref L]) → ThK c D dn (t + 2000) H H' T L as cs ns → cs.length ≤ 40 → Q (.ref q) H'
end
section
variable [HasW] {K : PySem.W.Frag} {vs : List V} {H : Hp} {Q : VK} {E : XK}
theorem len_l_scene (h : sp_l_scene K vs H Q E) : vs.length = 2 := by obtain ⟨_, _, _, _, _, rfl, _⟩ := h; rfl
end
section
variable [HasW]
abbrev N_l_scene : List Str := ["_law_deck_here", "_law_most", "_law_pick", "_law_things", "_law_k", "_law_parents_here", "_law_names", "_law_held", "_law_gone", "_law_name"]
def t_l_scene_end (K : PySem.W.Frag) : TS := (tSeq (tDrop (tBM K "list" rAppend (tVar 7) (tCons (tOp rAddI (tC (.int 2)) (tCall (sp_l_draw K) [] E0 (tCons (tVar 0) (tCons (tOp rSubI (tCB (fLen K) (tCons (tVar 3) tNil)) (tC (.int 2))) tNil)))) tNil)))
    (tRet (tTup (tCons (tVar 3) (tCons (tSortSet K (tVar 7)) tNil)))))
def t_l_scene_held (K : PySem.W.Frag) : TS := (tSeq (tIfS (tTest (tOp rEq (tVar 2) (tC (.int 0)))) (tAsg (tLc (iList K (tVar 6)) (gName 9) (tTest (tOp rEq (tCall (sp_l_draw K) [] E0 (tCons (tVar 0) (tCons (tC (.int 2)) tNil))) (tC (.int 1)))) (tVar 9) [9]) (gName 7)) (tSeq (tAsg (tLc (iRng1 (tCons (tCall (sp_l_draw K) [] E0 (tCons (tVar 0) (tCons (tC (.int 4)) tNil))) tNil)) (gName 4) tYes (tCall (sp_l_draw K) [] E0 (tCons (tVar 0) (tCons (tOp rMulI (tC (.int 2)) (tCB (fLen K) (tCons (tVar 3) tNil))) tNil))) [4]) (gName 8))
    (tAsg (tLc (iList K (tVar 6)) (gName 9) (tTest (tOp (rIn K true) (tVar 9) (tVar 8))) (tVar 9) [9]) (gName 7))))
    (t_l_scene_end K))
def t_l_scene_names (K : PySem.W.Frag) : TS := (tSeq (tAsg (tLstRg (tRg1 (tCB (fLen K) (tCons (tVar 3) tNil)))) (gName 6))
    (t_l_scene_held K))
def t_l_scene (K : PySem.W.Frag) : TS := (tSeq (tAsg (tCall (sp_l_draw K) [] E0 (tCons (tVar 0) (tCons (tC (.int 3)) tNil))) (gName 2))
    (tSeq (tAsg (tLst (tCons (tTup (tCons (tC (.str "leaf")) (tCons (tTup tNil) tNil))) (tCons (tTup (tCons (tC (.str "tree")) (tCons (tTup (tCons (tTup (tCons (tC (.str "a")) (tCons (tC (.int 0)) tNil))) tNil)) tNil))) tNil))) (gName 3))
    (tSeq (tFor (iRng1 (tCons (tOp rAddI (tC (.int 1)) (tCall (sp_l_draw K) [] E0 (tCons (tVar 0) (tCons (tVar 1) tNil)))) tNil)) (gName 4) (tSeq (tAsg (tCall (sp_l_some K) [] E0 (tCons (tVar 0) (tCons (tLstRg (tRg2 (tC (.int 2)) (tCB (fLen K) (tCons (tVar 3) tNil)))) (tCons (tCall (sp_l_draw K) [] E0 (tCons (tVar 0) (tCons (tC (.int 4)) tNil))) tNil)))) (gName 5))
    (tDrop (tCall (sp_l_give K) [] E0 (tCons (tVar 3) (tCons (tTup (tCons (tC (.str "version")) (tCons (tVar 5) (tCons (tC (.int 1)) (tCons (tCall (sp_l_draw K) [] E0 (tCons (tVar 0) (tCons (tOp rAddI (tOp rPowI (tC (.int 10)) (tC (.int 18))) (tC (.int 1))) tNil))) tNil))))) tNil))))))
    (t_l_scene_names K))))
end
section
variable [HasW] {K : PySem.W.Frag} {vs : List V} {H : Hp} {Q : VK} {E : XK}
theorem scene_end {c D T N L : Addr} {dn : List Int} {t m : Nat} {pm i2 : Int} {as : List Addr} {cs : List Ct} {ms : List Int} {z4 z5 z8 z9 : Option V} (dk : Dk c D dn t H) (nTD : T ≠ D) (nLD : L ≠ D) (hT : H T = some (.lst (as.map V.ref))) (hcs : CsAt H as cs) (s : SnC cs m) (l3 : 3 ≤ cs.length) (few : cs.length ≤ 40) (hL : H L = some (.lst (ms.map V.int))) (nTL : T ≠ L) (nLc : L ≠ c) (nm : NmOk cs ms) (lm : ms.length ≤ 40) (ht : t + 10 < 1000000000)
    (k : ∀ (q R : Addr) (ns : List Int) (H' : Hp), Kf [D, L] H H' → H R = none → H' q = some (.tup [.ref T, .ref R]) → H' R = some (.lst (ns.map V.int)) → ns.Pairwise (· < ·) → NmOk cs ns → (∃ x ∈ ns, isV cs x = true) → Dk c D dn (t + 1) H' → Q (.ref q) H') :
    t_l_scene_end K { nx := fun _ H' => Q .non H', rt := Q } [some (.ref D), some (.int pm), some (.int i2), some (.ref T), z4, z5, some (.ref N), some (.ref L), z8, z9] H := by
  have tl : as.length = cs.length := hcs.1
  refine ⟨_, rfl, .inl ⟨rfl, _, sqL hL⟩, _, rfl, _, rfl, lenL hT ⟨_, _, rfl, rfl, c, D, dn, t, _, rfl, dk, by omega, by rw [List.length_map]; omega, by rw [List.length_map]; exact small100 (by omega), fun v H2 v0 v1 d2 fr2 => ?_⟩⟩
  rw [List.length_map] at v1
  have hL2 : H2 L = some (.lst (ms.map V.int)) := by rw [fr2 _ nLD]; exact hL
  obtain ⟨j, rfl⟩ := Int.eq_ofNat_of_zero_le v0
  have hj : j + 2 < cs.length := by omega
  refine ⟨_, _, rfl, rfl, L, _, _, rfl, rfl, hL2, by rw [List.length_map]; exact Nat.lt_of_le_of_lt (show _ ≤ 1000 by omega) (by decide), ?_⟩
  have hL3 : upd H2 L (.lst (ms.map V.int ++ [.int (2 + (j : Int))])) L = some (.lst ((ms ++ [2 + (j : Int)]).map V.int)) := by rw [updS, List.map_append]; rfl
  have kf3 : Kf [D, L] H (upd H2 L (.lst (ms.map V.int ++ [.int (2 + (j : Int))]))) := (Kf.but fr2 (by simp)).up (by simp)
  have d3 : Dk c D dn (t + 1) (upd H2 L (.lst (ms.map V.int ++ [.int (2 + (j : Int))]))) := d2.upd nLc nLD
  have hT3 : upd H2 L (.lst (ms.map V.int ++ [.int (2 + (j : Int))])) T = some (.lst (as.map V.ref)) := kf3 _ _ hT (by simp [nTD, nTL])
  generalize upd H2 L (.lst (ms.map V.int ++ [.int (2 + (j : Int))])) = H3 at hL3 kf3 d3 hT3 ⊢
  refine ⟨_, rfl, _, rfl, L, _, rfl, sqL hL3, by rw [List.length_append]; show ms.length + 1 < 64; omega, fun ys q p u nq np inc mem len => ⟨by show (2 : Nat) ≤ sizeLine; decide, fun A nA => ?_⟩⟩
  have s4 : Same H3 (upd (upd H3 q u) p (.lst (ys.map V.int))) := (samN nq).trans (samN np)
  have npA : p ≠ A := ne_of_none updS nA
  have s5 := s4.trans (samN (o := .tup [.ref T, .ref p]) nA)
  have np3 : H3 p = none := by
    cases z : H3 p with
    | none => rfl
    | some o => rw [(samN (o := u) nq) _ _ z] at np; cases np
  have np0 : H p = none := by
    cases z : H p with
    | none => rfl
    | some o =>
      have n1 : p ≠ D := d3.neD np3
      have n2 : p ≠ L := (ne_of_none hL3 np3).symm
      rw [kf3 _ _ z (by simp [n1, n2])] at np3; cases np3
  refine k A p ys _ (kf3.trans (Kf.same s5)) np0 updS (updN npA updS) inc (fun y hy => ?_) ⟨2 + (j : Int), (mem _).mpr (by simp), ?_⟩ (d3.same s5)
  · rcases List.mem_append.mp ((mem y).mp hy) with h | h
    · exact nm y h
    · rw [List.mem_singleton.mp h]
      constructor
      · omega
      · rw [show (2 + (j : Int)) = ((j + 2 : Nat) : Int) by omega, Int.toNat_natCast]; exact hj
  · rw [show (2 + (j : Int)) = ((j + 2 : Nat) : Int) by omega]
    exact s.isV hj
theorem scene_held {c D T N : Addr} {dn : List Int} {t m : Nat} {pm i2 : Int} {as : List Addr} {cs : List Ct} {z4 z5 z7 z8 z9 : Option V} (dk : Dk c D dn t H) (nTD : T ≠ D) (hT : H T = some (.lst (as.map V.ref))) (hcs : CsAt H as cs) (s : SnC cs m) (l3 : 3 ≤ cs.length) (few : cs.length ≤ 30) (hN : H N = some (.lst (((List.range cs.length).map Int.ofNat).map V.int))) (nND : N ≠ D) (ht : t + 100 < 1000000000)
    (k : ∀ (q R : Addr) (ns : List Int) (H' : Hp), Kp D H H' → H R = none → H' q = some (.tup [.ref T, .ref R]) → H' R = some (.lst (ns.map V.int)) → ns.Pairwise (· < ·) → NmOk cs ns → (∃ x ∈ ns, isV cs x = true) → Dk c D dn (t + 100) H' → Q (.ref q) H') :
    t_l_scene_held K { nx := fun _ H' => Q .non H', rt := Q } [some (.ref D), some (.int pm), some (.int i2), some (.ref T), z4, z5, some (.ref N), z7, z8, z9] H := by
  have l0 : ((List.range cs.length).map Int.ofNat).length = cs.length := by rw [List.length_map, List.length_range]
  have tl : as.length = cs.length := hcs.1
  obtain ⟨xs, hD⟩ := dk.someD
  have tmO : ∀ {M : Addr} {H' : Hp}, H M = none → Kf [D, M] H H' → TM H H' := fun nM kf => kf.tm fun x hx ys e => by
    simp only [List.mem_cons, List.not_mem_nil, or_false] at hx
    rcases hx with rfl | rfl
    · rw [hD] at e; cases e
    · rw [nM] at e; cases e
  -- the list of the held, wherever it came from
  have go : ∀ (L : Addr) (ms : List Int) (z8' z9' : Option V) (H1 : Hp), Kp D H H1 → (H L = none) → L ≠ D → L ≠ c → L ≠ T → H1 L = some (.lst (ms.map V.int)) → ms.Sublist ((List.range cs.length).map Int.ofNat) → CsAt H1 as cs → (∃ t', t' ≤ t + 60 ∧ Dk c D dn t' H1) → t_l_scene_end K { nx := fun _ H' => Q .non H', rt := Q } [some (.ref D), some (.int pm), some (.int i2), some (.ref T), z4, z5, some (.ref N), some (.ref L), z8', z9'] H1 := by
    rintro L ms z8' z9' H1 kp nL nLD nLc nLT hL sb hcs1 ⟨t', ht', d1⟩
    have lm : ms.length ≤ 30 := by have := sb.length_le; rw [l0] at this; omega
    refine scene_end d1 nTD nLD (kp _ _ hT nTD) hcs1 s l3 (by omega) hL nLT.symm nLc ((range_ok cs).sub fun x hx => sb.subset hx) (by omega) (by omega) fun q R ns H' kf nR h1 h2 h3 h4 h5 d' => k q R ns H' (fun b o e n => kf b o (kp b o e n) (by simp [n, ne_of_none e nL])) ?_ h1 h2 h3 h4 h5 (d'.le (by omega))
    cases z : H R with
    | none => rfl
    | some o =>
      rw [kp R o z (d1.neD nR)] at nR; cases nR
  refine ⟨_, rfl, rfl, _, rfl, ite2 (fun _ => ?_) (fun _ => ?_)⟩
  · refine ⟨_, rfl, N, rfl, ⟨_, sqL hN⟩, fun L nL => ?_⟩
    have nDL : D ≠ L := (dk.neD nL).symm
    have ncL : c ≠ L := (dk.neC nL).symm
    have nNL : N ≠ L := ne_of_none hN nL
    refine lc_sub (ns := (List.range cs.length).map Int.ofNat) (walk_list (xs := ((List.range cs.length).map Int.ofNat).map V.int)) (fun i H x H' y => ⟨y.1, y.2⟩) (fun i H' => Kf [D, L] H H' ∧ Dk c D dn (t + i) H') (fun _ => True) (by show 9 < 10; decide) (by simp) (by rw [List.length_map, l0]; omega) ⟨Kf.refl.up (by simp), dk.upd ncL.symm nDL.symm⟩ (fun i H' p => sqL (p.1 _ _ hN (by simp [nND, nNL]))) (fun i H' o p => ⟨p.1.up (by simp), p.2.upd ncL.symm nDL.symm⟩) ?_ ?_
    · intro i v H' R hv ⟨kf, d'⟩ q
      have hi := (List.getElem?_eq_some_iff.mp hv).1
      rw [l0] at hi
      exact ⟨_, rfl, c, D, dn, _, 2, rfl, d', by omega, by decide, by decide, fun x H'' _ _ d'' fr => ⟨rfl, _, rfl, q _ H'' (fun _ => trivial) ⟨kf.trans (Kf.but fr (by simp)), d''⟩ (fr _ nDL.symm)⟩⟩
    · intro H' ms ⟨kf, d'⟩ sb _ hL
      rw [List.length_map, l0] at d'
      exact go L ms _ _ H' (fun b o e n => kf b o e (by simp [n, ne_of_none e nL])) nL nDL.symm ncL.symm (ne_of_none hT nL).symm hL sb (hcs.mono (tmO nL kf)) ⟨_, by omega, d'⟩
  · refine ⟨_, rfl, c, D, dn, t, 4, rfl, dk, by omega, by decide, by decide, fun v H2 v0 v1 d2 fr2 => ⟨v, rfl, by omega, by omega, fun G nG => ?_⟩⟩
    have kp2 : Kp D H H2 := .fr fr2
    have hT2 := kp2 _ _ hT nTD
    have hN2 := kp2 _ _ hN nND
    have nDG : D ≠ G := (d2.neD nG).symm
    have ncG : c ≠ G := (d2.neC nG).symm
    have nTG : T ≠ G := ne_of_none hT2 nG
    refine lc_it (walk_range (lo := 0) (n := v.toNat)) (fun i H' => Kf [D, G] H2 H' ∧ Dk c D dn (t + 1 + i) H' ∧ ∃ gs : List Int, H' G = some (.lst (gs.map V.int)) ∧ gs.length = i) ⟨Kf.refl.up (by simp), d2.upd ncG.symm nDG.symm, [], updS, rfl⟩ (fun _ _ _ _ => True.intro) ?_ ?_
    · rintro i x H' H'' hi ⟨kf, d', gs, hG, gl⟩ hy
      obtain ⟨rfl, rfl⟩ := hy
      refine ⟨by simp [wipe], ?_⟩
      dsimp only [tYes]
      rw [if_pos rfl]
      have hi3 : i < 4 := by omega
      refine ⟨_, rfl, _, rfl, lenL (kf _ _ hT2 (by simp [nTD, nTG])) ⟨_, _, rfl, rfl, (.inl ⟨by decide, by decide⟩), c, D, dn, _, _, rfl, d', by omega, by rw [List.length_map]; omega, by rw [List.length_map]; exact small100 (by omega), fun y H4 _ _ d4 fr4 => ?_⟩⟩
      have hG4 := (fr4 _ nDG.symm).trans hG
      refine ⟨_, hG4, ?_, (kf.trans (Kf.but fr4 (by simp))).up (by simp), d4.upd ncG.symm nDG.symm, gs ++ [y], by rw [updS, List.map_append]; rfl, by rw [List.length_append, gl]; rfl⟩
      rw [List.length_map]
      exact Nat.lt_of_le_of_lt (show gs.length ≤ 1000 by omega) (by decide)
    · rintro H' ⟨kf, d', gs, hG, gl⟩
      have hN3 := kf _ _ hN2 (by simp [nND, ne_of_none hN2 nG])
      refine ⟨_, rfl, N, rfl, ⟨_, sqL hN3⟩, fun L nL => ?_⟩
      refine lc_filt (ns := (List.range cs.length).map Int.ofNat) (p := fun q => !decide (q ∈ gs)) (walk_list (xs := ((List.range cs.length).map Int.ofNat).map V.int)) (fun i H x H' y => ⟨y.1, y.2⟩) (by show 9 < 10; decide) nL (by simp) (by rw [List.length_map, l0]; omega) (fun H' s => sqL (s _ _ hN3)) ?_ ?_
      · intro v H5 X hv s q
        refine ⟨_, rfl, _, rfl, G, _, rfl, .inl (sqL (s _ _ hG)), rfl, fl_ints _, _, rfl, ?_⟩
        rw [if_pos rfl, i_ints]
        exact q _ (Same.refl _)
      · intro H5 s5 hL
        have nG0 : H G = none := kp2.free nG nDG.symm
        have kpH : Kp D H H' := fun b o e n => kf b o (kp2 b o e n) (by simp [n, ne_of_none e nG0])
        have nL0 : H L = none := kpH.free nL (d'.neD nL)
        have hT5 : H' T = some (.lst (as.map V.ref)) := kpH _ _ hT nTD
        have tm : TM H H5 := fun b ys e => s5 _ _ (kpH b _ e (by intro z; rw [z, hD] at e; cases e))
        exact go L _ _ _ H5 (fun b o e n => s5 _ _ (kpH b o e n)) nL0 (d'.neD nL) (d'.neC nL) (ne_of_none hT5 nL).symm hL List.filter_sublist (hcs.mono tm) ⟨_, by omega, d'.same s5⟩
theorem pure_l_scene (h : sp_l_scene K vs H Q E) : t_l_scene K { nx := fun _ H' => Q .non H', rt := Q } (start N_l_scene vs) H := by
  obtain ⟨c, D, dn, t, m, rfl, dk, m1, m2, ht, k⟩ := h
  refine ⟨_, rfl, c, D, dn, t, 3, rfl, dk, by omega, by decide, by decide, fun pick H1 p0 p1 d1 fr1 => ?_⟩
  have kp1 : Kp D H H1 := .fr fr1
  refine ⟨by decide, fun l nl => ⟨by show (2 : Nat) ≤ sizeLine; decide, fun a1 n1 => ?_⟩⟩
  have s2 : Same H1 (upd H1 l (.tup [])) := samN nl
  have g1 : upd H1 l (.tup []) l = some (.tup []) := updS
  generalize upd H1 l (.tup []) = H2 at s2 g1 n1 ⊢
  have s3 : Same H2 (upd H2 a1 (.tup [.str "leaf", .ref l])) := samN n1
  have g2 : upd H2 a1 (.tup [.str "leaf", .ref l]) a1 = some (.tup [.str "leaf", .ref l]) := updS
  have h1 := s3 _ _ g1
  have s13 := s2.trans s3
  generalize upd H2 a1 (.tup [.str "leaf", .ref l]) = H3 at s13 g2 h1 ⊢
  refine ⟨by show (2 : Nat) ≤ sizeLine; decide, fun e ne => ⟨by show (1 : Nat) ≤ sizeLine; decide, fun f nf => ?_⟩⟩
  have s4 : Same H3 (upd H3 e (.tup [.str "a", .int 0])) := samN ne
  have g3 : upd H3 e (.tup [.str "a", .int 0]) e = some (.tup [.str "a", .int 0]) := updS
  generalize upd H3 e (.tup [.str "a", .int 0]) = H4 at s4 g3 nf ⊢
  have s5 : Same H4 (upd H4 f (.tup [.ref e])) := samN nf
  have g4 : upd H4 f (.tup [.ref e]) f = some (.tup [.ref e]) := updS
  have s15 := s13.trans (s4.trans s5)
  have h1 := s5 _ _ (s4 _ _ h1)
  have h2 := s5 _ _ (s4 _ _ g2)
  have h3 := s5 _ _ g3
  generalize upd H4 f (.tup [.ref e]) = H5 at s15 g4 h1 h2 h3 ⊢
  refine ⟨by show (2 : Nat) ≤ sizeLine; decide, fun a2 n2 => ⟨by show (2 : Nat) ≤ sizeLine; decide, fun T nT => ?_⟩⟩
  have s6 : Same H5 (upd H5 a2 (.tup [.str "tree", .ref f])) := samN n2
  have g5 : upd H5 a2 (.tup [.str "tree", .ref f]) a2 = some (.tup [.str "tree", .ref f]) := updS
  have s16 := s15.trans s6
  generalize upd H5 a2 (.tup [.str "tree", .ref f]) = H6 at s6 g5 s16 nT ⊢
  have s7 : Same H6 (upd H6 T (.lst [.ref a1, .ref a2])) := samN nT
  have s17 := s16.trans s7
  have hT : upd H6 T (.lst [.ref a1, .ref a2]) T = some (.lst ([a1, a2].map V.ref)) := updS
  have hcs : CsAt (upd H6 T (.lst [.ref a1, .ref a2])) [a1, a2] [.leaf [], .tree [("a", 0)]] := by
    refine (CsAt.nil.snoc (T := a1) (c := .leaf []) ⟨l, s7 _ _ (s6 _ _ h2), s7 _ _ (s6 _ _ h1)⟩).snoc (T := a2) (c := .tree [("a", 0)]) ⟨f, [e], s7 _ _ g5, s7 _ _ (s6 _ _ g4), rfl, fun i b x hb hx => ?_⟩
    match i, hb, hx with
    | 0, hb, hx =>
      cases Option.some.inj hb
      cases Option.some.inj hx
      exact s7 _ _ (s6 _ _ h3)
    | j + 1, hb, _ => simp at hb
  have nT1 : H1 T = none := by
    cases z : H1 T with
    | none => rfl
    | some o => rw [s16 _ _ z] at nT; cases nT
  have d7 := d1.same s17
  generalize upd H6 T (.lst [.ref a1, .ref a2]) = H7 at s17 hT hcs d7 ⊢
  have nTD : T ≠ D := d1.neD nT1
  have nTc : T ≠ c := d1.neC nT1
  have nT0 : H T = none := kp1.free nT1 nTD
  clear s2 s3 s4 s5 s6 s7 s13 s15 s16 g1 g2 g3 g4 g5 h1 h2 h3 nT nl n1 n2 ne nf
  refine ⟨_, rfl, _, rfl, c, D, dn, _, m, rfl, d7, by omega, by omega, small100 (by omega), fun w H8 w0 w1 d8 fr8 => ⟨_, _, rfl, rfl, _, rfl, by omega, by omega, ?_⟩⟩
  have hcs8 : CsAt H8 [a1, a2] [.leaf [], .tree [("a", 0)]] := hcs.mono ((Kp.fr fr8).tm d7)
  have hT8 : H8 T = some (.lst ([a1, a2].map V.ref)) := by rw [fr8 _ nTD]; exact hT
  have kf8 : Kf [D, T] H1 H8 := (Kf.same s17).trans (Kf.but fr8 (by simp))
  obtain ⟨xs, hD1⟩ := d1.someD
  refine for_range (lo := 0) (n := (1 + w).toNat) (fun i σ H' => Kf [D, T] H1 H' ∧ Dk c D dn (t + 2 + 42 * i) H' ∧ ∃ (as : List Addr) (cs : List Ct) (z4 z5 : Option V), σ = [some (.ref D), some (.int m), some (.int pick), some (.ref T), z4, z5, none, none, none, none] ∧ H' T = some (.lst (as.map V.ref)) ∧ CsAt H' as cs ∧ SnC cs i)
    ⟨kf8, d8, _, _, _, _, rfl, hT8, hcs8, SnC.start⟩ ?_ ?_
  · rintro i σ H9 hi ⟨kf9, d9, as, cs, z4, z5, rfl, hT9, hcs9, sn⟩
    have hi : i < 21 := by omega
    have few := sn.few
    have two := sn.two
    have tl : as.length = cs.length := hcs9.1
    refine ⟨_, rfl, _, rfl, lenL hT9 ⟨_, _, rfl, rfl, RgOk.of_le (by decide) (by rw [List.length_map]; omega) (by decide) (by omega), fun W nW => ?_⟩⟩
    have hW : upd H9 W (.lst (rgV 2 ((as.map V.ref).length : Int))) W = some (.lst (((List.range (cs.length - 2)).map fun i : Nat => 2 + (i : Int)).map V.int)) := by
      rw [updS]
      unfold rgV
      rw [List.map_map, List.length_map, tl, show ((cs.length : Int) - 2).toNat = cs.length - 2 by omega]
      rfl
    have sW : Same H9 (upd H9 W (.lst (rgV 2 ((as.map V.ref).length : Int)))) := samN nW
    have nWD := d9.neD nW
    have dW := d9.same sW
    generalize upd H9 W (.lst (rgV 2 ((as.map V.ref).length : Int))) = H10 at hW sW dW ⊢
    refine ⟨_, rfl, c, D, dn, _, 4, rfl, dW, by omega, by decide, by decide, fun v H11 v0 v1 d11 fr11 => ?_⟩
    have hW11 : H11 W = some (.lst (((List.range (cs.length - 2)).map fun i : Nat => 2 + (i : Int)).map V.int)) := by rw [fr11 _ nWD]; exact hW
    dsimp only [tNil]
    show sp_l_some K [V.ref D, V.ref W, V.int v] _ _ E0
    refine ⟨c, D, W, dn, _, _, v, rfl, d11, hW11, nWD, by rw [List.length_map, List.length_range]; omega, by omega, by omega, by omega, fun p ys H12 hp inc sub lys kp12 d12 => ?_⟩
    have kp12' : Kp D H9 H12 := ((Kp.of_same sW).trans (.fr fr11)).trans kp12
    refine ⟨_, rfl, _, rfl, _, rfl, ⟨_, _, rfl, rfl, ⟨by decide, by decide, by decide⟩, _, _, rfl, rfl, c, D, dn, _, _, rfl, d12, by omega, by decide +kernel, by decide +kernel, fun st H13 st0 st1 d13 fr13 => ⟨by show (4 : Nat) ≤ sizeLine; decide, fun A nA => ?_⟩⟩⟩
    have npD : p ≠ D := by
      obtain ⟨xs, e⟩ := d12.someD
      exact ne_of hp e (by intro z; cases z)
    have hp13 : H13 p = some (.tup (ys.map V.int)) := by rw [fr13 _ npD]; exact hp
    have kp13 : Kp D H9 H13 := kp12'.trans (.fr fr13)
    have sA : Same H13 (upd H13 A (.tup [.str "version", .ref p, .int 1, .int st])) := samN nA
    have hc : CtAt (upd H13 A (.tup [.str "version", .ref p, .int 1, .int st])) A (.ver ys 1 st) := ⟨p, updS, sA _ _ hp13⟩
    have d14 := d13.same sA
    have kp14 : Kp D H9 (upd H13 A (.tup [.str "version", .ref p, .int 1, .int st])) := kp13.trans (Kp.of_same sA)
    generalize upd H13 A (.tup [.str "version", .ref p, .int 1, .int st]) = H14 at sA hc d14 kp14
    have st1 : st < 1000000000000000001 := st1
    have fo : (Ct.ver ys 1 st).form := ⟨by omega, inc, st0, by omega⟩
    have tm14 : TM H9 H14 := kp14.tm d9
    dsimp only [tNil]
    show sp_l_give K [V.ref T, V.ref A] _ _ E0
    refine give_ok (kp14 _ _ hT9 nTD) (hcs9.mono tm14) hc fo sn.fam (by omega) fun n as2 H15 hT15 hcs15 hn fr15 => ?_
    refine ⟨kf9.trans ((Kf.kp kp14 (by simp)).trans (Kf.but fr15 (by simp))), (d14.but fr15 nTc nTD).le (by omega), as2, _, _, _, rfl, hT15, hcs15, sn.add fo fun q hq => ?_⟩
    obtain ⟨j, hj, rfl⟩ := List.mem_map.mp (sub q hq)
    have := List.mem_range.mp hj
    omega
  · rintro σ H9 ⟨kf9, d9, as, cs, z4, z5, rfl, hT9, hcs9, sn⟩
    have few := sn.few
    have l3 := sn.more (by omega)
    have tl : as.length = cs.length := hcs9.1
    show t_l_scene_names K { nx := fun _ H' => Q .non H', rt := Q } [some (.ref D), some (.int m), some (.int pick), some (.ref T), z4, z5, none, none, none, none] H9
    refine ⟨_, rfl, lenL hT9 ⟨_, rfl, RgOk.of_le (by decide) (by rw [List.length_map]; omega) (by decide) (by omega), fun N nN => ?_⟩⟩
    rw [List.length_map, tl, rgV_names]
    have sN : Same H9 (upd H9 N (.lst (((List.range cs.length).map Int.ofNat).map V.int))) := samN nN
    have kpN : Kp D H (upd H9 N (.lst (((List.range cs.length).map Int.ofNat).map V.int))) := fun b o e n => sN b o (kf9 b o (kp1 b o e n) (by simp [n, ne_of_none e nT0]))
    refine scene_held (d9.same sN) nTD (sN _ _ hT9) (hcs9.mono (TM.of sN)) sn l3 (by omega) updS (d9.neD nN) (by omega) fun q R ns H' kp nR h1 h2 h3 h4 h5 d' => k q T R as cs ns H' h1 ⟨nT0, kpN.free nR (d9.same sN |>.neD nR), kp _ _ (sN _ _ hT9) nTD, hcs9.mono ((TM.of sN).trans (kp.tm (d9.same sN))), sn.fam, by omega, h2, h3, h4, h5, kpN.trans kp, d'.le (by omega)⟩ (by omega)
end
end Fw
set_option Elab.async false
set_option linter.all false
set_option maxRecDepth 100000
set_option maxHeartbeats 1000000
namespace Fw
open PySem L2 RZ RT
def dueV : Option (Str × Int) → List V
  | none => []
  | some e => [.str e.1, .int e.2]
def vDue (cs : List Ct) (ns : List Int) : V → Option (Str × Int)
  | .int n => verDue cs ns n
  | _ => none
/-- a pin as the law keeps it: its own list, with a dict of names and whether it is on -/
structure OnA where
  p : PnA
  o : Addr
  d : Addr
  ks : List Int
  off : Bool
  kept : Bool
structure OnAt (H : Hp) (e : OnA) : Prop where
  ho : H e.o = some (.lst [.ref e.d, .bl (!e.off)])
  hd : H e.d = some (.dK (nmD e.ks))
def onsK (os : List OnA) : List Int := os.flatMap (·.ks)
theorem onsK_snoc (os : List OnA) (e : OnA) : onsK (os ++ [e]) = onsK os ++ e.ks := by
  unfold onsK
  rw [List.flatMap_append]
  simp
theorem unlockK {F : List Addr} {H H' : Hp} {d : Addr} {u : HO} {od : Obj} (hd : H d = some u) (s : Kf F (upd H d (.frz od u)) H') : Kf F H (upd H' d u) := fun b o e n => by
  by_cases z : b = d
  · subst z
    rw [hd] at e
    cases e
    exact updS
  · rw [upd_ne z]
    exact s _ _ (by rw [upd_ne z]; exact e) n
section
variable [HasW]
def sp_l_name55 (_ : PySem.W.Frag) : Sp := fun vs H Q _ => ∃ (c D T : Addr) (dn : List Int) (t : Nat) (cs : List Ct), vs = [.ref D, .ref T] ∧ Dk c D dn t H ∧ T ≠ D ∧ Th0 H T cs ∧ 0 < cs.length ∧ t + 3 < 1000000000 ∧ ∀ (x : Int) (H' : Hp), Kp D H H' → Dk c D dn (t + 3) H' → Q (.int x) H'
def sp_l_here55 (_ : PySem.W.Frag) : Sp := fun vs H Q _ => ∃ (N : Addr) (xs : List Int), vs = [.ref N] ∧ H N = some (.lst (xs.map V.int)) ∧ xs.length ≤ 1000 ∧ ∀ (F : Addr) (H' : Hp), Same H H' → H F = none → H' F = some (.dK (nmD (once xs))) → Q (.ref F) H'
def sp_l_is_version (_ : PySem.W.Frag) : Sp := fun vs H Q _ => ∃ (T : Addr) (cs : List Ct) (x : Int), vs = [.ref T, .int x] ∧ Th0 H T cs ∧ Q (.bl (isVn cs x)) H
def sp_l_names_due (_ : PySem.W.Frag) : Sp := fun vs H Q _ => ∃ (T R N : Addr) (cs : List Ct) (hn xs : List Int), vs = [.ref T, .ref R, .ref N] ∧ Th0 H T cs ∧ H R = some (.dK (nmD hn)) ∧ H N = some (.lst (xs.map V.int)) ∧ ∀ (q : Addr) (H' : Hp), Same H H' → H q = none → H' q = some (.tup (dueV (heldDue cs hn xs))) → Q (.ref q) H'
def sp_l_version_due (_ : PySem.W.Frag) : Sp := fun vs H Q _ => ∃ (T R : Addr) (cs : List Ct) (hn : List Int) (v : V), vs = [.ref T, .ref R, v] ∧ Th0 H T cs ∧ H R = some (.dK (nmD hn)) ∧ (v = .non ∨ ∃ n, v = .int n) ∧ ∀ (q : Addr) (H' : Hp), Same H H' → H q = none → H' q = some (.tup (dueV (vDue cs hn v))) → Q (.ref q) H'
def sp_l_roots55 (_ : PySem.W.Frag) : Sp := fun vs H Q _ => ∃ (F O : Addr) (fr : List (PT × Int)) (os : List OnA), vs = [.ref F, .ref O] ∧ H F = some (.dT (frD fr)) ∧ (fr.map (·.1)).Nodup ∧ H O = some (.lst (os.map fun e => V.ref e.o)) ∧ (∀ e ∈ os, OnAt H e) ∧ fr.length + (onsK os).length ≤ 3000 ∧
  ∀ (L : Addr) (rs : List Int) (H' : Hp), Same H H' → H L = none → H' L = some (.lst (rs.map V.int)) → rs.Pairwise (· < ·) → (∀ x, x ∈ rs ↔ x ∈ fr.map (·.2) ∨ x ∈ onsK os) → Q (.ref L) H'
def sp_l_house55 (K : PySem.W.Frag) : Sp := fun vs H Q _ => ∃ (b : BkA) (cs : List Ct) (as : List Addr) (R : Addr) (ns : List Int), vs = [.ref b.B, .ref R] ∧ HsC K ∧ BkAt K H b cs as ∧ H R = some (.lst (ns.map V.int)) ∧ ns.Nodup ∧ NmOk cs ns ∧ ns.length ≤ 400 ∧
  ∀ (h : HsA) (m : Int) (H' : Hp), Same H H' → (∀ y ∈ [h.A, h.I, h.S, h.M, h.F, h.P], H y = none) → [h.A, h.I, h.S, h.M, h.F, h.P].Nodup → HsAt K H' h b.B ns m → HsE2 H' h → Q (.ref h.A) H'
theorem len_l_name55 {K : PySem.W.Frag} {vs : List V} {H : Hp} {Q : VK} {E : XK} (h : sp_l_name55 K vs H Q E) : vs.length = 2 := by obtain ⟨_, _, _, _, _, _, rfl, _⟩ := h; rfl
theorem len_l_here55 {K : PySem.W.Frag} {vs : List V} {H : Hp} {Q : VK} {E : XK} (h : sp_l_here55 K vs H Q E) : vs.length = 1 := by obtain ⟨_, _, rfl, _⟩ := h; rfl
theorem len_l_is_version {K : PySem.W.Frag} {vs : List V} {H : Hp} {Q : VK} {E : XK} (h : sp_l_is_version K vs H Q E) : vs.length = 2 := by obtain ⟨_, _, _, rfl, _⟩ := h; rfl
theorem len_l_names_due {K : PySem.W.Frag} {vs : List V} {H : Hp} {Q : VK} {E : XK} (h : sp_l_names_due K vs H Q E) : vs.length = 3 := by obtain ⟨_, _, _, _, _, _, rfl, _⟩ := h; rfl
theorem len_l_version_due {K : PySem.W.Frag} {vs : List V} {H : Hp} {Q : VK} {E : XK} (h : sp_l_version_due K vs H Q E) : vs.length = 3 := by obtain ⟨_, _, _, _, _, rfl, _⟩ := h; rfl
theorem len_l_roots55 {K : PySem.W.Frag} {vs : List V} {H : Hp} {Q : VK} {E : XK} (h : sp_l_roots55 K vs H Q E) : vs.length = 2 := by obtain ⟨_, _, _, _, rfl, _⟩ := h; rfl
theorem len_l_house55 {K : PySem.W.Frag} {vs : List V} {H : Hp} {Q : VK} {E : XK} (h : sp_l_house55 K vs H Q E) : vs.length = 2 := by obtain ⟨_, _, _, _, _, rfl, _⟩ := h; rfl
abbrev N_l_name55 : List Str := ["_law_deck_here", "_law_things", "_law_turn"]
def t_l_name55 (K : PySem.W.Frag) : TS := (tSeq (tAsg (tCall (sp_l_draw K) [] E0 (tCons (tVar 0) (tCons (tC (.int 10)) tNil))) (gName 2))
    (tSeq (tIfS (tTest (tOp rEq (tVar 2) (tC (.int 0)))) (tRet (tOp rAddI (tCB (fLen K) (tCons (tVar 1) tNil)) (tOp rMulI (tCall (sp_l_draw K) [] E0 (tCons (tVar 0) (tCons (tOp rPowI (tC (.int 10)) (tC (.int 9))) tNil))) (tCall (sp_l_draw K) [] E0 (tCons (tVar 0) (tCons (tC (.int 2)) tNil)))))) tNext)
    (tSeq (tIfS (tTest (tOp rEq (tVar 2) (tC (.int 1)))) (tRet (tOp rSubI (tUn rNegI (tC (.int 1))) (tCall (sp_l_draw K) [] E0 (tCons (tVar 0) (tCons (tOp rPowI (tC (.int 10)) (tC (.int 9))) tNil))))) tNext)
    (tRet (tCall (sp_l_draw K) [] E0 (tCons (tVar 0) (tCons (tCB (fLen K) (tCons (tVar 1) tNil)) tNil)))))))
abbrev N_l_here55 : List Str := ["_law_names", "_law_here_here", "_law_name_here"]
def t_l_here55 (K : PySem.W.Frag) : TS := (tSeq (tAsg tDNewK (gName 1))
    (tSeq (tFor (iList K (tVar 0)) (gName 2) (sDPut (tVar 1) (tVar 2) (tC (.bl true))))
    (tRet (tVar 1))))
abbrev N_l_is_version : List Str := ["_law_things", "_law_name_here"]
def t_l_is_version (K : PySem.W.Frag) : TS := (tRet (tAndV (tOp rLeI (tC (.int 0)) (tVar 1)) (tAndV (tOp rLtI (tVar 1) (tCB (fLen K) (tCons (tVar 0) tNil))) (tOp rEq (tOp (rIx K) (tOp (rIx K) (tVar 0) (tVar 1)) (tC (.int 0))) (tC (.str "version"))))))
abbrev N_l_names_due : List Str := ["_law_things", "_law_here_here", "_law_names", "_law_name_here"]
def t_l_names_due (K : PySem.W.Frag) : TS := (tSeq (tFor (iList K (tVar 2)) (gName 3) (tIfS (tOr (tTest (tOp rLtI (tVar 3) (tC (.int 0)))) (tTest (tOp rGeI (tVar 3) (tCB (fLen K) (tCons (tVar 0) tNil))))) (tRet (tTup (tCons (tC (.str "NoName")) (tCons (tVar 3) tNil)))) tNext))
    (tSeq (tFor (iList K (tVar 2)) (gName 3) (tIfS (tB (tDNotIn (tVar 3) (tVar 1))) (tRet (tTup (tCons (tC (.str "Lack")) (tCons (tVar 3) tNil)))) tNext))
    (tRet (tTup tNil))))
abbrev N_l_version_due : List Str := ["_law_things", "_law_here_here", "_law_version"]
def t_l_version_due (K : PySem.W.Frag) : TS := (tSeq (tIfS (tTest (tOp fIsN (tVar 2) (tC .non))) (tRet (tTup tNil)) tNext)
    (tSeq (tIfS (tNot (tB (tCall (sp_l_is_version K) [] E0 (tCons (tVar 0) (tCons (tVar 2) tNil))))) (tRet (tTup (tCons (tC (.str "NoName")) (tCons (tVar 2) tNil)))) tNext)
    (tSeq (tIfS (tB (tDNotIn (tVar 2) (tVar 1))) (tRet (tTup (tCons (tC (.str "Lack")) (tCons (tVar 2) tNil)))) tNext)
    (tRet (tTup tNil)))))
abbrev N_l_roots55 : List Str := ["_law_far", "_law_ons", "_law_found", "_law_key", "_law_on", "_law_name_here"]
def t_l_roots55 (K : PySem.W.Frag) : TS := (tSeq (tAsg tDNewK (gName 2))
    (tSeq (tLock (tFor (iKeys (tVar 0)) (gName 3) (sDPut (tVar 2) (tDGet (tVar 0) (tVar 3)) (tC (.bl true)))))
    (tSeq (tFor (iList K (tVar 1)) (gName 4) (tLock (tFor (iKeys (tOp (rIx K) (tVar 4) (tC (.int 0)))) (gName 5) (sDPut (tVar 2) (tVar 5) (tC (.bl true))))))
    (tRet (tCB rSortK (tCons (tVar 2) tNil))))))
abbrev N_l_house55 : List Str := ["_law_book_here", "_law_held", "_law_house_here", "_law_name_here"]
def t_l_house55 (K : PySem.W.Frag) : TS := (tSeq (tAsg (tMake (He.ga K "House") (sp_House_initF K) [] E0 (tCons (tVar 0) tNil)) (gName 2))
    (tSeq (tFor (iList K (tVar 1)) (gName 3) (tDrop (tMeth (He.ga K "House") "put" (sp_House_put K) [] E0 (tVar 2) (tCons (tVar 3) tNil))))
    (tRet (tVar 2))))
end
section
variable [HasW] {K : PySem.W.Frag} {vs : List V} {H H' : Hp} {Q : VK} {E : XK}
theorem pure_l_name55 (h : sp_l_name55 K vs H Q E) : t_l_name55 K { nx := fun _ H' => Q .non H', rt := Q } (start N_l_name55 vs) H := by
  obtain ⟨c, D, T, dn, t, cs, rfl, dk, nT, th, pos, ht, k⟩ := h
  refine ⟨_, rfl, c, D, dn, t, 10, rfl, dk, by omega, by decide, by decide, fun w H1 w0 w1 d1 fr1 => ?_⟩
  have kp1 : Kp D H H1 := .fr fr1
  have th1 := th.kp kp1 dk nT
  obtain ⟨as, hT, hcs⟩ := th1.tr
  have las : as.length = cs.length := hcs.1
  have few := th.few
  refine ⟨_, rfl, rfl, _, rfl, ?_⟩
  by_cases e0 : w = 0
  · subst e0
    refine iteT ?_
    refine ⟨_, rfl, lenL hT ?_⟩
    refine ⟨_, rfl, _, _, rfl, rfl, ⟨by decide, by decide, by decide⟩, c, D, dn, _, _, rfl, d1, by omega, by decide, by decide, fun x H2 x0 x1 d2 fr2 => ?_⟩
    refine ⟨_, rfl, c, D, dn, _, 2, rfl, d2, by omega, by decide, by decide, fun y H3 y0 y1 d3 fr3 => ?_⟩
    have y2 : y = 0 ∨ y = 1 := by omega
    have x3 : x < 1000000000 := x1
    exact ⟨_, _, rfl, rfl, (by unfold CMul; rcases y2 with rfl | rfl <;> omega), _, _, rfl, rfl, k _ H3 ((kp1.trans (.fr fr2)).trans (.fr fr3)) d3⟩
  · rw [decide_eq_false (fun z => e0 (V.int.inj z))]
    refine iteF ?_
    refine ⟨_, rfl, rfl, _, rfl, ?_⟩
    by_cases e1 : w = 1
    · subst e1
      refine iteT ?_
      refine ⟨_, rfl, _, rfl, _, _, rfl, rfl, ⟨by decide, by decide, by decide⟩, c, D, dn, _, _, rfl, d1, by omega, by decide, by decide, fun x H2 x0 x1 d2 fr2 => ?_⟩
      exact ⟨_, _, rfl, rfl, k _ H2 (kp1.trans (.fr fr2)) (d2.le (by omega))⟩
    · rw [decide_eq_false (fun z => e1 (V.int.inj z))]
      refine iteF ?_
      refine ⟨_, rfl, _, rfl, lenL hT ?_⟩
      refine ⟨c, D, dn, _, _, rfl, d1, by omega, ?_, ?_, fun x H2 x0 x1 d2 fr2 => k _ H2 (kp1.trans (.fr fr2)) (d2.le (by omega))⟩
      · rw [List.length_map, las]; omega
      · rw [List.length_map, las]; omega
theorem pure_l_here55 (h : sp_l_here55 K vs H Q E) : t_l_here55 K { nx := fun _ H' => Q .non H', rt := Q } (start N_l_here55 vs) H := by
  obtain ⟨L, ns, rfl, hL, few, k⟩ := h
  refine fun F nF => ?_
  have nLF : L ≠ F := ne_of_none hL nF
  refine ⟨_, rfl, L, rfl, ⟨_, sqL (updN nLF hL)⟩, ?_⟩
  refine for_list (K := K) (a := L) (xs := ns.map V.int) (fun i σ H' => ∃ z, σ = [some (.ref L), some (.ref F), z] ∧ H' = upd H F (.dK (nmD (once (ns.take i))))) ⟨_, rfl, rfl⟩ ?_ ?_ ?_
  · rintro i σ H' _ ⟨z, rfl, rfl⟩
    exact sqL (updN nLF hL)
  · rintro i x σ H' hx ⟨z, rfl, rfl⟩
    rw [List.getElem?_map] at hx
    cases e : ns[i]? with
    | none => rw [e] at hx; cases hx
    | some v =>
    rw [e] at hx
    cases Option.some.inj hx
    have eT : ns.take (i + 1) = ns.take i ++ [v] := by rw [List.take_succ, e]; rfl
    refine ⟨_, rfl, _, rfl, F, _, rfl, DPut.k (k := Sum.inl v) updS ?_, ?_⟩
    · rw [List.length_map]
      have := once_len (ns.take i)
      rw [List.length_take] at this
      exact Nat.lt_of_le_of_lt (show _ ≤ 1000 by omega) (by decide)
    · rw [upd_upd, nmD_insM, ← once_snoc, ← eT]
      exact ⟨_, rfl, rfl⟩
  · rintro σ H' ⟨z, rfl, rfl⟩
    rw [List.length_map, List.take_length]
    exact ⟨_, rfl, k F _ (samN nF) nF updS⟩
theorem pure_l_is_version (h : sp_l_is_version K vs H Q E) : t_l_is_version K { nx := fun _ H' => Q .non H', rt := Q } (start N_l_is_version vs) H := by
  obtain ⟨T, cs, x, rfl, th, k⟩ := h
  obtain ⟨as, hT, hcs⟩ := th.tr
  have las : as.length = cs.length := hcs.1
  refine ⟨_, rfl, _, _, rfl, rfl, _, rfl, ?_⟩
  unfold isVn at k
  by_cases h0 : (0 : Int) ≤ x
  · rw [decide_eq_true h0] at k ⊢
    refine iteT ⟨_, rfl, _, rfl, lenL hT ⟨_, _, rfl, rfl, _, rfl, ?_⟩⟩
    rw [List.length_map, las]
    by_cases h1 : x < (cs.length : Nat)
    · rw [decide_eq_true h1] at k ⊢
      obtain ⟨j, rfl⟩ := Int.eq_ofNat_of_zero_le h0
      have hj : j < cs.length := by omega
      have hc : cs[j]? = some cs[j] := List.getElem?_eq_getElem hj
      obtain ⟨a, ha, hca⟩ := hcs.get hc
      refine iteT ⟨_, rfl, _, rfl, ixL hT (atI_nat (by rw [List.getElem?_map, ha]; rfl)) (CtAt.fst hca ⟨rfl, ?_⟩)⟩
      rw [isV_at hc] at k
      rw [show decide (V.str cs[j].word = V.str "version") = decide (cs[j].word = "version") from decide_eq_decide.mpr ⟨fun h => V.str.inj h, fun h => by rw [h]⟩]
      exact k
    · rw [decide_eq_false h1] at k ⊢
      exact iteF k
  · rw [decide_eq_false h0] at k ⊢
    exact iteF k
theorem pure_l_names_due (h : sp_l_names_due K vs H Q E) : t_l_names_due K { nx := fun _ H' => Q .non H', rt := Q } (start N_l_names_due vs) H := by
  obtain ⟨T, R, N, cs, hn, xs, rfl, th, hR, hN, k⟩ := h
  obtain ⟨as, hT, hcs⟩ := th.tr
  have las : as.length = cs.length := hcs.1
  refine ⟨_, rfl, N, rfl, ⟨_, sqL hN⟩, ?_⟩
  refine for_it (walk_list (K := K) (a := N) (xs := xs.map V.int)) (fun i σ H' => H' = H ∧ (∀ y ∈ xs.take i, goodN cs y = true) ∧ ∃ z, σ = [some (.ref T), some (.ref R), some (.ref N), z]) ⟨rfl, fun y hy => by rw [List.take_zero] at hy; exact absurd hy (by simp), _, rfl⟩ (fun i σ H' _ e => sqL (by rw [e.1]; exact hN)) ?_ ?_
  · rintro i y σ H2 H3 hi ⟨rfl, gd, z, rfl⟩ ⟨rfl, hy⟩
    rw [List.getElem?_map] at hy
    cases e : xs[i]? with
    | none => rw [e] at hy; cases hy
    | some v =>
    rw [e] at hy
    cases Option.some.inj hy
    have eT : xs.take (i + 1) = xs.take i ++ [v] := by rw [List.take_succ, e]; rfl
    have tell : goodN cs v = false → (tRet (tTup (tCons (tC (.str "NoName")) (tCons (tVar 3) tNil)))) { nx := (fun i σ H' => H' = H3 ∧ (∀ y ∈ xs.take i, goodN cs y = true) ∧ ∃ z, σ = [some (.ref T), some (.ref R), some (.ref N), z]) (i + 1), rt := Q, ct := (fun i σ H' => H' = H3 ∧ (∀ y ∈ xs.take i, goodN cs y = true) ∧ ∃ z, σ = [some (.ref T), some (.ref R), some (.ref N), z]) (i + 1), bk := fun σ H' => False } [some (.ref T), some (.ref R), some (.ref N), some (.int v)] H3 := by
      intro hg
      refine ⟨_, rfl, by show (2 : Nat) ≤ sizeLine; decide, fun q nq => k q _ (samN nq) nq ?_⟩
      rw [updS]
      unfold heldDue
      rw [find_at e (fun y hy => by rw [gd y hy]; rfl) (by rw [hg]; rfl)]
      rfl
    refine ⟨_, rfl, _, _, rfl, rfl, _, rfl, ?_⟩
    by_cases h0 : v < 0
    · rw [decide_eq_true h0]
      refine iteT (iteT ?_)
      exact tell (by unfold goodN; rw [decide_eq_false (by omega)]; rfl)
    · rw [decide_eq_false h0]
      refine iteF ⟨_, rfl, _, rfl, lenL hT ⟨_, _, rfl, rfl, _, rfl, ?_⟩⟩
      rw [List.length_map, las]
      by_cases h1 : v < (cs.length : Nat)
      · rw [decide_eq_false (by omega)]
        refine iteF ⟨rfl, fun y hy => ?_, _, rfl⟩
        rw [eT] at hy
        rcases List.mem_append.mp hy with hy | hy
        · exact gd y hy
        · rw [List.mem_singleton.mp hy]
          unfold goodN
          rw [decide_eq_true (by omega), decide_eq_true h1]
          rfl
      · rw [decide_eq_true (by omega)]
        refine iteT ?_
        exact tell (by unfold goodN; rw [decide_eq_false h1, Bool.and_false])
  · rintro σ H2 ⟨rfl, gd, z, rfl⟩
    rw [List.length_map, List.take_length] at gd
    have fg : xs.find? (fun x => !goodN cs x) = none := find_no fun y hy => by rw [gd y hy]; rfl
    refine ⟨_, rfl, N, rfl, ⟨_, sqL hN⟩, ?_⟩
    refine for_it (walk_list (K := K) (a := N) (xs := xs.map V.int)) (fun i σ H' => H' = H2 ∧ (∀ y ∈ xs.take i, y ∈ hn) ∧ ∃ z, σ = [some (.ref T), some (.ref R), some (.ref N), z]) ⟨rfl, fun y hy => by rw [List.take_zero] at hy; exact absurd hy (by simp), _, rfl⟩ (fun i σ H' _ e => sqL (by rw [e.1]; exact hN)) ?_ ?_
    · rintro i y σ H3 H4 hi ⟨rfl, gd2, z, rfl⟩ ⟨rfl, hy⟩
      rw [List.getElem?_map] at hy
      cases e : xs[i]? with
      | none => rw [e] at hy; cases hy
      | some v =>
      rw [e] at hy
      cases Option.some.inj hy
      have eT : xs.take (i + 1) = xs.take i ++ [v] := by rw [List.take_succ, e]; rfl
      refine ⟨_, rfl, _, rfl, R, _, rfl, DGet.k (k := Sum.inl v) hR, _, rfl, ?_⟩
      rw [nmD_some]
      by_cases hv : v ∈ hn
      · rw [decide_eq_true hv]
        refine iteF ⟨rfl, fun y hy => ?_, _, rfl⟩
        rw [eT] at hy
        rcases List.mem_append.mp hy with hy | hy
        · exact gd2 y hy
        · rw [List.mem_singleton.mp hy]; exact hv
      · rw [decide_eq_false hv]
        refine iteT ⟨_, rfl, by show (2 : Nat) ≤ sizeLine; decide, fun q nq => k q _ (samN nq) nq ?_⟩
        rw [updS]
        unfold heldDue
        rw [fg, find_at e (fun y hy => by rw [decide_eq_true (gd2 y hy)]; rfl) (by rw [decide_eq_false hv]; rfl)]
        rfl
    · rintro σ H3 ⟨rfl, gd2, z, rfl⟩
      rw [List.length_map, List.take_length] at gd2
      refine ⟨by show (0 : Nat) ≤ sizeLine; decide, fun q nq => k q _ (samN nq) nq ?_⟩
      rw [updS]
      unfold heldDue
      rw [fg, find_no fun y hy => by rw [decide_eq_true (gd2 y hy)]; rfl]
      rfl
theorem pure_l_version_due (h : sp_l_version_due K vs H Q E) : t_l_version_due K { nx := fun _ H' => Q .non H', rt := Q } (start N_l_version_due vs) H := by
  obtain ⟨T, R, cs, hn, v, rfl, th, hR, hv, k⟩ := h
  rcases hv with rfl | ⟨n, rfl⟩
  · exact ⟨_, rfl, rfl, _, rfl, iteT ⟨by show (0 : Nat) ≤ sizeLine; decide, fun q nq => k q _ (samN nq) nq updS⟩⟩
  · refine ⟨_, rfl, rfl, _, rfl, iteF ?_⟩
    refine ⟨_, rfl, _, rfl, T, cs, n, rfl, th, _, rfl, ?_⟩
    have kd : vDue cs hn (.int n) = verDue cs hn n := rfl
    unfold verDue at kd
    rw [kd] at k
    cases h1 : isVn cs n with
    | false =>
      rw [h1] at k
      refine iteT ⟨_, rfl, by show (2 : Nat) ≤ sizeLine; decide, fun q nq => k q _ (samN nq) nq updS⟩
    | true =>
      rw [h1, if_pos rfl] at k
      refine iteF ⟨_, rfl, _, rfl, R, _, rfl, DGet.k (k := Sum.inl n) hR, _, rfl, ?_⟩
      rw [nmD_some]
      by_cases hm : n ∈ hn
      · rw [if_pos hm] at k
        rw [decide_eq_true hm]
        exact iteF ⟨by show (0 : Nat) ≤ sizeLine; decide, fun q nq => k q _ (samN nq) nq updS⟩
      · rw [if_neg hm] at k
        rw [decide_eq_false hm]
        exact iteT ⟨_, rfl, by show (2 : Nat) ≤ sizeLine; decide, fun q nq => k q _ (samN nq) nq updS⟩
theorem pure_l_roots55 (h : sp_l_roots55 K vs H Q E) : t_l_roots55 K { nx := fun _ H' => Q .non H', rt := Q } (start N_l_roots55 vs) H := by
  obtain ⟨F, O, fr, os, rfl, hF, nd, hO, on, few, k⟩ := h
  refine fun G nG => ?_
  have sG : Same H (upd H G (.dK [])) := samN nG
  have hG : upd H G (.dK []) G = some (.dK (nmD [])) := updS
  generalize upd H G (.dK []) = H1 at sG hG ⊢
  have nFG : F ≠ G := ne_of_none hF nG
  have nOG : O ≠ G := ne_of_none hO nG
  have hF1 := sG _ _ hF
  refine ⟨F, .dT (frD fr), hF1, trivial, fun od => ?_⟩
  have e1 : upd H1 F (.frz od (.dT (frD fr))) F = some (.frz od (.dT (frD fr))) := updS
  have g1 : upd H1 F (.frz od (.dT (frD fr))) G = some (.dK (nmD [])) := updN nFG.symm hG
  generalize eH : upd H1 F (.frz od (.dT (frD fr))) = H2 at e1 g1 ⊢
  refine ⟨_, rfl, F, od, rfl, .inr ⟨frD fr, e1, ?_⟩⟩
  refine for_it walk_keysT (fun i σ H' => Kf [G] H2 H' ∧ H' G = some (.dK (nmD (once ((fr.take i).map (·.2))))) ∧ ∃ z, σ = [some (.ref F), some (.ref O), some (.ref G), z, none, none]) ⟨.refl, by rw [List.take_zero]; exact g1, _, rfl⟩ (fun i σ H' _ p => p.1 _ _ e1 (by simpa using nFG)) ?_ ?_
  · rintro i x σ H3 H4 hi ⟨kf, hG3, z, rfl⟩ ⟨rfl, key, val, q, hx, rfl, hq⟩
    unfold frD at hi hx
    rw [List.length_map] at hi
    have ei : fr[i]? = some fr[i] := List.getElem?_eq_getElem hi
    rw [List.getElem?_map, ei] at hx
    cases Option.some.inj hx
    have eT : fr.take (i + 1) = fr.take i ++ [fr[i]] := by rw [List.take_succ, ei]; rfl
    have lo := once_len ((fr.take i).map (·.2))
    rw [List.length_map, List.length_take] at lo
    have g : DGet H4 F (.ref q) (valV (frD fr) (pK fr[i].1)) := .inr ⟨_, _, q, .inr ⟨od, kf _ _ e1 (by simpa using nFG)⟩, rfl, hq, rfl⟩
    rw [frD_val, frG_mem (p := fr[i].1) (v := fr[i].2) nd (List.getElem_mem hi)] at g
    refine ⟨_, rfl, _, rfl, _, rfl, F, .int fr[i].2, rfl, g, G, _, rfl, DPut.k (k := Sum.inl fr[i].2) hG3 ?_, ?_⟩
    · rw [List.length_map]
      exact Nat.lt_of_le_of_lt (show _ ≤ 3000 by omega) (by decide)
    · refine ⟨kf.up (by simp), ?_, _, rfl⟩
      rw [updS, nmD_insM, ← once_snoc, eT, List.map_append]
      rfl
  · rintro σ H3 ⟨kf, hG3, z, rfl⟩
    unfold frD at hG3
    rw [List.length_map, List.take_length] at hG3
    refine ⟨kf _ _ e1 (by simpa using nFG), ?_⟩
    rw [← eH] at kf
    have kf4 := unlockK hF1 kf
    have hG4 : upd H3 F (.dT (frD fr)) G = some (.dK (nmD (once (fr.map (·.2))))) := updN nFG.symm hG3
    generalize upd H3 F (.dT (frD fr)) = H4 at kf4 hG4 ⊢
    have n1 : ∀ {y : Addr} {o : HO}, H y = some o → H4 y = some o := fun {y o} e => kf4 _ _ (sG _ _ e) (by simpa using ne_of_none e nG)
    refine ⟨_, rfl, O, rfl, ⟨_, sqL (n1 hO)⟩, ?_⟩
    refine for_it (walk_list (K := K) (a := O) (xs := os.map fun e => V.ref e.o)) (fun i σ H' => Kf [G] H4 H' ∧ H' G = some (.dK (nmD (once (fr.map (·.2) ++ onsK (os.take i))))) ∧ ∃ z3 z4 z5, σ = [some (.ref F), some (.ref O), some (.ref G), z3, z4, z5]) ⟨.refl, by rw [List.take_zero]; show H4 G = some (.dK (nmD (once (fr.map (·.2) ++ [])))); rw [List.append_nil]; exact hG4, _, _, _, rfl⟩ (fun i σ H' _ p => sqL (p.1 _ _ (n1 hO) (by simpa using nOG))) ?_ ?_
    · rintro i x σ H5 H6 hi ⟨kf5, hG5, z3, z4, z5, rfl⟩ ⟨rfl, hx⟩
      rw [List.length_map] at hi
      have ei : os[i]? = some os[i] := List.getElem?_eq_getElem hi
      rw [List.getElem?_map, ei] at hx
      cases Option.some.inj hx
      have eT : os.take (i + 1) = os.take i ++ [os[i]] := by rw [List.take_succ, ei]; rfl
      have oa := on _ (List.getElem_mem hi)
      have no : os[i].o ≠ G := ne_of_none oa.ho nG
      have nd2 : os[i].d ≠ G := ne_of_none oa.hd nG
      have ho := kf5 _ _ (n1 oa.ho) (by simpa using no)
      have hd := kf5 _ _ (n1 oa.hd) (by simpa using nd2)
      have nod : os[i].o ≠ os[i].d := ne_of ho hd fun z => by cases z
      have lo : (onsK (os.take i)).length + os[i].ks.length ≤ (onsK os).length := by
        have h1 : onsK os = onsK (os.take (i + 1)) ++ onsK (os.drop (i + 1)) := by
          unfold onsK
          rw [← List.flatMap_append, List.take_append_drop]
        rw [h1, eT, onsK_snoc, List.length_append, List.length_append]
        omega
      refine ⟨os[i].d, _, hd, trivial, fun od2 => ?_⟩
      have e2 : upd H6 os[i].d (.frz od2 (.dK (nmD os[i].ks))) os[i].d = some (.frz od2 (.dK (nmD os[i].ks))) := updS
      have g2 : upd H6 os[i].d (.frz od2 (.dK (nmD os[i].ks))) G = some (.dK (nmD (once (fr.map (·.2) ++ onsK (os.take i))))) := updN nd2.symm hG5
      have o2 : upd H6 os[i].d (.frz od2 (.dK (nmD os[i].ks))) os[i].o = some (.lst [.ref os[i].d, .bl (!os[i].off)]) := updN nod ho
      generalize eH2 : upd H6 os[i].d (.frz od2 (.dK (nmD os[i].ks))) = H7 at e2 g2 o2 ⊢
      refine ⟨_, rfl, ixL (i := 0) o2 (atI_nat (j := 0) rfl) ⟨os[i].d, od2, rfl, .inl ⟨nmD os[i].ks, e2, ?_⟩⟩⟩
      refine for_it walk_keys (fun j σ H' => Kf [G] H7 H' ∧ H' G = some (.dK (nmD (once (fr.map (·.2) ++ onsK (os.take i) ++ os[i].ks.take j)))) ∧ ∃ z3 z4 z5, σ = [some (.ref F), some (.ref O), some (.ref G), z3, z4, z5]) ⟨.refl, by rw [List.take_zero, List.append_nil]; exact g2, _, _, _, rfl⟩ (fun j σ H' _ p => p.1 _ _ e2 (by simpa using nd2)) ?_ ?_
      · rintro j x σ H8 H9 hj ⟨kf8, hG8, z3, z4, z5, rfl⟩ ⟨rfl, key, val, hx, rfl⟩
        unfold nmD at hj hx
        rw [List.length_map] at hj
        have ej : os[i].ks[j]? = some os[i].ks[j] := List.getElem?_eq_getElem hj
        rw [List.getElem?_map, ej] at hx
        cases Option.some.inj hx
        have eT2 : os[i].ks.take (j + 1) = os[i].ks.take j ++ [os[i].ks[j]] := by rw [List.take_succ, ej]; rfl
        have l2 := once_len (fr.map (·.2) ++ onsK (os.take i) ++ os[i].ks.take j)
        rw [List.length_append, List.length_append, List.length_map, List.length_take] at l2
        refine ⟨_, rfl, _, rfl, G, _, rfl, DPut.k (k := Sum.inl os[i].ks[j]) hG8 ?_, ?_⟩
        · rw [List.length_map]
          exact Nat.lt_of_le_of_lt (show _ ≤ 3000 by omega) (by decide)
        · refine ⟨kf8.up (by simp), ?_, _, _, _, rfl⟩
          rw [updS, nmD_insM, ← once_snoc, eT2, List.append_assoc]
      · rintro σ H8 ⟨kf8, hG8, z3, z4, z5, rfl⟩
        unfold nmD at hG8
        rw [List.length_map, List.take_length] at hG8
        refine ⟨kf8 _ _ e2 (by simpa using nd2), ?_⟩
        rw [← eH2] at kf8
        refine ⟨kf5.trans (unlockK hd kf8), ?_, _, _, _, rfl⟩
        rw [eT, onsK_snoc, ← List.append_assoc]
        exact updN nd2.symm hG8
    · rintro σ H5 ⟨kf5, hG5, z3, z4, z5, rfl⟩
      rw [List.length_map, List.take_length] at hG5
      obtain ⟨ndo, memo⟩ := once_ok (fr.map (·.2) ++ onsK os)
      refine ⟨_, rfl, G, _, _, rfl, hG5, nmD_keys _, fun ns' L pm inc np => ?_⟩
      have s5 : Same H H5 := fun a o e => kf5 _ _ (n1 e) (by simpa using ne_of_none e nG)
      refine k L ns' _ (s5.trans (samN np)) ?_ updS (perm_lt pm inc ndo) fun x => ?_
      · cases z : H L with
        | none => rfl
        | some o => rw [s5 _ _ z] at np; cases np
      · rw [pm.mem_iff, memo, List.mem_append]
theorem mk_houseF {Qa : Addr → Hp → Prop} {B : Addr} (sc : HsC K) (k : ∀ (h : HsA) (H' : Hp), Same H H' → (∀ y ∈ [h.A, h.I, h.S, h.M, h.F, h.P], H y = none) → [h.A, h.I, h.S, h.M, h.F, h.P].Nodup → HsAt K H' h B [] 0 → HsE2 H' h → Qa h.A H') :
    ∀ x dx, H x = none → H dx = none → dx ≠ x → sp_House_initF K (.ref x :: ([.ref B] ++ [])) (upd (upd H dx (.own x)) x (.ins (He.ga K "House") dx [])) (fun v H2 => v = .non ∧ Qa x H2) E0 := by
  intro x dx nx ndx ne
  have s2 : Same H (upd (upd H dx (.own x)) x (.ins (He.ga K "House") dx [])) := fun b o e => updN (ne_of_none e nx) (updN (ne_of_none e ndx) e)
  refine ⟨x, dx, B, rfl, sc, updS, fun h H' eA kp fr nd hs he => ⟨rfl, ?_⟩⟩
  subst eA
  refine k h H' (fun a o e => kp a o (s2 a o e) (ne_of_none e nx)) (fun y hy => ?_) nd hs he
  rcases List.mem_cons.mp hy with rfl | hy
  · exact nx
  · have := fr y hy
    cases q : H y with
    | none => rfl
    | some o => rw [s2 _ _ q] at this; cases this
theorem HsE2.kf {F : List Addr} {h : HsA} (e : HsE2 H h) (kf : Kf F H H') (n : ∀ y ∈ [h.S, h.M, h.F, h.P], y ∉ F) : HsE2 H' h :=
  ⟨kf _ _ e.1 (n _ (by simp)), kf _ _ e.2.1 (n _ (by simp)), kf _ _ e.2.2.1 (n _ (by simp)), kf _ _ e.2.2.2 (n _ (by simp))⟩
theorem pure_l_house55 (h : sp_l_house55 K vs H Q E) : t_l_house55 K { nx := fun _ H' => Q .non H', rt := Q } (start N_l_house55 vs) H := by
  obtain ⟨b, cs, as, R, ns, rfl, hc, bk, hR, nd, nm, few, k⟩ := h
  refine ⟨_, rfl, mk_houseF hc fun h H1 s1 fr ndh hs he => ?_⟩
  refine ⟨_, rfl, R, rfl, ⟨_, sqL (s1 _ _ hR)⟩, ?_⟩
  have keep : ∀ {H2 : Hp}, Kf [h.A, h.I] H1 H2 → Same H H2 := fun kf a o e => kf _ _ (s1 _ _ e) fun z => by
    simp only [List.mem_cons, List.not_mem_nil, or_false] at z
    rcases z with rfl | rfl
    · rw [fr _ (by simp)] at e; cases e
    · rw [fr _ (by simp)] at e; cases e
  refine for_it (walk_list (K := K) (a := R) (xs := ns.map V.int)) (fun i σ H' => Kf [h.A, h.I] H1 H' ∧ (∃ m, HsAt K H' h b.B (ns.take i) m) ∧ ∃ z, σ = [some (.ref b.B), some (.ref R), some (.ref h.A), z]) ⟨.refl, ⟨0, hs⟩, _, rfl⟩ (fun i σ H' _ e => sqL (keep e.1 _ _ hR)) ?_ ?_
  · rintro i x σ H2 H3 hi ⟨kf, ⟨m, hs2⟩, z, rfl⟩ ⟨rfl, hx⟩
    rw [List.length_map] at hi
    have hv : ns[i]? = some ns[i] := List.getElem?_eq_getElem hi
    rw [List.getElem?_map, hv] at hx
    cases Option.some.inj hx
    have eT : ns.take (i + 1) = ns.take i ++ [ns[i]] := by rw [List.take_succ, hv]; rfl
    have nin : ns[i] ∉ ns.take i := fun hm => by
      obtain ⟨j, hj⟩ := List.mem_iff_getElem?.mp hm
      have hl := (List.getElem?_eq_some_iff.mp hj).1
      rw [List.length_take] at hl
      rw [List.getElem?_take_of_lt (by omega)] at hj
      exact absurd ((List.getElem?_inj (List.getElem?_eq_some_iff.mp hj).1 nd).mp (hj.trans hv.symm)) (by omega)
    have bk2 := bk.same (keep kf)
    have nn := nm _ (List.getElem_mem hi)
    refine hs2.me (fun _ => rfl) rfl ⟨_, rfl, h, b, cs, as, ns.take i, m, ns[i], rfl, hs2, bk2, nn.1, by omega, fun _ => by rw [List.length_take]; omega, fun hm => absurd hm nin, fun _ H4 kf2 hs4 => ⟨kf.trans kf2, ⟨m + 1, by rw [eT]; exact hs4⟩, _, rfl⟩⟩
  · rintro σ H2 ⟨kf, ⟨m, hs2⟩, z, rfl⟩
    rw [List.length_map, List.take_length] at hs2
    refine ⟨_, rfl, k h m H2 (keep kf) fr ndh hs2 (he.kf kf ?_)⟩
    intro y hy hz
    simp only [List.nodup_cons, List.mem_cons, List.not_mem_nil, or_false, not_or] at ndh hy hz
    obtain ⟨⟨a1, a2, a3, a4, a5⟩, ⟨b1, b2, b3, b4⟩, _⟩ := ndh
    rcases hz with rfl | rfl <;> rcases hy with z | z | z | z <;> first | exact a2 z | exact a3 z | exact a4 z | exact a5 z | exact b1 z | exact b2 z | exact b3 z | exact b4 z
end
end Fw
set_option Elab.async false
set_option linter.all false
set_option maxRecDepth 100000
set_option maxHeartbeats 1000000
namespace Fw
open PySem L2 RZ RT
/-- what is asked of the class LetGo -/
structure LgE (K : PySem.W.Frag) : Prop where
  ec : ExcC K (He.ga K "LetGo")
  e1 : PySem.W.exmOne K (.ref (He.ga K "LetGo")) (.ref (He.ga K "NoName")) = some false
  e2 : PySem.W.exmOne K (.ref (He.ga K "LetGo")) (.ref (He.ga K "Lack")) = some false
  e3 : PySem.W.exmOne K (.ref (He.ga K "LetGo")) (.ref (He.ga K "HouseError")) = some true
  kx : PySem.W.kitOne K (.ref (He.ga K "LetGo")) (.ref (He.ga K "LetGo")) = some true
  kv : PySem.W.kitOne K (.ref (He.ga K "LetGo")) (.type "ValueError") = some true
def frV (fr : List (PT × Int)) (p : PT) : V → List (PT × Int)
  | .int n => frP fr p n
  | _ => frX fr p
theorem heldDue_two {cs : List Ct} {ns xs : List Int} {X : Str} {y : Int} (h : heldDue cs ns xs = some (X, y)) : X = "NoName" ∨ X = "Lack" := by
  unfold heldDue at h
  split at h
  · exact .inl (Prod.mk.inj (Option.some.inj h)).1.symm
  · obtain ⟨z, _, e⟩ := Option.map_eq_some_iff.mp h
    exact .inr (Prod.mk.inj e).1.symm
theorem verDue_two {cs : List Ct} {ns : List Int} {x : Int} {X : Str} {y : Int} (h : verDue cs ns x = some (X, y)) : X = "NoName" ∨ X = "Lack" := by
  unfold verDue at h
  split at h
  · split at h
    · cases h
    · exact .inr (Prod.mk.inj (Option.some.inj h)).1.symm
  · exact .inl (Prod.mk.inj (Option.some.inj h)).1.symm
section
variable [HasW]
def sp_l_pinned (K : PySem.W.Frag) : Sp := fun vs H Q _ => ∃ (h : HsA) (b : BkA) (cs : List Ct) (as : List Addr) (ns xs : List Int) (m : Int) (N Lp : Addr) (ps : Pns) (qs : List Addr), vs = [.ref h.A, .ref Lp, .ref N] ∧ PnC K ∧ ErN K ∧ HsAt K H h b.B ns m ∧ BkAt K H b cs as ∧ H N = some (.tup (xs.map V.int)) ∧ xs.length ≤ 400 ∧
  H h.P = some (.lst (ps.map fun p => V.ref p.1.A)) ∧ (∀ p ∈ ps, PnAt K H p.1 h.A p.2.1 p.2.2) ∧ ps.length ≤ 1000 ∧ H Lp = some (.lst (qs.map V.ref)) ∧ qs.length ≤ 1000 ∧
  (heldDue cs ns xs = none → ∀ (p : PnA) (P q : Addr) (H' : Hp), Kf [h.A, Lp] H H' → H p.A = none → H p.I = none → H P = none → P ≠ p.A → P ≠ p.I → HsAt K H' { h with P := P } b.B ns m → H' P = some (.lst ((ps.filter fun p => !p.2.2).map (fun p => V.ref p.1.A) ++ [.ref p.A])) → PnAt K H' p h.A (once xs) false → H' Lp = some (.lst ((qs ++ [p.A]).map V.ref)) → H' q = some (.tup (dueV none)) → Q (.ref q) H') ∧
  ∀ e, heldDue cs ns xs = some e → ∀ (q : Addr) (H' : Hp), Same H H' → H' q = some (.tup (dueV (some e))) → Q (.ref q) H'
def sp_l_added (K : PySem.W.Frag) : Sp := fun vs H Q _ => ∃ (p : PnA) (h : HsA) (b : BkA) (cs : List Ct) (as : List Addr) (ns ks : List Int) (m n : Int) (off : Bool), vs = [.ref p.A, .int n] ∧ ErN K ∧ LgE K ∧ PnAt K H p h.A ks off ∧ HsAt K H h b.B ns m ∧ BkAt K H b cs as ∧ ks.length < 400 ∧
  (off = true → ∀ (q : Addr) (H' : Hp), Same H H' → H' q = some (.tup [.str "LetGo"]) → Q (.ref q) H') ∧
  (off = false → heldDue cs ns [n] = none → ∀ (q : Addr) (H' : Hp), Kf [p.I] H H' → H' q = some (.tup (dueV none)) → PnAt K H' p h.A (insM ks n) false → Q (.ref q) H') ∧
  (off = false → ∀ e, heldDue cs ns [n] = some e → ∀ (q : Addr) (H' : Hp), Same H H' → H' q = some (.tup (dueV (some e))) → Q (.ref q) H')
def sp_l_far_set (K : PySem.W.Frag) : Sp := fun vs H Q _ => ∃ (h : HsA) (b : BkA) (cs : List Ct) (as : List Addr) (ns : List Int) (m : Int) (l k : Str) (v : V) (fr : List (PT × Int)), vs = [.ref h.A, .str l, .str k, v] ∧ ErN K ∧ HsAt K H h b.B ns m ∧ BkAt K H b cs as ∧ H h.F = some (.dT (frD fr)) ∧ fr.length ≤ 1000 ∧ (v = .non ∨ ∃ n, v = .int n) ∧
  (vDue cs ns v = none → ∀ (q : Addr) (H' : Hp), Kf [h.F] H H' → H' q = some (.tup (dueV none)) → H' h.F = some (.dT (frD (frV fr (l, k) v))) → Q (.ref q) H') ∧
  ∀ e, vDue cs ns v = some e → ∀ (q : Addr) (H' : Hp), Same H H' → H' q = some (.tup (dueV (some e))) → Q (.ref q) H'
theorem len_l_pinned {K : PySem.W.Frag} {vs : List V} {H : Hp} {Q : VK} {E : XK} (h : sp_l_pinned K vs H Q E) : vs.length = 3 := by obtain ⟨_, _, _, _, _, _, _, _, _, _, _, rfl, _⟩ := h; rfl
theorem len_l_added {K : PySem.W.Frag} {vs : List V} {H : Hp} {Q : VK} {E : XK} (h : sp_l_added K vs H Q E) : vs.length = 2 := by obtain ⟨_, _, _, _, _, _, _, _, _, _, rfl, _⟩ := h; rfl
theorem len_l_far_set {K : PySem.W.Frag} {vs : List V} {H : Hp} {Q : VK} {E : XK} (h : sp_l_far_set K vs H Q E) : vs.length = 4 := by obtain ⟨_, _, _, _, _, _, _, _, _, _, rfl, _⟩ := h; rfl
abbrev N_l_pinned : List Str := ["_law_house_here", "_law_pins", "_law_names", "_law_told", "e"]
def t_l_pinned (K : PySem.W.Frag) : TS := (tSeq (tAsg (tTup tNil) (gName 3))
    (tSeq (tTryL K [(.ref (He.ga K "NoName"), some 4, (fun xa xcls xd => (tAsg (tTup (tCons (tC (.str "NoName")) (tCons (tXfU K xa xcls xd "name" (tVar 4)) tNil))) (gName 3)))), (.ref (He.ga K "Lack"), some 4, (fun xa xcls xd => (tAsg (tTup (tCons (tC (.str "Lack")) (tCons (tXfU K xa xcls xd "name" (tVar 4)) tNil))) (gName 3))))] (fun W => (tDrop (tBM K "list" rAppend (tVar 1) (tCons (tMethX (He.ga K "House") "pin" (sp_House_pin K) (WE W) (tVar 0) (tCons (tVar 2) tNil)) tNil)))))
    (tRet (tVar 3))))
abbrev N_l_added : List Str := ["_law_one", "_law_name_here", "_law_told", "e"]
def t_l_added (K : PySem.W.Frag) : TS := (tSeq (tAsg (tTup tNil) (gName 2))
    (tSeq (tTryL K [(.ref (He.ga K "NoName"), some 3, (fun xa xcls xd => (tAsg (tTup (tCons (tC (.str "NoName")) (tCons (tXfU K xa xcls xd "name" (tVar 3)) tNil))) (gName 2)))), (.ref (He.ga K "Lack"), some 3, (fun xa xcls xd => (tAsg (tTup (tCons (tC (.str "Lack")) (tCons (tXfU K xa xcls xd "name" (tVar 3)) tNil))) (gName 2)))), (.ref (He.ga K "HouseError"), some 3, (fun xa xcls xd => (tSeq (tAsg (tTup (tCons (tC (.str "other")) tNil)) (gName 2))
    (tIfS (tAnd (tB (tCB (rIsU K xa xcls xd) (tCons (tVar 3) (tCons (tC (.ref (He.ga K "LetGo"))) tNil)))) (tB (tCB (rIsU K xa xcls xd) (tCons (tVar 3) (tCons (tC (.ty "ValueError")) tNil))))) (tAsg (tTup (tCons (tC (.str "LetGo")) tNil)) (gName 2)) tNext))))] (fun W => (tDrop (tMethX (He.ga K "Pin") "add" (sp_Pin_add K) (WE W) (tVar 0) (tCons (tVar 1) tNil)))))
    (tRet (tVar 2))))
abbrev N_l_far_set : List Str := ["_law_house_here", "_law_label_here", "_law_mark", "_law_version", "_law_told", "e"]
def t_l_far_set (K : PySem.W.Frag) : TS := (tSeq (tAsg (tTup tNil) (gName 4))
    (tSeq (tTryL K [(.ref (He.ga K "NoName"), some 5, (fun xa xcls xd => (tAsg (tTup (tCons (tC (.str "NoName")) (tCons (tXfU K xa xcls xd "name" (tVar 5)) tNil))) (gName 4)))), (.ref (He.ga K "Lack"), some 5, (fun xa xcls xd => (tAsg (tTup (tCons (tC (.str "Lack")) (tCons (tXfU K xa xcls xd "name" (tVar 5)) tNil))) (gName 4))))] (fun W => (tDrop (tMethX (He.ga K "House") "set_far" (sp_House_set_far K) (WE W) (tVar 0) (tCons (tVar 1) (tCons (tVar 2) (tCons (tVar 3) tNil)))))))
    (tRet (tVar 4))))
end
section
variable [HasW] {K : PySem.W.Frag} {vs : List V} {H H' : Hp} {Q : VK} {E : XK}
theorem pure_l_pinned (h : sp_l_pinned K vs H Q E) : t_l_pinned K { nx := fun _ H' => Q .non H', rt := Q } (start N_l_pinned vs) H := by
  obtain ⟨h, b, cs, as, ns, xs, m, N, Lp, ps, qs, rfl, pc, er, st, bk, hN, few, hP, pn, fps, hL, fqs, k1, k2⟩ := h
  refine ⟨by show (0 : Nat) ≤ sizeLine; decide, fun T nT => ?_⟩
  have sT : Same H (upd H T (.tup [])) := samN nT
  have hT : upd H T (.tup []) T = some (.tup []) := updS
  dsimp only [tNil] at nT ⊢
  generalize upd H T (.tup []) = H1 at sT hT ⊢
  have st1 := st.same sT
  obtain ⟨dx, hA⟩ := st1.ho
  have hL1 := sT _ _ hL
  have nLA : Lp ≠ h.A := ne_of hL1 hA fun z => by cases z
  have nLI : Lp ≠ h.I := ne_of hL1 st1.hI fun z => by cases z
  have old : ∀ {y : Addr}, H1 y = none → H y = none := fun {y} e => by
    cases z : H y with
    | none => rfl
    | some o => rw [sT _ _ z] at e; cases e
  refine ⟨_, rfl, .inl ⟨rfl, _, sqL hL1⟩, ?_⟩
  refine ⟨_, rfl, h.A, dx, _, rfl, hA, by rfl, _, rfl, h, b, cs, as, ns, xs, m, N, ps, rfl, pc, er, st1, bk.same sT, .inr (sT _ _ hN), few, sT _ _ hP, fun p hp => (pn p hp).same sT, fps, fun ok p P H2 kf nA nI nP ne1 ne2 st2 hP2 pa => ?_, fun X y e d H2 s2 nd hd => ?_⟩
  · have hL2 := kf _ _ hL1 (by simpa using nLA)
    have nAL : p.A ≠ Lp := (ne_of_none hL1 nA).symm
    have nIL : p.I ≠ Lp := (ne_of_none hL1 nI).symm
    have nPL : P ≠ Lp := (ne_of_none hL1 nP).symm
    refine ⟨Lp, _, _, rfl, rfl, hL2, by rw [List.length_map]; exact Nat.lt_of_le_of_lt fqs (by decide), ?_⟩
    have nTL : T ≠ Lp := ne_of hT hL1 fun z => by cases z
    have nTA : T ≠ h.A := ne_of hT hA fun z => by cases z
    have kf2 : Kf [h.A, Lp] H (upd H2 Lp (.lst (qs.map V.ref ++ [.ref p.A]))) := ((Kf.same sT).trans (kf.sub (by simp))).up (by simp)
    have kl : Kf [Lp] H2 (upd H2 Lp (.lst (qs.map V.ref ++ [.ref p.A]))) := (Kf.refl).up (by simp)
    refine ⟨_, rfl, k1 ok p P T _ kf2 (old nA) (old nI) (old nP) ne1 ne2 (st2.kf kl ?_) (updN nPL hP2) (pa.kf kl ?_) ?_ (updN nTL (kf _ _ hT (by simpa using nTA)))⟩
    · intro y hy
      simp only [List.mem_cons, List.not_mem_nil, or_false] at hy ⊢
      rcases hy with rfl | rfl
      · exact nLA.symm
      · exact nLI.symm
    · intro y hy
      simp only [List.mem_cons, List.not_mem_nil, or_false] at hy ⊢
      rcases hy with rfl | rfl
      · exact nAL
      · exact nIL
    · rw [List.map_append]
      exact updS
  · rcases heldDue_two e with rfl | rfl
    · refine ⟨true, er.nn.me, fun _ a na => ?_, fun z => nomatch z⟩
      refine ⟨_, rfl, rfl, He.ga K "NoName", rfl, er.nn.xf, er.nn.no_, d, _, .int y, rfl, hd, rfl, by show (2 : Nat) ≤ sizeLine; decide, fun q nq => ⟨_, rfl, k2 _ e q _ (sT.trans (s2.trans (samN nq))) updS⟩⟩
    · refine ⟨false, er.lk.en "NoName" (by simp), (fun z => nomatch z), fun _ => ⟨true, er.lk.me, fun _ a na => ?_, fun z => nomatch z⟩⟩
      refine ⟨_, rfl, rfl, He.ga K "Lack", rfl, er.lk.xf, er.lk.no_, d, _, .int y, rfl, hd, rfl, by show (2 : Nat) ≤ sizeLine; decide, fun q nq => ⟨_, rfl, k2 _ e q _ (sT.trans (s2.trans (samN nq))) updS⟩⟩
theorem pure_l_added (h : sp_l_added K vs H Q E) : t_l_added K { nx := fun _ H' => Q .non H', rt := Q } (start N_l_added vs) H := by
  obtain ⟨p, h, b, cs, as, ns, ks, m, n, off, rfl, er, lg, pn, st, bk, few, k1, k2, k3⟩ := h
  refine ⟨by show (0 : Nat) ≤ sizeLine; decide, fun T nT => ?_⟩
  have sT : Same H (upd H T (.tup [])) := samN nT
  have hT : upd H T (.tup []) T = some (.tup []) := updS
  dsimp only [tNil] at nT ⊢
  generalize upd H T (.tup []) = H1 at sT hT ⊢
  have pn1 := pn.same sT
  obtain ⟨dx, hA⟩ := pn1.ho
  have nTI : T ≠ p.I := ne_of hT pn1.hI fun z => by cases z
  refine ⟨_, rfl, p.A, dx, _, rfl, hA, by rfl, _, rfl, p, h, b, cs, as, ns, ks, m, n, off, rfl, er, pn1, st.same sT, bk.same sT, few, fun eo => ?_, fun eo ok H2 kf pa => ?_, fun eo X y e d H2 s2 nd hd => ?_⟩
  · refine ⟨false, lg.e1, (fun z => nomatch z), fun _ => ⟨false, lg.e2, (fun z => nomatch z), fun _ => ⟨true, lg.e3, fun _ a na => ?_, fun z => nomatch z⟩⟩⟩
    refine ⟨by show (1 : Nat) ≤ sizeLine; decide, fun q nq => ?_⟩
    have sq : Same H1 (upd H1 q (.tup [.str "other"])) := samN nq
    generalize upd H1 q (.tup [.str "other"]) = H2 at sq ⊢
    refine ⟨_, rfl, ⟨He.ga K "LetGo", rfl, lg.ec, .inl rfl, .ref (He.ga K "LetGo"), .ref (He.ga K "LetGo"), _, rfl, rel_ref, lg.kx, _, rfl, iteT ⟨_, rfl, ⟨He.ga K "LetGo", rfl, lg.ec, .inl rfl, .ty "ValueError", .type "ValueError", _, rfl, rel_ty, lg.kv, _, rfl, iteT ⟨by show (1 : Nat) ≤ sizeLine; decide, fun r nr => ⟨_, rfl, k1 eo r _ (sT.trans (sq.trans (samN nr))) updS⟩⟩⟩⟩⟩⟩
  · exact ⟨_, rfl, k2 eo ok T _ ((Kf.same sT).trans kf) (kf _ _ hT (by simpa using nTI)) pa⟩
  · rcases heldDue_two e with rfl | rfl
    · refine ⟨true, er.nn.me, fun _ a na => ?_, fun z => nomatch z⟩
      refine ⟨_, rfl, rfl, He.ga K "NoName", rfl, er.nn.xf, er.nn.no_, d, _, .int y, rfl, hd, rfl, by show (2 : Nat) ≤ sizeLine; decide, fun q nq => ⟨_, rfl, k3 eo _ e q _ (sT.trans (s2.trans (samN nq))) updS⟩⟩
    · refine ⟨false, er.lk.en "NoName" (by simp), (fun z => nomatch z), fun _ => ⟨true, er.lk.me, fun _ a na => ?_, fun z => nomatch z⟩⟩
      refine ⟨_, rfl, rfl, He.ga K "Lack", rfl, er.lk.xf, er.lk.no_, d, _, .int y, rfl, hd, rfl, by show (2 : Nat) ≤ sizeLine; decide, fun q nq => ⟨_, rfl, k3 eo _ e q _ (sT.trans (s2.trans (samN nq))) updS⟩⟩
theorem pure_l_far_set (h : sp_l_far_set K vs H Q E) : t_l_far_set K { nx := fun _ H' => Q .non H', rt := Q } (start N_l_far_set vs) H := by
  obtain ⟨h, b, cs, as, ns, m, l, k, v, fr, rfl, er, st, bk, hF, few, hv, k1, k2⟩ := h
  refine ⟨by show (0 : Nat) ≤ sizeLine; decide, fun T nT => ?_⟩
  have sT : Same H (upd H T (.tup [])) := samN nT
  have hT : upd H T (.tup []) T = some (.tup []) := updS
  dsimp only [tNil] at nT ⊢
  generalize upd H T (.tup []) = H1 at sT hT ⊢
  have st1 := st.same sT
  obtain ⟨dx, hA⟩ := st1.ho
  have hF1 := sT _ _ hF
  have nTF : T ≠ h.F := ne_of hT hF1 fun z => by cases z
  refine ⟨_, rfl, h.A, dx, _, rfl, hA, by rfl, _, rfl, _, rfl, _, rfl, h, b, cs, as, ns, m, l, k, v, fr, rfl, er, st1, bk.same sT, hF1, few, ?_⟩
  rcases hv with rfl | ⟨n, rfl⟩
  · exact .inl ⟨rfl, fun H2 kf hF2 => ⟨_, rfl, k1 rfl T _ ((Kf.same sT).trans kf) (kf _ _ hT (by simpa using nTF)) hF2⟩⟩
  · refine .inr ⟨n, rfl, fun ok H2 kf hF2 => ⟨_, rfl, k1 ok T _ ((Kf.same sT).trans kf) (kf _ _ hT (by simpa using nTF)) hF2⟩, fun X y e d H2 s2 nd hd => ?_⟩
    rcases verDue_two e with rfl | rfl
    · refine ⟨true, er.nn.me, fun _ a na => ?_, fun z => nomatch z⟩
      refine ⟨_, rfl, rfl, He.ga K "NoName", rfl, er.nn.xf, er.nn.no_, d, _, .int y, rfl, hd, rfl, by show (2 : Nat) ≤ sizeLine; decide, fun q nq => ⟨_, rfl, k2 _ e q _ (sT.trans (s2.trans (samN nq))) updS⟩⟩
    · refine ⟨false, er.lk.en "NoName" (by simp), (fun z => nomatch z), fun _ => ⟨true, er.lk.me, fun _ a na => ?_, fun z => nomatch z⟩⟩
      refine ⟨_, rfl, rfl, He.ga K "Lack", rfl, er.lk.xf, er.lk.no_, d, _, .int y, rfl, hd, rfl, by show (2 : Nat) ≤ sizeLine; decide, fun q nq => ⟨_, rfl, k2 _ e q _ (sT.trans (s2.trans (samN nq))) updS⟩⟩
end
end Fw
set_option Elab.async false
set_option linter.all false
set_option maxRecDepth 100000
set_option maxHeartbeats 4000000
namespace Fw
open PySem L2 RZ RT
abbrev Lay : Type := List Int × List Int × (Int → Option Int)
def layIn (ks : List Int) (v : Int) (s : List Int × (Int → Option Int)) (p : Int) : List Int × (Int → Option Int) := if p ∈ ks ++ s.1 then s else (s.1 ++ [p], fun x => if x = p then some v else s.2 x)
def layV (cs : List Ct) (ns ks : List Int) (s : List Int × (Int → Option Int)) (v : Int) : List Int × (Int → Option Int) := (parA cs ns v).foldl (layIn ks v) s
def lay (cs : List Ct) (ns : List Int) (t : Lay) : Lay :=
  let s := t.2.1.foldl (layV cs ns t.1) ([], t.2.2)
  (t.1 ++ s.1, s.1, s.2)
/-- each one's step is come to in fewer steps -/
def LvA (cs : List Ct) (ns : List Int) (S : Int → Prop) (f : Int → Option Int) : Prop := ∀ x u, f x = some u → ∃ j, RchN cs ns S j u ∧ ¬ RchN cs ns S j x
theorem LvA.add {cs : List Ct} {ns : List Int} {S : Int → Prop} {f : Int → Option Int} {v p : Int} {j : Nat} (h : LvA cs ns S f) (hv : RchN cs ns S j v) (hp : ¬ RchN cs ns S j p) : LvA cs ns S (fun x => if x = p then some v else f x) := fun x u e => by
  by_cases q : x = p
  · simp only [if_pos q] at e
    cases Option.some.inj e
    rw [q]
    exact ⟨j, hv, hp⟩
  · simp only [if_neg q] at e
    exact h x u e
end Fw
set_option Elab.async false
set_option linter.all false
set_option maxRecDepth 100000
set_option maxHeartbeats 1000000
namespace Fw
open PySem L2 RZ RT
structure WysAt (H : Hp) (q : Addr) (qs : List Addr) (ps : List (List Int)) : Prop where
  hq : H q = some (.tup (qs.map V.ref))
  len : qs.length = ps.length
  row : ∀ (i : Nat) (a : Addr) (p : List Int), qs[i]? = some a → ps[i]? = some p → H a = some (.tup (p.map V.int))
theorem WysAt.same {H H' : Hp} {q : Addr} {qs : List Addr} {ps : List (List Int)} (w : WysAt H q qs ps) (s : Same H H') : WysAt H' q qs ps := ⟨s _ _ w.hq, w.len, fun i a p h1 h2 => s _ _ (w.row i a p h1 h2)⟩
structure WpOk (cs : List Ct) (ns : List Int) (S : Int → Prop) (deep : Nat) (x : Int) (p : List Int) : Prop where
  pos : 0 < p.length
  few : p.length ≤ 1000
  all : ∀ y ∈ p, y ∈ ns ∧ isV cs y = true
  fst : ∃ s, p[0]? = some s ∧ S s
  lst : p[p.length - 1]? = some x
  st : ∀ (i : Nat) (u y : Int), p[i]? = some u → p[i + 1]? = some y → y ∈ parsOf cs u
  lv : ∀ j, RchN cs ns S j x ↔ p.length - 1 ≤ j
  dp : p.length - 1 ≤ deep
structure WysOk (cs : List Ct) (ns starts : List Int) (deep : Nat) (ms : List Int) (ps : List (List Int)) : Prop where
  inc : ms.Pairwise (· < ·)
  mem : ∀ x, x ∈ ms ↔ RchN cs ns (fun x => x ∈ starts ∧ x ∈ ns) deep x
  len : ps.length = ms.length
  ok : ∀ (i : Nat) (x : Int) (p : List Int), ms[i]? = some x → ps[i]? = some p → WpOk cs ns (fun x => x ∈ starts ∧ x ∈ ns) deep x p
theorem WysOk.inn {cs : List Ct} {ns starts ms : List Int} {deep : Nat} {ps : List (List Int)} (w : WysOk cs ns starts deep ms ps) : ∀ x ∈ ms, x ∈ ns := fun x hx => RchN.inN (fun x h => h.2) ((w.mem x).mp hx)
theorem WysOk.few {cs : List Ct} {ns starts ms : List Int} {deep : Nat} {ps : List (List Int)} (w : WysOk cs ns starts deep ms ps) (l : ns.length ≤ 400) : ms.length ≤ 400 := Nat.le_trans (len_subA (lt_nodupA w.inc) w.inn) l
end Fw
set_option Elab.async false
set_option linter.all false
set_option maxRecDepth 100000
set_option maxHeartbeats 1000000
namespace Fw
open PySem L2 RZ RT
section
variable [HasW] {K : PySem.W.Frag} {vs : List V} {H H' H0 : Hp} {Q : VK} {E : XK}
theorem fresh_bk {b : BkA} {cs : List Ct} {as : List Addr} {D : Addr} (bk : BkAt K H b cs as) (nD : H D = none) : D ∉ [b.B, b.L, b.E, b.G] := fun z => by
  obtain ⟨dx, fs, e1, _⟩ := bk.bo
  simp only [List.mem_cons, List.not_mem_nil, or_false] at z
  rcases z with rfl | rfl | rfl | rfl
  · rw [e1] at nD; cases nD
  · rw [bk.hL] at nD; cases nD
  · rw [bk.hE] at nD; cases nD
  · rw [bk.hG] at nD; cases nD
end
end Fw
set_option Elab.async false
set_option linter.all false
set_option maxRecDepth 100000
set_option maxHeartbeats 1000000
namespace Fw
open PySem L2 RZ RT
theorem dk_kf55 {c D : Addr} {ns : List Int} {t : Nat} {H H' : Hp} {F : List Addr} (d : Dk c D ns t H) (kf : Kf F H H') (hc : c ∉ F) (hD : D ∉ F) : Dk c D ns t H' := by
  obtain ⟨x1, x2, x3, i, m, u, x4, r⟩ := d
  exact ⟨x1, kf _ _ x2 hc, x3, i, m, u, kf _ _ x4 hD, r⟩
def OnA.ft (e : OnA) : List Addr := [e.p.A, e.p.I, e.o, e.d]
structure On2 (K : PySem.W.Frag) (H : Hp) (A : Addr) (e : OnA) : Prop where
  a : OnAt H e
  pn : PnAt K H e.p A e.ks e.off
  nd : e.ft.Nodup
structure D55 where
  c : Addr
  D : Addr
  T : Addr
  R : Addr
  Lp : Addr
  Lo : Addr
  Fa : Addr
  h : HsA
  b : BkA
  cs : List Ct
  bas : List Addr
  dn : List Int
  hn : List Int
  m : Int
  os : List OnA
  fr : List (PT × Int)
def D55.hd (z : D55) : List Addr := [z.h.P, z.D, z.T, z.R, z.Lp, z.Lo, z.Fa, z.b.B, z.b.L, z.b.E, z.b.G, z.h.A, z.h.I, z.h.S, z.h.F, z.c]
structure S55 [HasW] (K : PySem.W.Frag) (H : Hp) (z : D55) (t n : Nat) : Prop where
  dk : Dk z.c z.D z.dn t H
  th : Th0 H z.T z.cs
  bk : BkAt K H z.b z.cs z.bas
  hs : HsAt K H z.h z.b.B z.hn z.m
  hR : H z.R = some (.dK (nmD z.hn))
  hS : H z.h.S = some (.dK (mkD []))
  hP : H z.h.P = some (.lst ((z.os.filter (·.kept)).map fun e => V.ref e.p.A))
  hF : H z.h.F = some (.dT (frD z.fr))
  hLp : H z.Lp = some (.lst (z.os.map fun e => V.ref e.p.A))
  hLo : H z.Lo = some (.lst (z.os.map fun e => V.ref e.o))
  hFa : H z.Fa = some (.dT (frD z.fr))
  on : ∀ e ∈ z.os, On2 K H z.h.A e
  nm : NmOk z.cs z.hn
  pos : 0 < z.cs.length
  fc : z.cs.length ≤ 40
  kp : ∀ e ∈ z.os, e.kept = false → e.off = true
  of : ∀ e ∈ z.os, e.off = true → e.ks = []
  nf : (z.fr.map (·.1)).Nodup
  n1 : z.hd.Nodup
  n2 : ∀ e ∈ z.os, ∀ y ∈ e.ft, y ∉ z.hd
  n3 : ∀ (i j : Nat) (e f : OnA), z.os[i]? = some e → z.os[j]? = some f → i ≠ j → ∀ y ∈ e.ft, y ∉ f.ft
  l1 : z.os.length ≤ n
  l2 : z.fr.length ≤ n
  l3 : (onsK z.os).length ≤ 3 * n
/-- what stands where the places of the numbers js were written -/
structure Fx55 [HasW] (K : PySem.W.Frag) (H : Hp) (z : D55) (t : Nat) (js : List Nat) : Prop where
  dk : 1 ∉ js → 15 ∉ js → Dk z.c z.D z.dn t H
  th : 2 ∉ js → Th0 H z.T z.cs
  bk : 7 ∉ js → 8 ∉ js → 9 ∉ js → 10 ∉ js → BkAt K H z.b z.cs z.bas
  hs : 11 ∉ js → 12 ∉ js → HsAt K H z.h z.b.B z.hn z.m
  hR : 3 ∉ js → H z.R = some (.dK (nmD z.hn))
  hS : 13 ∉ js → H z.h.S = some (.dK (mkD []))
  hP : 0 ∉ js → H z.h.P = some (.lst ((z.os.filter (·.kept)).map fun e => V.ref e.p.A))
  hF : 14 ∉ js → H z.h.F = some (.dT (frD z.fr))
  hLp : 4 ∉ js → H z.Lp = some (.lst (z.os.map fun e => V.ref e.p.A))
  hLo : 5 ∉ js → H z.Lo = some (.lst (z.os.map fun e => V.ref e.o))
  hFa : 6 ∉ js → H z.Fa = some (.dT (frD z.fr))
section
variable [HasW] {K : PySem.W.Frag} {vs : List V} {H H' : Hp} {Q : VK} {E : XK} {z : D55} {t n : Nat} {A : Addr} {e : OnA}
theorem On2.kf {F : List Addr} (x : On2 K H A e) (kf : Kf F H H') (n : ∀ y ∈ e.ft, y ∉ F) : On2 K H' A e :=
  ⟨⟨kf _ _ x.a.ho (n _ (by simp [OnA.ft])), kf _ _ x.a.hd (n _ (by simp [OnA.ft]))⟩, x.pn.kf kf (fun y hy => n y (by simp [OnA.ft] at hy ⊢; rcases hy with rfl | rfl <;> simp)), x.nd⟩
theorem nd_ix {l : List Addr} (nd : l.Nodup) {x y : Addr} {i j : Nat} (hi : l[i]? = some x) (hj : l[j]? = some y) (h : i ≠ j) : x ≠ y := fun e => by
  subst e
  have li := (List.getElem?_eq_some_iff.mp hi).1
  exact h ((List.getElem?_inj li nd).mp (hi.trans hj.symm))
theorem S55.core (x : S55 K H z t n) {js : List Nat} {F : List Addr} (kf : Kf F H H') (nt : ∀ u ∈ F, ∀ xs, H u ≠ some (.tup xs)) (out : ∀ (i : Nat) (y : Addr), z.hd[i]? = some y → i ∉ js → y ∉ F) : Fx55 K H' z t js where
  dk h1 h2 := dk_kf55 x.dk kf (out 15 _ rfl h2) (out 1 _ rfl h1)
  th h := x.th.kf kf (out 2 _ rfl h) (kf.tm nt)
  bk h1 h2 h3 h4 := x.bk.kf kf (fun y hy => by
    simp only [List.mem_cons, List.not_mem_nil, or_false] at hy
    rcases hy with rfl | rfl | rfl | rfl
    · exact out 7 _ rfl h1
    · exact out 8 _ rfl h2
    · exact out 9 _ rfl h3
    · exact out 10 _ rfl h4) (kf.tm nt)
  hs h1 h2 := x.hs.kf kf (fun y hy => by
    simp only [List.mem_cons, List.not_mem_nil, or_false] at hy
    rcases hy with rfl | rfl
    · exact out 11 _ rfl h1
    · exact out 12 _ rfl h2)
  hR h := kf _ _ x.hR (out 3 _ rfl h)
  hS h := kf _ _ x.hS (out 13 _ rfl h)
  hP h := kf _ _ x.hP (out 0 _ rfl h)
  hF h := kf _ _ x.hF (out 14 _ rfl h)
  hLp h := kf _ _ x.hLp (out 4 _ rfl h)
  hLo h := kf _ _ x.hLo (out 5 _ rfl h)
  hFa h := kf _ _ x.hFa (out 6 _ rfl h)
/-- places of the law's own were written -/
theorem S55.at (x : S55 K H z t n) (js : List Nat) {F : List Addr} (kf : Kf F H H') (nt : ∀ u ∈ F, ∀ xs, H u ≠ some (.tup xs)) (hF : ∀ u ∈ F, ∃ j ∈ js, z.hd[j]? = some u) : Fx55 K H' z t js ∧ ∀ e ∈ z.os, On2 K H' z.h.A e := by
  refine ⟨x.core kf nt fun i y hi hn hy => ?_, fun e he => (x.on e he).kf kf fun y hy hz => ?_⟩
  · obtain ⟨j, hj, e⟩ := hF y hy
    exact nd_ix x.n1 hi e (fun z => hn (by rw [z]; exact hj)) rfl
  · obtain ⟨j, hj, e2⟩ := hF y hz
    exact x.n2 e he y hy (List.mem_of_getElem? e2)
/-- places of one pin were written -/
theorem S55.atE (x : S55 K H z t n) {i : Nat} {e : OnA} (he : z.os[i]? = some e) {F : List Addr} (kf : Kf F H H') (nt : ∀ u ∈ F, ∀ xs, H u ≠ some (.tup xs)) (hF : ∀ u ∈ F, u ∈ e.ft) : Fx55 K H' z t [] ∧ ∀ (j : Nat) (f : OnA), z.os[j]? = some f → j ≠ i → On2 K H' z.h.A f := by
  refine ⟨x.core kf nt fun j y hj _ hy => x.n2 e (List.mem_of_getElem? he) y (hF y hy) (List.mem_of_getElem? hj), fun j f hj hn => (x.on f (List.mem_of_getElem? hj)).kf kf fun y hy hz => ?_⟩
  exact x.n3 j i f e hj he hn y hy (hF y hz)
theorem S55.kept (x : S55 K H z t n) {t' : Nat} (f : Fx55 K H' z t' []) (on : ∀ e ∈ z.os, On2 K H' z.h.A e) : S55 K H' z t' n :=
  ⟨f.dk (by simp) (by simp), f.th (by simp), f.bk (by simp) (by simp) (by simp) (by simp), f.hs (by simp) (by simp), f.hR (by simp), f.hS (by simp), f.hP (by simp), f.hF (by simp), f.hLp (by simp), f.hLo (by simp), f.hFa (by simp), on, x.nm, x.pos, x.fc, x.kp, x.of, x.nf, x.n1, x.n2, x.n3, x.l1, x.l2, x.l3⟩
theorem S55.same (x : S55 K H z t n) (s : Same H H') : S55 K H' z t n := by
  obtain ⟨f, on⟩ := x.at [] (F := []) (Kf.same s) (by simp) (by simp)
  exact x.kept f on
theorem S55.drawn (x : S55 K H z t n) {t' : Nat} (k : Kp z.D H H') (d : Dk z.c z.D z.dn t' H') : S55 K H' z t' n := by
  obtain ⟨l, hl⟩ := x.dk.someD
  obtain ⟨f, on⟩ := x.at [1] (F := [z.D]) (Kf.kp k (by simp)) (fun u hu xs e => by rw [List.mem_singleton.mp hu, hl] at e; cases e) (fun u hu => ⟨1, by simp, by rw [List.mem_singleton.mp hu]; rfl⟩)
  exact ⟨d, f.th (by simp), f.bk (by simp) (by simp) (by simp) (by simp), f.hs (by simp) (by simp), f.hR (by simp), f.hS (by simp), f.hP (by simp), f.hF (by simp), f.hLp (by simp), f.hLo (by simp), f.hFa (by simp), on, x.nm, x.pos, x.fc, x.kp, x.of, x.nf, x.n1, x.n2, x.n3, x.l1, x.l2, x.l3⟩
theorem S55.more (x : S55 K H z t n) {t' n' : Nat} (ht : t ≤ t') (hn : n ≤ n') : S55 K H z t' n' :=
  ⟨x.dk.le ht, x.th, x.bk, x.hs, x.hR, x.hS, x.hP, x.hF, x.hLp, x.hLo, x.hFa, x.on, x.nm, x.pos, x.fc, x.kp, x.of, x.nf, x.n1, x.n2, x.n3, Nat.le_trans x.l1 hn, Nat.le_trans x.l2 hn, Nat.le_trans x.l3 (by omega)⟩
theorem S55.alive (x : S55 K H z t n) {y : Addr} (hy : y ∈ z.hd) (hn : H y = none) : False := by
  obtain ⟨l1, e1⟩ := x.dk.someD
  obtain ⟨l2, e2⟩ := x.dk.someC
  obtain ⟨as, e3, _⟩ := x.th.tr
  obtain ⟨dx, e4⟩ := x.hs.ho
  have fb := fresh_bk x.bk hn
  simp only [D55.hd, List.mem_cons, List.not_mem_nil, or_false] at hy
  simp only [List.mem_cons, List.not_mem_nil, or_false, not_or] at fb
  rcases hy with rfl | rfl | rfl | rfl | rfl | rfl | rfl | rfl | rfl | rfl | rfl | rfl | rfl | rfl | rfl | rfl
  · rw [x.hP] at hn; cases hn
  · rw [e1] at hn; cases hn
  · rw [e3] at hn; cases hn
  · rw [x.hR] at hn; cases hn
  · rw [x.hLp] at hn; cases hn
  · rw [x.hLo] at hn; cases hn
  · rw [x.hFa] at hn; cases hn
  · exact fb.1 rfl
  · exact fb.2.1 rfl
  · exact fb.2.2.1 rfl
  · exact fb.2.2.2 rfl
  · rw [e4] at hn; cases hn
  · rw [x.hs.hI] at hn; cases hn
  · rw [x.hS] at hn; cases hn
  · rw [x.hF] at hn; cases hn
  · rw [e2] at hn; cases hn
theorem On2.alive (x : On2 K H A e) {y : Addr} (hy : y ∈ e.ft) (hn : H y = none) : False := by
  obtain ⟨dx, e4⟩ := x.pn.ho
  simp only [OnA.ft, List.mem_cons, List.not_mem_nil, or_false] at hy
  rcases hy with rfl | rfl | rfl | rfl
  · rw [e4] at hn; cases hn
  · rw [x.pn.hI] at hn; cases hn
  · rw [x.a.ho] at hn; cases hn
  · rw [x.a.hd] at hn; cases hn
def psOf (os : List OnA) : Pns := (os.filter (·.kept)).map fun e => (e.p, e.ks, e.off)
theorem psOf_sum : ∀ os : List OnA, ((psOf os).map fun p => p.2.1.length).sum ≤ (onsK os).length
  | [] => Nat.le_refl _
  | e :: os => by
    have ih := psOf_sum os
    have e1 : (onsK (e :: os)).length = e.ks.length + (onsK os).length := by unfold onsK; rw [List.flatMap_cons, List.length_append]
    unfold psOf at ih ⊢
    rw [e1]
    by_cases h : e.kept = true
    · rw [List.filter_cons, if_pos h, List.map_cons, List.map_cons, List.sum_cons]
      show e.ks.length + _ ≤ _
      omega
    · rw [List.filter_cons, if_neg h]
      omega
theorem psOf_len (os : List OnA) : (psOf os).length ≤ os.length := by
  unfold psOf
  rw [List.length_map]
  exact List.length_filter_le _ _
theorem S55.pins (x : S55 K H z t n) : H z.h.P = some (.lst ((psOf z.os).map fun p => V.ref p.1.A)) := by
  rw [x.hP]
  unfold psOf
  rw [List.map_map]
  rfl
theorem S55.pns (x : S55 K H z t n) : ∀ p ∈ psOf z.os, PnAt K H p.1 z.h.A p.2.1 p.2.2 := fun p hp => by
  obtain ⟨e, he, rfl⟩ := List.mem_map.mp hp
  exact (x.on e (List.mem_filter.mp he).1).pn
theorem S55.held_mem (x : S55 K H z t n) (v : Int) : (∃ p ∈ psOf z.os, v ∈ p.2.1) ↔ v ∈ onsK z.os := by
  unfold onsK
  rw [List.mem_flatMap]
  constructor
  · rintro ⟨p, hp, hv⟩
    obtain ⟨e, he, rfl⟩ := List.mem_map.mp hp
    exact ⟨e, (List.mem_filter.mp he).1, hv⟩
  · rintro ⟨e, he, hv⟩
    cases hk : e.kept with
    | true => exact ⟨_, List.mem_map.mpr ⟨e, List.mem_filter.mpr ⟨he, hk⟩, rfl⟩, hv⟩
    | false =>
      rw [x.of e he (x.kp e he hk)] at hv
      cases hv
/-- the roots told and the roots due are the same -/
theorem S55.roots (x : S55 K H z t n) (hn : n ≤ 100) {σ : L2.St} (e1 : σ[1]? = some (some (.ref z.h.A))) (e3 : σ[3]? = some (some (.ref z.Lo))) (e4 : σ[4]? = some (some (.ref z.Fa))) (k : ∀ H', Same H H' → Q (.bl true) H') :
    tCall (sp_l_same2 K) [] E0 (tCons (tMeth (He.ga K "House") "roots" (sp_House_roots K) [] E0 (tVar 1) tNil) (tCons (tCall (sp_l_roots55 K) [] E0 (tCons (tVar 4) (tCons (tVar 3) tNil))) tNil)) σ H Q := by
  have s1 := psOf_sum z.os
  have l2 := x.l2
  have l3 := x.l3
  refine x.hs.me (fun _ => rfl) e1 ?_
  refine ⟨z.h, z.b.B, z.m, [], z.fr, psOf z.os, rfl, x.hs.o, x.hS, .nil, x.hF, x.nf, nd_ix x.n1 (i := 13) (j := 14) rfl rfl (by decide), x.pins, x.pns, by rw [List.length_nil]; omega, fun L rs H1 s nL hL inc few mem => ?_⟩
  have x1 := x.same s
  refine ⟨_, e4, _, e3, z.Fa, z.Lo, z.fr, z.os, rfl, x1.hFa, x1.nf, x1.hLo, fun e he => (x1.on e he).a, by omega, fun L2 rs2 H2 s2 nL2 hL2 inc2 mem2 => ?_⟩
  have er : rs = rs2 := inc_ext inc inc2 fun v => by
    rw [mem v, mem2 v, x.held_mem v]
    simp
  subst er
  refine ⟨_, _, rfl, SameV.lst (s2 _ _ hL) hL2 rfl ?_ SameV.ints, fun H3 s3 => k H3 ((s.trans s2).trans s3)⟩
  rw [List.length_map]
  rw [List.length_nil] at few
  omega
end
end Fw
set_option Elab.async false
set_option linter.all false
set_option maxRecDepth 100000
set_option maxHeartbeats 1000000
namespace Fw
open PySem L2 RZ RT
section
variable [HasW] {K : PySem.W.Frag} {vs : List V} {H H' H0 : Hp} {Q : VK} {E : XK}
theorem walk_rg0 {n : Nat} : Walk (Itr 0 n) n (fun _ => True) (fun i H x H' => H' = H ∧ (((List.range n).map Int.ofNat).map V.int)[i]? = some x) :=
  ⟨fun _ _ hi _ => hi, fun _ _ => Nat.le_refl _, fun i H x H' hi _ y => by
    obtain ⟨rfl, rfl⟩ := y
    refine ⟨rfl, ?_⟩
    rw [List.getElem?_map, List.getElem?_map, List.getElem?_range hi]
    show some (V.int (i : Int)) = some (V.int (0 + (i : Int)))
    rw [Int.zero_add]⟩
end
end Fw
set_option Elab.async false
set_option linter.all false
set_option maxRecDepth 100000
set_option maxHeartbeats 1000000
namespace Fw
open PySem L2 RZ RT
theorem ltPr_asym {p q : PT} (a : ltPr p q) (b : ltPr q p) : p = q := by
  rcases a with a | ⟨ea, a⟩ <;> rcases b with b | ⟨eb, b⟩
  · exact absurd (List.lt_trans a b) (List.lt_irrefl _)
  · rw [eb] at a
    exact absurd a (List.lt_irrefl _)
  · rw [ea] at b
    exact absurd b (List.lt_irrefl _)
  · exact absurd (List.lt_trans a b) (List.lt_irrefl _)
/-- the same far marks in their order: the same list -/
theorem frs_ext {es fs fr : List (PT × Int)} (nd : (fr.map (·.1)).Nodup) (h1 : es.Perm fr) (h2 : fs.Perm fr) (s1 : es.Pairwise fun e f => ltPr e.1 f.1) (s2 : fs.Pairwise fun e f => ltPr e.1 f.1) : es = fs := by
  refine (h1.trans h2.symm).eq_of_pairwise (le := fun e f => ltPr e.1 f.1) (fun a b ha hb h h' => ?_) s1 s2
  have e := ltPr_asym h h'
  have m1 := frG_mem (p := a.1) (v := a.2) nd (h1.mem_iff.mp ha)
  have m2 := frG_mem (p := b.1) (v := b.2) nd (h2.mem_iff.mp hb)
  rw [e, m2] at m1
  exact Prod.ext e (Option.some.inj m1).symm
theorem frs_same {H : Hp} {q r : Addr} {qs rs : List Addr} {es : List (PT × Int)} (a : FrsAt H q qs es) (b : FrsAt H r rs es) (few : es.length ≤ 1000) : SameV H 6 (.ref q) (.ref r) := by
  refine SameV.lst a.hL b.hL (by rw [List.length_map, List.length_map, a.len, b.len]) (by rw [List.length_map, a.len]; omega) fun i x y h1 h2 => ?_
  rw [List.getElem?_map] at h1 h2
  cases e1 : qs[i]? with
  | none => rw [e1] at h1; cases h1
  | some u =>
    cases e2 : rs[i]? with
    | none => rw [e2] at h2; cases h2
    | some v =>
      rw [e1] at h1
      rw [e2] at h2
      cases Option.some.inj h1
      cases Option.some.inj h2
      have hi : i < es.length := by rw [← a.len]; exact (List.getElem?_eq_some_iff.mp e1).1
      have e3 : es[i]? = some es[i] := List.getElem?_eq_getElem hi
      refine SameV.tup (a.row i u _ e1 e3) (b.row i v _ e2 e3) rfl (by show (3 : Nat) ≤ 100000; decide) fun j x y h1 h2 => ?_
      have exy : x = y := Option.some.inj (h1.symm.trans h2)
      match j, h1 with
      | 0, h1 => cases Option.some.inj h1; exact Or.inl ⟨exy, .inr (.inr (.inr ⟨_, rfl⟩))⟩
      | 1, h1 => cases Option.some.inj h1; exact Or.inl ⟨exy, .inr (.inr (.inr ⟨_, rfl⟩))⟩
      | 2, h1 => cases Option.some.inj h1; exact Or.inl ⟨exy, .inr (.inl ⟨_, rfl⟩)⟩
theorem FrsAt.same {H H' : Hp} {q : Addr} {qs : List Addr} {es : List (PT × Int)} (a : FrsAt H q qs es) (s : Same H H') : FrsAt H' q qs es := ⟨s _ _ a.hL, a.len, fun i u e h1 h2 => s _ _ (a.row i u e h1 h2)⟩
section
variable [HasW]
def sp_l_pins_right (K : PySem.W.Frag) : Sp := fun vs H Q _ => ∃ (z : D55) (t n : Nat), vs = [.ref z.D, .ref z.h.A, .ref z.Lp, .ref z.Lo, .ref z.Fa] ∧ S55 K H z t n ∧ t + 1 < 1000000000 ∧ n ≤ 100 ∧ ∀ H', S55 K H' z (t + 1) n → Q (.bl true) H'
theorem len_l_pins_right {K : PySem.W.Frag} {vs : List V} {H : Hp} {Q : VK} {E : XK} (h : sp_l_pins_right K vs H Q E) : vs.length = 5 := by obtain ⟨_, _, _, rfl, _⟩ := h; rfl
abbrev N_l_pins_right : List Str := ["_law_deck_here", "_law_house_here", "_law_pins", "_law_ons", "_law_far", "_law_first", "_law_k", "_law_on", "_law_due", "_law_key"]
def t_l_pins_right_due (K : PySem.W.Frag) : TS := (tSeq (tAsg (tLc (iList K (tCB rSortPP (tCons (tVar 4) tNil))) (gName 9) tYes (tTup (tCons (tOp (rIx K) (tVar 9) (tC (.int 0))) (tCons (tOp (rIx K) (tVar 9) (tC (.int 1))) (tCons (tDGet (tVar 4) (tVar 9)) tNil)))) [9]) (gName 8))
    (tRet (tAndV (tCall (sp_l_same2 K) [] E0 (tCons (tMeth (He.ga K "House") "far" (sp_House_far K) [] E0 (tVar 1) tNil) (tCons (tVar 8) tNil))) (tCall (sp_l_same2 K) [] E0 (tCons (tMeth (He.ga K "House") "roots" (sp_House_roots K) [] E0 (tVar 1) tNil) (tCons (tCall (sp_l_roots55 K) [] E0 (tCons (tVar 4) (tCons (tVar 3) tNil))) tNil))))))
def t_l_pins_right_clear (K : PySem.W.Frag) : TS := (tSeq (tDrop (tBM0 K "list" rClear (tMeth (He.ga K "House") "far" (sp_House_far K) [] E0 (tVar 1) tNil)))
    (tSeq (tDrop (tBM K "list" rAppend (tMeth (He.ga K "House") "roots" (sp_House_roots K) [] E0 (tVar 1) tNil) (tCons (tC (.int 0)) tNil)))
    (t_l_pins_right_due K)))
def t_l_pins_right_each (K : PySem.W.Frag) : TS := (tSeq (tFor (iRng1 (tCons (tCB (fLen K) (tCons (tVar 3) tNil)) tNil)) (gName 6) (tSeq (tAsg (tCB rSortK (tCons (tOp (rIx K) (tOp (rIx K) (tVar 3) (tVar 6)) (tC (.int 0))) tNil)) (gName 7))
    (tSeq (tIfS (tOr (tNot (tB (tCall (sp_l_same2 K) [] E0 (tCons (tMeth (He.ga K "Pin") "names" (sp_Pin_names K) [] E0 (tOp (rIx K) (tVar 2) (tVar 6)) tNil) (tCons (tVar 7) tNil))))) (tNot (tB (tCall (sp_l_same2 K) [] E0 (tCons (tCB (rLenC (He.ga K "Pin") (sp_Pin_len K) E0) (tCons (tOp (rIx K) (tVar 2) (tVar 6)) tNil)) (tCons (tCB (fLen K) (tCons (tVar 7) tNil)) tNil)))))) (tRet (tC (.bl false))) tNext)
    (tDrop (tBM K "list" rAppend (tMeth (He.ga K "Pin") "names" (sp_Pin_names K) [] E0 (tOp (rIx K) (tVar 2) (tVar 6)) tNil) (tCons (tC (.int 0)) tNil))))))
    (t_l_pins_right_clear K))
def t_l_pins_right (K : PySem.W.Frag) : TS := (tSeq (tAsg (tCall (sp_l_draw K) [] E0 (tCons (tVar 0) (tCons (tC (.int 2)) tNil))) (gName 5))
    (tSeq (tIfS (tAnd (tTest (tOp rEq (tVar 5) (tC (.int 0)))) (tNot (tB (tCall (sp_l_same2 K) [] E0 (tCons (tMeth (He.ga K "House") "roots" (sp_House_roots K) [] E0 (tVar 1) tNil) (tCons (tCall (sp_l_roots55 K) [] E0 (tCons (tVar 4) (tCons (tVar 3) tNil))) tNil)))))) (tRet (tC (.bl false))) tNext)
    (t_l_pins_right_each K)))
end
section
variable [HasW] {K : PySem.W.Frag} {vs : List V} {H H' : Hp} {Q : VK} {E : XK} {z : D55} {t n : Nat}
theorem right_due (x : S55 K H z t n) (hn : n ≤ 100) (k : ∀ H', S55 K H' z t n → Q (.bl true) H') {z0 z5 z6 z7 z8 z9 : Option V} :
    t_l_pins_right_due K { nx := fun _ H' => Q .non H', rt := Q } [z0, some (.ref z.h.A), some (.ref z.Lp), some (.ref z.Lo), some (.ref z.Fa), z5, z6, z7, z8, z9] H := by
  have l2 := x.l2
  refine ⟨_, rfl, z.Fa, frD z.fr, z.fr.map (·.1), rfl, x.hFa, frD_keys z.fr, x.nf, by rw [List.length_map]; omega, fun l zs nl pm srt rows => ?_⟩
  have sl : Same H (upd H l (.lst (zs.map fun z => V.ref z.1))) := samN nl
  have hl : upd H l (.lst (zs.map fun z => V.ref z.1)) l = some (.lst (zs.map fun z => V.ref z.1)) := updS
  generalize upd H l (.lst (zs.map fun z => V.ref z.1)) = H1 at sl hl ⊢
  refine ⟨l, rfl, ⟨_, sqL hl⟩, fun D nD => ?_⟩
  have nD0 : H D = none := by
    cases z : H D with
    | none => rfl
    | some o => rw [sl _ _ z] at nD; cases nD
  have lz : zs.length ≤ 1000 := by
    have := pm.length_eq
    rw [List.length_map, List.length_map] at this
    omega
  have fp := frs_perm x.nf pm
  rw [List.map_map] at fp
  refine lc_it (walk_list (K := K) (a := l) (xs := zs.map fun z => V.ref z.1)) (fun i H' => Same H1 H' ∧ ∃ qs : List Addr, H' D = some (.lst (qs.map V.ref)) ∧ qs.length = i ∧ ∀ (j : Nat) (a : Addr) (w : PrE), qs[j]? = some a → zs[j]? = some w → H' a = some (.tup [.str w.2.1, .str w.2.2, .int ((frG z.fr w.2).getD 0)])) ⟨samN nD, [], updS, rfl, fun j a z h => by simp at h⟩ (fun i H' _ p => sqL (p.1 _ _ hl)) ?_ ?_
  · rintro i u H2 H3 hi ⟨s2, qs, hD2, lq, row⟩ ⟨rfl, hx⟩
    rw [List.length_map] at hi
    have e1 : zs[i]? = some zs[i] := List.getElem?_eq_getElem hi
    rw [List.getElem?_map, e1] at hx
    cases Option.some.inj hx
    have s02 := sl.trans s2
    have hz := s02 _ _ (rows _ (List.getElem_mem hi))
    refine ⟨rfl, ?_⟩
    dsimp only [tYes]
    rw [if_pos rfl]
    have hm : zs[i].2 ∈ z.fr.map (·.1) := pm.mem_iff.mp (List.mem_map.mpr ⟨_, List.getElem_mem hi, rfl⟩)
    obtain ⟨e, he, ee⟩ := List.mem_map.mp hm
    have gv : frG z.fr zs[i].2 = some e.2 := by rw [← ee]; exact frG_mem x.nf he
    have g : DGet H3 z.Fa (.ref zs[i].1) (valV (frD z.fr) (pK zs[i].2)) := DGet.t (s02 _ _ x.hFa) hz
    rw [frD_val, gv] at g
    refine ⟨_, rfl, ixT (i := 0) hz (atI_nat (j := 0) rfl) ⟨_, rfl, ixT (i := 1) hz (atI_nat (j := 1) rfl) ⟨_, rfl, _, rfl, z.Fa, .int e.2, rfl, g, by show (3 : Nat) ≤ sizeLine; decide, fun R nR => ?_⟩⟩⟩
    have sR : Same H3 (upd H3 R (.tup [.str zs[i].2.1, .str zs[i].2.2, .int e.2])) := samN nR
    have hR : upd H3 R (.tup [.str zs[i].2.1, .str zs[i].2.2, .int e.2]) R = some (.tup [.str zs[i].2.1, .str zs[i].2.2, .int e.2]) := updS
    dsimp only [tNil] at nR ⊢
    generalize upd H3 R (.tup [.str zs[i].2.1, .str zs[i].2.2, .int e.2]) = H5 at sR hR ⊢
    refine ⟨_, sR _ _ hD2, ?_, Same.updA (s2.trans sR) nD, qs ++ [R], by rw [updS, List.map_append]; rfl, by rw [List.length_append, lq]; rfl, fun j a w hj hz2 => ?_⟩
    · rw [List.length_map, lq]
      exact Nat.lt_of_le_of_lt (show i ≤ 1000 by omega) (by decide)
    · have nDt : ∀ {a : Addr} {ws : List V}, H5 a = some (.tup ws) → upd H5 D (.lst (qs.map V.ref ++ [.ref R])) a = some (.tup ws) := fun {a ws} e => updN (fun z => by rw [z, sR _ _ hD2] at e; cases e) e
      rcases Nat.lt_or_ge j qs.length with hl2 | hl2
      · rw [List.getElem?_append_left hl2] at hj
        exact nDt (sR _ _ (row j a w hj hz2))
      · rw [List.getElem?_append_right hl2] at hj
        have hj0 : j - qs.length = 0 := by have := (List.getElem?_eq_some_iff.mp hj).1; simpa using this
        have : j = i := by omega
        subst this
        rw [hj0] at hj
        cases Option.some.inj hj
        rw [e1] at hz2
        cases Option.some.inj hz2
        rw [gv]
        exact nDt hR
  · rintro H2 ⟨s2, qs, hD2, lq, row⟩
    rw [List.length_map] at lq
    have s02 := sl.trans s2
    have x2 := x.same s02
    have fa : FrsAt H2 D qs (zs.map fun w => (w.2, (frG z.fr w.2).getD 0)) := ⟨hD2, by rw [List.length_map]; exact lq, fun i a e h1 h2 => by
      rw [List.getElem?_map] at h2
      cases hz : zs[i]? with
      | none => rw [hz] at h2; cases h2
      | some w =>
        rw [hz] at h2
        cases Option.some.inj h2
        exact row i a w h1 hz⟩
    have sz : (zs.map fun w => (w.2, (frG z.fr w.2).getD 0)).Pairwise fun e f => ltPr e.1 f.1 := List.pairwise_map.mpr (srt.imp fun h => h)
    refine x2.hs.me (fun _ => rfl) rfl ⟨z.h, z.b.B, z.m, z.fr, rfl, x2.hs.o, x2.hF, x2.nf, by omega, fun L qs2 es H3 s3 nL fL pL sL => ?_⟩
    have ee : es = zs.map fun w => (w.2, (frG z.fr w.2).getD 0) := frs_ext x.nf pL fp sL sz
    subst ee
    refine ⟨_, rfl, _, _, rfl, frs_same fL (fa.same s3) (by rw [List.length_map]; exact lz), fun H4 s4 => ⟨true, rfl, ?_⟩⟩
    rw [if_pos rfl]
    have x4 := (x2.same s3).same s4
    exact x4.roots hn rfl rfl rfl fun H5 s5 => k H5 (x4.same s5)
theorem right_clear (x : S55 K H z t n) (hn : n ≤ 100) (k : ∀ H', S55 K H' z t n → Q (.bl true) H') {z0 z5 z6 z7 z8 z9 : Option V} :
    t_l_pins_right_clear K { nx := fun _ H' => Q .non H', rt := Q } [z0, some (.ref z.h.A), some (.ref z.Lp), some (.ref z.Lo), some (.ref z.Fa), z5, z6, z7, z8, z9] H := by
  have l2 := x.l2
  have l3 := x.l3
  have s1 := psOf_sum z.os
  refine x.hs.me (fun _ => rfl) rfl ⟨z.h, z.b.B, z.m, z.fr, rfl, x.hs.o, x.hF, x.nf, by omega, fun L qs es H1 sm nL fL pL sL => ?_⟩
  refine ⟨.inl ⟨rfl, _, sqL fL.hL⟩, L, _, rfl, rfl, fL.hL, ?_⟩
  have x2 := x.same (Same.updI sm nL (o := .lst []))
  generalize upd H1 L (.lst []) = H2 at x2 ⊢
  refine x2.hs.me (fun _ => rfl) rfl ⟨z.h, z.b.B, z.m, [], z.fr, psOf z.os, rfl, x2.hs.o, x2.hS, .nil, x2.hF, x2.nf, nd_ix x.n1 (i := 13) (j := 14) rfl rfl (by decide), x2.pins, x2.pns, by rw [List.length_nil]; omega, fun L2 rs H3 s nL2 hL2 inc few mem => ?_⟩
  refine ⟨.inl ⟨rfl, _, sqL hL2⟩, L2, _, _, rfl, rfl, hL2, ?_, ?_⟩
  · rw [List.length_map]
    rw [List.length_nil] at few
    exact Nat.lt_of_le_of_lt (show _ ≤ 3000 by omega) (by decide)
  · exact right_due (x2.same (Same.updI s nL2)) hn k
theorem right_each (x : S55 K H z t n) (hn : n ≤ 100) (k : ∀ H', S55 K H' z t n → Q (.bl true) H') {z0 z5 z6 z7 z8 z9 : Option V} :
    t_l_pins_right_each K { nx := fun _ H' => Q .non H', rt := Q } [z0, some (.ref z.h.A), some (.ref z.Lp), some (.ref z.Lo), some (.ref z.Fa), z5, z6, z7, z8, z9] H := by
  have l1 := x.l1
  refine ⟨_, rfl, lenL x.hLo ⟨_, rfl, ?_, ?_, ?_⟩⟩
  · rw [List.length_map]; omega
  · rw [List.length_map]; omega
  rw [List.length_map]
  refine for_it (walk_rg0 (n := z.os.length)) (fun i σ H' => (∃ (y6 y7 : Option V), σ = [z0, some (.ref z.h.A), some (.ref z.Lp), some (.ref z.Lo), some (.ref z.Fa), z5, y6, y7, z8, z9]) ∧ S55 K H' z t n) ⟨⟨_, _, rfl⟩, x⟩ (fun i σ H' _ _ => True.intro) ?_ ?_
  · rintro i u σ H2 H3 hi ⟨⟨y6, y7, rfl⟩, y⟩ ⟨rfl, hx⟩
    rw [List.getElem?_map, List.getElem?_map, List.getElem?_range hi] at hx
    cases Option.some.inj hx
    have ei : z.os[i]? = some z.os[i] := List.getElem?_eq_getElem hi
    have o2 := y.on _ (List.getElem_mem hi)
    have few := o2.pn.few
    refine ⟨_, rfl, _, rfl, ixL y.hLo (atI_nat (by rw [List.getElem?_map, ei]; rfl)) (ixL (i := 0) o2.a.ho (atI_nat (j := 0) rfl) ⟨z.os[i].d, _, z.os[i].ks, rfl, o2.a.hd, nmD_keys _, fun ks' L pm inc nL => ?_⟩)⟩
    have sL : Same H3 (upd H3 L (.lst (ks'.map V.int))) := samN nL
    have hL : upd H3 L (.lst (ks'.map V.int)) L = some (.lst (ks'.map V.int)) := updS
    generalize upd H3 L (.lst (ks'.map V.int)) = H4 at sL hL ⊢
    have lk : ks'.length = z.os[i].ks.length := pm.length_eq
    have y4 := y.same sL
    have p4 := (y4.on _ (List.getElem_mem hi)).pn
    obtain ⟨dx4, h4⟩ := p4.ho
    refine ⟨_, rfl, _, rfl, ixL y4.hLp (atI_nat (by rw [List.getElem?_map, ei]; rfl)) ⟨_, dx4, _, rfl, h4, by rfl, _, _, _, _, rfl, p4, fun L2 ks2 nL2 pm2 inc2 => ?_⟩⟩
    have s2 : Same H4 (upd H4 L2 (.lst (ks2.map V.int))) := samN nL2
    have hL2 : upd H4 L2 (.lst (ks2.map V.int)) L2 = some (.lst (ks2.map V.int)) := updS
    generalize upd H4 L2 (.lst (ks2.map V.int)) = H5 at s2 hL2 ⊢
    have ek : ks2 = ks' := inc_ext inc2 (perm_lt pm inc o2.pn.nd) fun v => by rw [pm2.mem_iff, pm.mem_iff]
    subst ek
    refine ⟨_, rfl, _, _, rfl, SameV.lst hL2 (s2 _ _ hL) rfl (by rw [List.length_map]; omega) SameV.ints, fun H6 s6 => ⟨_, rfl, iteF ?_⟩⟩
    have y6 := (y4.same s2).same s6
    have p6 := (y6.on _ (List.getElem_mem hi)).pn
    obtain ⟨dx6, h6⟩ := p6.ho
    refine ⟨_, rfl, _, rfl, ixL y6.hLp (atI_nat (by rw [List.getElem?_map, ei]; rfl)) ⟨_, dx6, _, rfl, h6, _, _, _, _, rfl, p6, _, rfl, by omega, ?_⟩⟩
    refine ⟨_, rfl, lenL (s6 _ _ (s2 _ _ hL)) ?_⟩
    refine ⟨_, _, rfl, SameV.int (by rw [List.length_map, lk]), fun H7 s7 => ⟨_, rfl, iteF ?_⟩⟩
    have y7 := y6.same s7
    have p7 := (y7.on _ (List.getElem_mem hi)).pn
    obtain ⟨dx7, h7⟩ := p7.ho
    refine ⟨_, rfl, _, rfl, ixL y7.hLp (atI_nat (by rw [List.getElem?_map, ei]; rfl)) ⟨_, dx7, _, rfl, h7, by rfl, _, _, _, _, rfl, p7, fun L3 ks3 nL3 pm3 inc3 => ?_⟩⟩
    have s8 : Same H7 (upd H7 L3 (.lst (ks3.map V.int))) := samN nL3
    have hL3 : upd H7 L3 (.lst (ks3.map V.int)) L3 = some (.lst (ks3.map V.int)) := updS
    generalize upd H7 L3 (.lst (ks3.map V.int)) = H8 at s8 hL3 ⊢
    have l3 := pm3.length_eq
    refine ⟨.inl ⟨rfl, _, sqL hL3⟩, L3, _, _, rfl, rfl, hL3, ?_, ⟨_, _, rfl⟩, y7.same (Same.updI s8 nL3)⟩
    rw [List.length_map]
    exact Nat.lt_of_le_of_lt (show _ ≤ 400 by omega) (by decide)
  · rintro σ H2 ⟨⟨y6, y7, rfl⟩, y⟩
    exact right_clear y hn k
theorem pure_l_pins_right (h : sp_l_pins_right K vs H Q E) : t_l_pins_right K { nx := fun _ H' => Q .non H', rt := Q } (start N_l_pins_right vs) H := by
  obtain ⟨z, t, n, rfl, x, ht, hn, k⟩ := h
  refine ⟨_, rfl, z.c, z.D, z.dn, t, 2, rfl, x.dk, by omega, by decide, by decide, fun w H1 w0 w1 d1 fr1 => ?_⟩
  have x1 := x.drawn (.fr fr1) d1
  refine ⟨_, rfl, rfl, _, rfl, ?_⟩
  by_cases e : w = 0
  · subst e
    refine iteT (x1.roots hn rfl rfl rfl fun H2 s2 => ⟨_, rfl, iteF ?_⟩)
    exact right_each (x1.same s2) hn k
  · rw [decide_eq_false fun z => e (V.int.inj z)]
    refine iteF (iteF ?_)
    exact right_each x1 hn k
end
end Fw
set_option Elab.async false
set_option linter.all false
set_option maxRecDepth 100000
set_option maxHeartbeats 1000000
namespace Fw
open PySem L2 RZ RT
/-- what may be due -/
def DueK (vs : List V) : Prop := vs = [] ∨ (∃ x, vs = [.str "NoName", .int x]) ∨ (∃ x, vs = [.str "Lack", .int x]) ∨ vs = [.str "LetGo"]
theorem dueK_held {cs : List Ct} {ns xs : List Int} : DueK (dueV (heldDue cs ns xs)) := by
  cases e : heldDue cs ns xs with
  | none => exact .inl rfl
  | some p =>
    obtain ⟨X, x⟩ := p
    rcases heldDue_two e with rfl | rfl
    · exact .inr (.inl ⟨x, rfl⟩)
    · exact .inr (.inr (.inl ⟨x, rfl⟩))
theorem dueK_ver {cs : List Ct} {ns : List Int} {v : V} : DueK (dueV (vDue cs ns v)) := by
  cases e : vDue cs ns v with
  | none => exact .inl rfl
  | some p =>
    obtain ⟨X, x⟩ := p
    cases v with
    | int n =>
      rcases verDue_two (show verDue cs ns n = _ from e) with rfl | rfl
      · exact .inr (.inl ⟨x, rfl⟩)
      · exact .inr (.inr (.inl ⟨x, rfl⟩))
    | _ => cases e
theorem shaped_two {X : Str} {x : Int} (h : PyData.canLay0 (.str X) = true) : SeqAt.shaped (.tuple [.str X, .int x]) = true := by
  show ((PyData.canLay0 (.str X) && (PyData.canLay0 (.int x) && true)) && decide (PyData.depthAll [.str X, .int x] + 1 ≤ 64)) = true
  rw [h]
  rfl
theorem shaped_one {X : Str} (h : PyData.canLay0 (.str X) = true) : SeqAt.shaped (.tuple [.str X]) = true := by
  show ((PyData.canLay0 (.str X) && true) && decide (PyData.depthAll [.str X] + 1 ≤ 64)) = true
  rw [h]
  rfl
theorem due_eq {K : PySem.W.Frag} {H : Hp} {Q : VK} {q O : Addr} {vs : List V} (hk : DueK vs) (hq : H q = some (.tup vs)) (hO : H O = some (.tup [])) (k : Q (.bl vs.isEmpty) H) : rEqD K (.ref q) (.ref O) H Q := by
  rcases hk with rfl | ⟨x, rfl⟩ | ⟨x, rfl⟩ | rfl
  · exact ⟨.tuple [], .tuple [], .tup (sqT hq) .nil, .tup (sqT hO) .nil, rfl, rfl, k⟩
  · exact ⟨.tuple [.str "NoName", .int x], .tuple [], .tup (sqT hq) (.cons (.str _) (.cons (.int _) .nil)), .tup (sqT hO) .nil, shaped_two (by decide +kernel), rfl, k⟩
  · exact ⟨.tuple [.str "Lack", .int x], .tuple [], .tup (sqT hq) (.cons (.str _) (.cons (.int _) .nil)), .tup (sqT hO) .nil, shaped_two (by decide +kernel), rfl, k⟩
  · exact ⟨.tuple [.str "LetGo"], .tuple [], .tup (sqT hq) (.cons (.str _) .nil), .tup (sqT hO) .nil, shaped_one (by decide +kernel), rfl, k⟩
theorem due_same {H : Hp} {p q : Addr} {vs : List V} (hk : DueK vs) (h1 : H p = some (.tup vs)) (h2 : H q = some (.tup vs)) : SameV H 6 (.ref p) (.ref q) := by
  refine SameV.tup h1 h2 rfl (by rcases hk with rfl | ⟨x, rfl⟩ | ⟨x, rfl⟩ | rfl <;> simp) fun i a b e1 e2 => ?_
  have e : a = b := Option.some.inj (e1.symm.trans e2)
  have hm := List.mem_of_getElem? e1
  refine Or.inl ⟨e, ?_⟩
  rcases hk with rfl | ⟨x, rfl⟩ | ⟨x, rfl⟩ | rfl
  · cases hm
  · simp only [List.mem_cons, List.not_mem_nil, or_false] at hm
    rcases hm with rfl | rfl
    · exact .inr (.inr (.inr ⟨_, rfl⟩))
    · exact .inr (.inl ⟨_, rfl⟩)
  · simp only [List.mem_cons, List.not_mem_nil, or_false] at hm
    rcases hm with rfl | rfl
    · exact .inr (.inr (.inr ⟨_, rfl⟩))
    · exact .inr (.inl ⟨_, rfl⟩)
  · simp only [List.mem_cons, List.not_mem_nil, or_false] at hm
    subst hm
    exact .inr (.inr (.inr ⟨_, rfl⟩))
section
variable [HasW]
def sp_l_far_deed (K : PySem.W.Frag) : Sp := fun vs H Q _ => ∃ (z : D55) (t n : Nat), vs = [.ref z.D, .ref z.h.A, .ref z.T, .ref z.R, .ref z.Fa] ∧ ErN K ∧ S55 K H z t n ∧ t + 100 < 1000000000 ∧ n ≤ 100 ∧ ∀ fr' H', S55 K H' { z with fr := fr' } (t + 100) (n + 1) → Q (.bl true) H'
theorem len_l_far_deed {K : PySem.W.Frag} {vs : List V} {H : Hp} {Q : VK} {E : XK} (h : sp_l_far_deed K vs H Q E) : vs.length = 5 := by obtain ⟨_, _, _, rfl, _⟩ := h; rfl
abbrev N_l_far_deed : List Str := ["_law_deck_here", "_law_house_here", "_law_things", "_law_here_here", "_law_far", "_law_label_here", "_law_mark", "_law_version", "_law_due"]
def t_l_far_deed_told (K : PySem.W.Frag) : TS := (tRet (tCall (sp_l_same2 K) [] E0 (tCons (tCall (sp_l_far_set K) [] E0 (tCons (tVar 1) (tCons (tVar 5) (tCons (tVar 6) (tCons (tVar 7) tNil))))) (tCons (tVar 8) tNil))))
def t_l_far_deed_due (K : PySem.W.Frag) : TS := (tSeq (tAsg (tCall (sp_l_version_due K) [] E0 (tCons (tVar 2) (tCons (tVar 3) (tCons (tVar 7) tNil)))) (gName 8))
    (tSeq (tIfS (tAnd (tTest (tOp (rEqD K) (tVar 8) (tTup tNil))) (tTest (tOp fNotN (tVar 7) (tC .non)))) (sDPut (tVar 4) (tTup (tCons (tVar 5) (tCons (tVar 6) tNil))) (tVar 7)) (tIfS (tAnd (tTest (tOp (rEqD K) (tVar 8) (tTup tNil))) (tB (tDIn (tTup (tCons (tVar 5) (tCons (tVar 6) tNil))) (tVar 4)))) (tDrop (tBM K "dict" rPopTA (tVar 4) (tCons (tTup (tCons (tVar 5) (tCons (tVar 6) tNil))) tNil))) tNext))
    (t_l_far_deed_told K)))
def t_l_far_deed (K : PySem.W.Frag) : TS := (tSeq (tAsg (tOp (rIx K) (tLst (tCons (tC (.str "a")) (tCons (tC (.str "b")) (tCons (tCall (sp_l_label K) [] E0 (tCons (tVar 0) tNil)) tNil)))) (tCall (sp_l_draw K) [] E0 (tCons (tVar 0) (tCons (tC (.int 3)) tNil)))) (gName 5))
    (tSeq (tAsg (tOp (rIx K) (tLst (tCons (tC (.str "a")) (tCons (tC (.str "main")) (tCons (tCall (sp_l_label K) [] E0 (tCons (tVar 0) tNil)) tNil)))) (tCall (sp_l_draw K) [] E0 (tCons (tVar 0) (tCons (tC (.int 3)) tNil)))) (gName 6))
    (tSeq (tAsg (tCall (sp_l_name55 K) [] E0 (tCons (tVar 0) (tCons (tVar 2) tNil))) (gName 7))
    (tSeq (tIfS (tTest (tOp rEq (tCall (sp_l_draw K) [] E0 (tCons (tVar 0) (tCons (tC (.int 4)) tNil))) (tC (.int 0)))) (tAsg (tC .non) (gName 7)) tNext)
    (t_l_far_deed_due K)))))
end
section
variable [HasW] {K : PySem.W.Frag} {vs : List V} {H H' : Hp} {Q : VK} {E : XK} {z : D55} {t n : Nat}
/-- the house's far marks are set as the law's own were -/
theorem far_told (er : ErN K) (x : S55 K H z t n) (hn : n ≤ 100) {H1 : Hp} {fr1 : List (PT × Int)} {l k : Str} {v : V} {q : Addr} (hv : v = .non ∨ ∃ n, v = .int n) (kf : Kf [z.Fa] H H1) (hFa : H1 z.Fa = some (.dT (frD fr1)))
    (e1 : fr1 = match vDue z.cs z.hn v with | none => frV z.fr (l, k) v | some _ => z.fr) (hq : H1 q = some (.tup (dueV (vDue z.cs z.hn v)))) (kk : ∀ fr' H', S55 K H' { z with fr := fr' } t (n + 1) → Q (.bl true) H') :
    t_l_far_deed_told K { nx := fun _ H' => Q .non H', rt := Q } [some (.ref z.D), some (.ref z.h.A), some (.ref z.T), some (.ref z.R), some (.ref z.Fa), some (.str l), some (.str k), some v, some (.ref q)] H1 := by
  have l2 := x.l2
  have nt : ∀ u ∈ [z.Fa], ∀ xs, H u ≠ some (.tup xs) := fun u hu xs e => by rw [List.mem_singleton.mp hu, x.hFa] at e; cases e
  obtain ⟨f, on⟩ := x.at [6] kf nt (fun u hu => ⟨6, by simp, by rw [List.mem_singleton.mp hu]; rfl⟩)
  have hF1 := f.hF (by simp)
  have nF : z.Fa ≠ z.h.F := nd_ix x.n1 (i := 6) (j := 14) rfl rfl (by decide)
  have nt2 : ∀ u ∈ [z.Fa, z.h.F], ∀ xs, H u ≠ some (.tup xs) := fun u hu xs e => by
    simp only [List.mem_cons, List.not_mem_nil, or_false] at hu
    rcases hu with rfl | rfl
    · rw [x.hFa] at e; cases e
    · rw [x.hF] at e; cases e
  refine ⟨_, rfl, _, rfl, _, rfl, _, rfl, z.h, z.b, z.cs, z.bas, z.hn, z.m, l, k, v, z.fr, rfl, er, f.hs (by simp) (by simp), f.bk (by simp) (by simp) (by simp) (by simp), hF1, by omega, hv, fun ok r H2 kf2 hr hF2 => ?_, fun e he r H2 s2 hr => ?_⟩
  · rw [ok] at e1 hq
    refine ⟨_, rfl, _, _, rfl, due_same (.inl rfl) hr (kf2 _ _ hq ?_), fun H3 s3 => ?_⟩
    · intro z; rw [List.mem_singleton.mp z, hF1] at hq; cases hq
    have kf3 : Kf [z.Fa, z.h.F] H H3 := ((kf.sub (by simp)).trans (kf2.sub (by simp))).trans (Kf.same s3)
    obtain ⟨g, on3⟩ := x.at [6, 14] kf3 nt2 (fun u hu => by
      simp only [List.mem_cons, List.not_mem_nil, or_false] at hu
      rcases hu with rfl | rfl
      · exact ⟨6, by simp, rfl⟩
      · exact ⟨14, by simp, rfl⟩)
    subst e1
    have lf : (frV z.fr (l, k) v).length ≤ z.fr.length + 1 ∧ ((frV z.fr (l, k) v).map (·.1)).Nodup := by
      rcases hv with rfl | ⟨i, rfl⟩
      · exact ⟨Nat.le_succ_of_le (frX_len _ _), frX_nd x.nf⟩
      · exact ⟨frP_len _ _ _, frP_nd x.nf⟩
    exact kk (frV z.fr (l, k) v) H3 ⟨g.dk (by simp) (by simp), g.th (by simp), g.bk (by simp) (by simp) (by simp) (by simp), g.hs (by simp) (by simp), g.hR (by simp), g.hS (by simp), g.hP (by simp), s3 _ _ hF2, g.hLp (by simp), g.hLo (by simp), s3 _ _ (kf2 _ _ hFa (by simpa using nF)), on3, x.nm, x.pos, x.fc, x.kp, x.of, lf.2, x.n1, x.n2, x.n3, Nat.le_succ_of_le x.l1, Nat.le_trans lf.1 (by omega), Nat.le_trans x.l3 (by omega)⟩
  · have hk : DueK (dueV (vDue z.cs z.hn v)) := dueK_ver
    rw [he] at e1 hq hk
    refine ⟨_, rfl, _, _, rfl, due_same hk hr (s2 _ _ hq), fun H3 s3 => ?_⟩
    have kf3 : Kf [z.Fa] H H3 := (kf.trans (Kf.same s2)).trans (Kf.same s3)
    obtain ⟨g, on3⟩ := x.at [6] kf3 nt (fun u hu => ⟨6, by simp, by rw [List.mem_singleton.mp hu]; rfl⟩)
    subst e1
    exact kk z.fr H3 ⟨g.dk (by simp) (by simp), g.th (by simp), g.bk (by simp) (by simp) (by simp) (by simp), g.hs (by simp) (by simp), g.hR (by simp), g.hS (by simp), g.hP (by simp), g.hF (by simp), g.hLp (by simp), g.hLo (by simp), s3 _ _ (s2 _ _ hFa), on3, x.nm, x.pos, x.fc, x.kp, x.of, x.nf, x.n1, x.n2, x.n3, Nat.le_succ_of_le x.l1, Nat.le_succ_of_le x.l2, Nat.le_trans x.l3 (by omega)⟩
theorem far_due (er : ErN K) (x : S55 K H z t n) (hn : n ≤ 100) {l k : Str} {v : V} (hv : v = .non ∨ ∃ n, v = .int n) (kk : ∀ fr' H', S55 K H' { z with fr := fr' } t (n + 1) → Q (.bl true) H') :
    t_l_far_deed_due K { nx := fun _ H' => Q .non H', rt := Q } [some (.ref z.D), some (.ref z.h.A), some (.ref z.T), some (.ref z.R), some (.ref z.Fa), some (.str l), some (.str k), some v, none] H := by
  have l2 := x.l2
  refine ⟨_, rfl, _, rfl, _, rfl, z.T, z.R, z.cs, z.hn, v, rfl, x.th, x.hR, hv, fun q H1 s1 nq hq => ?_⟩
  have x1 := x.same s1
  have hk : DueK (dueV (vDue z.cs z.hn v)) := dueK_ver
  refine ⟨_, rfl, by show (0 : Nat) ≤ sizeLine; decide, fun O nO => ?_⟩
  have sO : Same H1 (upd H1 O (.tup [])) := samN nO
  have hO : upd H1 O (.tup []) O = some (.tup []) := updS
  dsimp only [tNil] at nO ⊢
  generalize upd H1 O (.tup []) = H2 at sO hO ⊢
  have x2 := x1.same sO
  have hq2 := sO _ _ hq
  refine due_eq hk hq2 hO ⟨_, rfl, ?_⟩
  cases e : vDue z.cs z.hn v with
  | some p =>
    rw [e] at hq2
    refine iteF (iteF ?_)
    refine ⟨_, rfl, by show (0 : Nat) ≤ sizeLine; decide, fun O2 nO2 => ?_⟩
    have sO2 : Same H2 (upd H2 O2 (.tup [])) := samN nO2
    have hO2 : upd H2 O2 (.tup []) O2 = some (.tup []) := updS
    dsimp only [tNil] at nO2 ⊢
    generalize upd H2 O2 (.tup []) = H3 at sO2 hO2 ⊢
    have hk2 := hk
    rw [e] at hk2
    refine due_eq hk2 (sO2 _ _ hq2) hO2 ⟨_, rfl, iteF (iteF ?_)⟩
    have x3 := x2.same sO2
    exact far_told er x3 hn hv (Kf.refl) x3.hFa (by rw [e]) (by rw [e]; exact sO2 _ _ hq2) kk
  | none =>
    rw [e] at hq2
    refine iteT ?_
    rcases hv with rfl | ⟨i, rfl⟩
    · refine ⟨_, rfl, rfl, _, rfl, iteF ?_⟩
      refine ⟨_, rfl, by show (0 : Nat) ≤ sizeLine; decide, fun O2 nO2 => ?_⟩
      have sO2 : Same H2 (upd H2 O2 (.tup [])) := samN nO2
      have hO2 : upd H2 O2 (.tup []) O2 = some (.tup []) := updS
      dsimp only [tNil] at nO2 ⊢
      generalize upd H2 O2 (.tup []) = H3 at sO2 hO2 ⊢
      have x3 := x2.same sO2
      have hq3 := sO2 _ _ hq2
      refine due_eq (.inl rfl) hq3 hO2 ⟨_, rfl, iteT ?_⟩
      refine ⟨_, rfl, _, rfl, by show (2 : Nat) ≤ sizeLine; decide, fun T nT => ?_⟩
      have sT : Same H3 (upd H3 T (.tup [.str l, .str k])) := samN nT
      have hT : upd H3 T (.tup [.str l, .str k]) T = some (.tup ((pK (l, k)).map kV)) := updS
      dsimp only [tNil] at nT ⊢
      generalize upd H3 T (.tup [.str l, .str k]) = H4 at sT hT ⊢
      have x4 := x3.same sT
      have hq4 := sT _ _ hq3
      have g := DGet.t (k := pK (l, k)) x4.hFa hT
      rw [frD_val] at g
      refine ⟨_, rfl, z.Fa, _, rfl, g, _, rfl, ?_⟩
      cases eg : frG z.fr (l, k) with
      | none =>
        refine iteF ?_
        exact far_told er x4 hn (.inl rfl) (Kf.refl) x4.hFa (by rw [e]; exact (frX_none eg).symm) (by rw [e]; exact hq4) kk
      | some w =>
        refine iteT ?_
        refine ⟨_, rfl, .inr (.inr (.inl ⟨rfl, .inr ⟨_, x4.hFa⟩⟩)), ?_⟩
        refine ⟨_, rfl, _, rfl, by show (2 : Nat) ≤ sizeLine; decide, fun T2 nT2 => ?_⟩
        have sT2 : Same H4 (upd H4 T2 (.tup [.str l, .str k])) := samN nT2
        have hT2 : upd H4 T2 (.tup [.str l, .str k]) T2 = some (.tup ((pK (l, k)).map kV)) := updS
        dsimp only [tNil] at nT2 ⊢
        generalize upd H4 T2 (.tup [.str l, .str k]) = H5 at sT2 hT2 ⊢
        have x5 := x4.same sT2
        have hq5 := sT2 _ _ hq4
        refine .inr ⟨z.Fa, frD z.fr, pK (l, k), T2, .int w, rfl, rfl, x5.hFa, hT2, by rw [frD_val, eg]; rfl, ?_⟩
        rw [frD_drop]
        exact far_told er x5 hn (.inl rfl) ((Kf.refl).up (by simp)) updS (by rw [e]; rfl) (by rw [e]; exact updN (ne_of hq5 x5.hFa fun z => by cases z) hq5) kk
    · refine ⟨_, rfl, rfl, _, rfl, iteT ?_⟩
      refine ⟨_, rfl, _, rfl, _, rfl, _, rfl, by show (2 : Nat) ≤ sizeLine; decide, fun T nT => ?_⟩
      have sT : Same H2 (upd H2 T (.tup [.str l, .str k])) := samN nT
      have hT : upd H2 T (.tup [.str l, .str k]) T = some (.tup ((pK (l, k)).map kV)) := updS
      dsimp only [tNil] at nT ⊢
      generalize upd H2 T (.tup [.str l, .str k]) = H4 at sT hT ⊢
      have x4 := x2.same sT
      have hq4 := sT _ _ hq2
      refine ⟨z.Fa, _, rfl, DPut.t x4.hFa hT (by unfold frD; rw [List.length_map]; exact Nat.lt_of_le_of_lt (show z.fr.length ≤ 1000 by omega) (by decide)), ?_⟩
      rw [frD_put]
      exact far_told er x4 hn (.inr ⟨i, rfl⟩) ((Kf.refl).up (by simp)) updS (by rw [e]; rfl) (by rw [e]; exact updN (ne_of hq4 x4.hFa fun z => by cases z) hq4) kk
theorem three {a b c : Str} {w : Int} (w0 : 0 ≤ w) (w1 : w < 3) : ∃ s, atI [V.str a, V.str b, V.str c] w = some (.str s) := by
  obtain ⟨j, rfl⟩ := Int.eq_ofNat_of_zero_le w0
  have hj : j < 3 := by omega
  match j, hj with
  | 0, _ => exact ⟨a, atI_nat (j := 0) rfl⟩
  | 1, _ => exact ⟨b, atI_nat (j := 1) rfl⟩
  | 2, _ => exact ⟨c, atI_nat (j := 2) rfl⟩
theorem pure_l_far_deed (h : sp_l_far_deed K vs H Q E) : t_l_far_deed K { nx := fun _ H' => Q .non H', rt := Q } (start N_l_far_deed vs) H := by
  obtain ⟨z, t, n, rfl, er, x, ht, hn, k⟩ := h
  refine ⟨_, rfl, z.c, z.D, z.dn, t, rfl, x.dk, by omega, fun l1 H1 _ kp1 d1 => ⟨by show (3 : Nat) ≤ sizeLine; decide, fun L nL => ?_⟩⟩
  have x1 := x.drawn kp1 d1
  have sL : Same H1 (upd H1 L (.lst [.str "a", .str "b", .str l1])) := samN nL
  have hL : upd H1 L (.lst [.str "a", .str "b", .str l1]) L = some (.lst [.str "a", .str "b", .str l1]) := updS
  dsimp only [tNil] at nL ⊢
  have nLD := d1.neD nL
  generalize upd H1 L (.lst [.str "a", .str "b", .str l1]) = H2 at sL hL ⊢
  have x2 := x1.same sL
  refine ⟨_, rfl, z.c, z.D, z.dn, _, 3, rfl, x2.dk, by omega, by decide, by decide, fun w H3 w0 w1 d3 fr3 => ?_⟩
  obtain ⟨s, hs⟩ := three (a := "a") (b := "b") (c := l1) w0 w1
  refine ixL (by rw [fr3 _ nLD]; exact hL) hs ?_
  have x3 := x2.drawn (.fr fr3) d3
  refine ⟨_, rfl, z.c, z.D, z.dn, _, rfl, x3.dk, by omega, fun l2 H4 _ kp4 d4 => ⟨by show (3 : Nat) ≤ sizeLine; decide, fun L2 nL2 => ?_⟩⟩
  have x4 := x3.drawn kp4 d4
  have sL2 : Same H4 (upd H4 L2 (.lst [.str "a", .str "main", .str l2])) := samN nL2
  have hL2 : upd H4 L2 (.lst [.str "a", .str "main", .str l2]) L2 = some (.lst [.str "a", .str "main", .str l2]) := updS
  dsimp only [tNil] at nL2 ⊢
  have nLD2 := d4.neD nL2
  generalize upd H4 L2 (.lst [.str "a", .str "main", .str l2]) = H5 at sL2 hL2 ⊢
  have x5 := x4.same sL2
  refine ⟨_, rfl, z.c, z.D, z.dn, _, 3, rfl, x5.dk, by omega, by decide, by decide, fun w2 H6 w02 w12 d6 fr6 => ?_⟩
  obtain ⟨s2, hs2⟩ := three (a := "a") (b := "main") (c := l2) w02 w12
  refine ixL (by rw [fr6 _ nLD2]; exact hL2) hs2 ?_
  have x6 := x5.drawn (.fr fr6) d6
  refine ⟨_, rfl, _, rfl, z.c, z.D, z.T, z.dn, _, z.cs, rfl, x6.dk, nd_ix x.n1 (i := 2) (j := 1) rfl rfl (by decide), x6.th, x6.pos, by omega, fun v H7 kp7 d7 => ?_⟩
  have x7 := x6.drawn kp7 d7
  refine ⟨_, rfl, z.c, z.D, z.dn, _, 4, rfl, x7.dk, by omega, by decide, by decide, fun w3 H8 w03 w13 d8 fr8 => ⟨rfl, _, rfl, ?_⟩⟩
  have x8 := (x7.drawn (.fr fr8) d8).more (t' := t + 100) (n' := n) (by omega) (Nat.le_refl _)
  by_cases e : w3 = 0
  · subst e
    refine iteT ?_
    exact far_due er x8 hn (.inl rfl) k
  · rw [decide_eq_false fun z => e (V.int.inj z)]
    refine iteF ?_
    exact far_due er x8 hn (.inr ⟨v, rfl⟩) k
end
end Fw
set_option Elab.async false
set_option linter.all false
set_option maxRecDepth 100000
set_option maxHeartbeats 1000000
namespace Fw
open PySem L2 RZ RT
theorem ixN_55 {n j : Nat} (h : j < n) : ixN n (j : Int) = some j := by
  unfold ixN
  rw [if_pos (by omega), if_pos (by omega), Int.toNat_natCast]
def OnA.down (e : OnA) : OnA := { e with kept := e.kept && !e.off }
theorem map_set_same {α β : Type} (g : α → β) {l : List α} {j : Nat} {e e' : α} (he : l[j]? = some e) (h : g e' = g e) : (l.set j e').map g = l.map g := by
  refine List.ext_getElem? fun i => ?_
  rw [List.getElem?_map, List.getElem?_map, List.getElem?_set]
  by_cases q : j = i
  · subst q
    have hl := (List.getElem?_eq_some_iff.mp he).1
    rw [if_pos rfl, if_pos hl, he]
    exact congrArg some h
  · rw [if_neg q]
theorem kept_set {l : List OnA} {j : Nat} {e e' : OnA} (he : l[j]? = some e) (h1 : e'.kept = e.kept) (h2 : e'.p.A = e.p.A) : ((l.set j e').filter (·.kept)).map (fun e => V.ref e.p.A) = (l.filter (·.kept)).map fun e => V.ref e.p.A := by
  have h : ∀ l : List OnA, (l.filter (·.kept)).map (fun e => V.ref e.p.A) = ((l.map fun e => (e.kept, V.ref e.p.A)).filter (·.1)).map (·.2) := fun l => by
    rw [List.filter_map, List.map_map]
    rfl
  rw [h, h, map_set_same (fun e : OnA => (e.kept, V.ref e.p.A)) he (by show (e'.kept, V.ref e'.p.A) = (e.kept, V.ref e.p.A); rw [h1, h2])]
theorem onsK_set : ∀ {l : List OnA} {j : Nat} {e e' : OnA}, l[j]? = some e → (onsK (l.set j e')).length + e.ks.length = (onsK l).length + e'.ks.length
  | [], j, e, e', h => by simp at h
  | f :: l, 0, e, e', h => by
    cases Option.some.inj h
    show (onsK (e' :: l)).length + _ = (onsK (f :: l)).length + _
    unfold onsK
    rw [List.flatMap_cons, List.flatMap_cons, List.length_append, List.length_append]
    omega
  | f :: l, j + 1, e, e', h => by
    have ih := onsK_set (l := l) (j := j) (e := e) (e' := e') (by simpa using h)
    show (onsK (f :: l.set j e')).length + _ = (onsK (f :: l)).length + _
    unfold onsK at ih ⊢
    rw [List.flatMap_cons, List.flatMap_cons, List.length_append, List.length_append]
    omega
theorem down_filter (os : List OnA) : ((os.map OnA.down).filter (·.kept)).map (fun e => V.ref e.p.A) = ((psOf os).filter fun p => !p.2.2).map fun p => V.ref p.1.A := by
  induction os with
  | nil => rfl
  | cons e os ih =>
    unfold psOf at ih ⊢
    rw [List.map_cons, List.filter_cons]
    cases h1 : e.kept with
    | false =>
      rw [show e.down.kept = false by unfold OnA.down; rw [h1]; rfl, List.filter_cons, h1]
      exact ih
    | true =>
      rw [List.filter_cons, h1, if_pos rfl, List.map_cons, List.filter_cons]
      cases h2 : e.off with
      | false =>
        rw [show e.down.kept = true by unfold OnA.down; rw [h1, h2]; rfl, if_pos rfl, List.map_cons, ih]
        rfl
      | true =>
        rw [show e.down.kept = false by unfold OnA.down; rw [h1, h2]; rfl]
        exact ih
theorem onsK_down (os : List OnA) : onsK (os.map OnA.down) = onsK os := by
  unfold onsK
  rw [List.flatMap_map]
  rfl
section
variable [HasW]
def sp_l_pin_deed (K : PySem.W.Frag) : Sp := fun vs H Q _ => ∃ (z : D55) (t n : Nat), vs = [.ref z.D, .ref z.h.A, .ref z.T, .ref z.R, .ref z.Lp, .ref z.Lo] ∧ PnC K ∧ ErN K ∧ LgE K ∧ S55 K H z t n ∧ t + 100 < 1000000000 ∧ n ≤ 100 ∧ ∀ P os' H', S55 K H' { z with h := { z.h with P := P }, os := os' } (t + 100) (n + 1) → Q (.bl true) H'
theorem len_l_pin_deed {K : PySem.W.Frag} {vs : List V} {H : Hp} {Q : VK} {E : XK} (h : sp_l_pin_deed K vs H Q E) : vs.length = 6 := by obtain ⟨_, _, _, rfl, _⟩ := h; rfl
abbrev N_l_pin_deed : List Str := ["_law_deck_here", "_law_house_here", "_law_things", "_law_here_here", "_law_pins", "_law_ons", "_law_pick", "_law_names", "_law_due", "_law_k", "_law_which", "_law_name_here"]
def t_l_pin_deed_told (K : PySem.W.Frag) : TS := (tRet (tCall (sp_l_same2 K) [] E0 (tCons (tCall (sp_l_pinned K) [] E0 (tCons (tVar 1) (tCons (tVar 4) (tCons (tCB (fTupleOf K) (tCons (tVar 7) tNil)) tNil)))) (tCons (tVar 8) tNil))))
def t_l_pin_deed_new (K : PySem.W.Frag) : TS := (tSeq (tAsg (tLc (iRng1 (tCons (tCall (sp_l_draw K) [] E0 (tCons (tVar 0) (tCons (tC (.int 4)) tNil))) tNil)) (gName 9) tYes (tCall (sp_l_name55 K) [] E0 (tCons (tVar 0) (tCons (tVar 2) tNil))) [9]) (gName 7))
    (tSeq (tAsg (tCall (sp_l_names_due K) [] E0 (tCons (tVar 2) (tCons (tVar 3) (tCons (tVar 7) tNil)))) (gName 8))
    (tSeq (tIfS (tTest (tOp (rEqD K) (tVar 8) (tTup tNil))) (tDrop (tBM K "list" rAppend (tVar 5) (tCons (tLst (tCons (tCall (sp_l_here55 K) [] E0 (tCons (tVar 7) tNil)) (tCons (tC (.bl true)) tNil))) tNil))) tNext)
    (t_l_pin_deed_told K))))
def t_l_pin_deed_off (K : PySem.W.Frag) : TS := (tSeq (tDrop (tMeth (He.ga K "Pin") "let_go" (sp_Pin_let_go K) [] E0 (tOp (rIx K) (tVar 4) (tVar 10)) tNil))
    (tSeq (tAsg (tLst (tCons tDNewK (tCons (tC (.bl false)) tNil))) (gSub (tVar 5) (tVar 10) rSetL))
    (tRet (tC (.bl true)))))
def t_l_pin_deed_put (K : PySem.W.Frag) : TS := (tSeq (tIfS (tTest (tOp (rEqD K) (tVar 8) (tTup tNil))) (sDPut (tOp (rIx K) (tOp (rIx K) (tVar 5) (tVar 10)) (tC (.int 0))) (tVar 11) (tC (.bl true))) tNext)
    (tRet (tCall (sp_l_same2 K) [] E0 (tCons (tCall (sp_l_added K) [] E0 (tCons (tOp (rIx K) (tVar 4) (tVar 10)) (tCons (tVar 11) tNil))) (tCons (tVar 8) tNil)))))
def t_l_pin_deed_add (K : PySem.W.Frag) : TS := (tSeq (tAsg (tCall (sp_l_name55 K) [] E0 (tCons (tVar 0) (tCons (tVar 2) tNil))) (gName 11))
    (tSeq (tAsg (tCall (sp_l_names_due K) [] E0 (tCons (tVar 2) (tCons (tVar 3) (tCons (tLst (tCons (tVar 11) tNil)) tNil)))) (gName 8))
    (tSeq (tIfS (tNot (tB (tOp (rIx K) (tOp (rIx K) (tVar 5) (tVar 10)) (tC (.int 1))))) (tAsg (tTup (tCons (tC (.str "LetGo")) tNil)) (gName 8)) tNext)
    (t_l_pin_deed_put K))))
def t_l_pin_deed_which (K : PySem.W.Frag) : TS := (tSeq (tAsg (tCall (sp_l_draw K) [] E0 (tCons (tVar 0) (tCons (tCB (fLen K) (tCons (tVar 4) tNil)) tNil))) (gName 10))
    (tSeq (tIfS (tTest (tOp rEq (tVar 6) (tC (.int 1)))) (t_l_pin_deed_off K) tNext)
    (t_l_pin_deed_add K)))
def t_l_pin_deed (K : PySem.W.Frag) : TS := (tSeq (tAsg (tCall (sp_l_draw K) [] E0 (tCons (tVar 0) (tCons (tC (.int 4)) tNil))) (gName 6))
    (tSeq (tIfS (tOr (tTest (tOp rEq (tVar 6) (tC (.int 0)))) (tTest (tOp rEq (tCB (fLen K) (tCons (tVar 4) tNil)) (tC (.int 0))))) (t_l_pin_deed_new K) tNext)
    (t_l_pin_deed_which K)))
end
section
variable [HasW] {K : PySem.W.Frag} {vs : List V} {H H' : Hp} {Q : VK} {E : XK} {z : D55} {t n : Nat}
theorem S55.set (x : S55 K H z t n) {j : Nat} {e e' : OnA} {F : List Addr} (he : z.os[j]? = some e) (kf : Kf F H H') (nt : ∀ u ∈ F, ∀ xs, H u ≠ some (.tup xs)) (hF : ∀ u ∈ F, u ∈ e.ft ∨ u = z.Lo) (hLo : H' z.Lo = some (.lst ((z.os.set j e').map fun e => V.ref e.o))) (eA : e'.p.A = e.p.A) (ek : e'.kept = e.kept)
    (on' : On2 K H' z.h.A e') (nw : ∀ y ∈ e'.ft, y ∈ e.ft ∨ H y = none) (kp' : e'.kept = false → e'.off = true) (of' : e'.off = true → e'.ks = []) (lk : e'.ks.length ≤ e.ks.length + 3) : S55 K H' { z with os := z.os.set j e' } t (n + 1) := by
  have me := List.mem_of_getElem? he
  have hl := (List.getElem?_eq_some_iff.mp he).1
  have g : Fx55 K H' z t [5] := x.core kf nt fun i y hi hn hy => by
    rcases hF y hy with h | h
    · exact x.n2 e me y h (List.mem_of_getElem? hi)
    · exact nd_ix x.n1 hi (j := 5) (y := z.Lo) rfl (fun w => hn (by rw [w]; simp)) h
  have onk : ∀ (k : Nat) (f : OnA), z.os[k]? = some f → k ≠ j → On2 K H' z.h.A f := fun k f hk hn => (x.on f (List.mem_of_getElem? hk)).kf kf fun y hy hz => by
    rcases hF y hz with h | h
    · exact x.n3 k j f e hk he hn y hy h
    · exact x.n2 f (List.mem_of_getElem? hk) y hy (by rw [h]; exact List.mem_of_getElem? (i := 5) rfl)
  have ix : ∀ (k : Nat) (f : OnA), (z.os.set j e')[k]? = some f → (k = j ∧ f = e') ∨ (k ≠ j ∧ z.os[k]? = some f) := fun k f hk => by
    rw [List.getElem?_set] at hk
    by_cases q : j = k
    · subst q
      rw [if_pos rfl, if_pos hl] at hk
      exact .inl ⟨rfl, (Option.some.inj hk).symm⟩
    · rw [if_neg q] at hk
      exact .inr ⟨fun w => q w.symm, hk⟩
  have all : ∀ {p : OnA → Prop}, p e' → (∀ f ∈ z.os, p f) → ∀ f ∈ z.os.set j e', p f := fun h1 h2 f hf => by
    obtain ⟨k, hk⟩ := List.mem_iff_getElem?.mp hf
    rcases ix k f hk with ⟨_, rfl⟩ | ⟨_, h⟩
    · exact h1
    · exact h2 f (List.mem_of_getElem? h)
  have lo := onsK_set (l := z.os) (j := j) (e := e) (e' := e') he
  have l3 := x.l3
  refine ⟨g.dk (by simp) (by simp), g.th (by simp), g.bk (by simp) (by simp) (by simp) (by simp), g.hs (by simp) (by simp), g.hR (by simp), g.hS (by simp), ?_, g.hF (by simp), ?_, hLo, g.hFa (by simp), ?_, x.nm, x.pos, x.fc, all kp' x.kp, all of' x.of, x.nf, x.n1, ?_, ?_, ?_, Nat.le_succ_of_le x.l2, ?_⟩
  · show H' z.h.P = some (.lst (((z.os.set j e').filter (·.kept)).map fun e => V.ref e.p.A))
    rw [kept_set he ek eA]
    exact g.hP (by simp)
  · show H' z.Lp = some (.lst ((z.os.set j e').map fun e => V.ref e.p.A))
    rw [map_set_same (fun e : OnA => V.ref e.p.A) he (by show V.ref e'.p.A = V.ref e.p.A; rw [eA])]
    exact g.hLp (by simp)
  · intro f hf
    obtain ⟨k, hk⟩ := List.mem_iff_getElem?.mp hf
    rcases ix k f hk with ⟨_, rfl⟩ | ⟨hn, h⟩
    · exact on'
    · exact onk k f h hn
  · refine all (fun y hy hh => ?_) x.n2
    rcases nw y hy with h | h
    · exact x.n2 e me y h hh
    · exact x.alive hh h
  · intro i k f1 f2 hi hk hik y h1 h2
    rcases ix i f1 hi with ⟨rfl, rfl⟩ | ⟨hn1, g1⟩ <;> rcases ix k f2 hk with ⟨rfl, rfl⟩ | ⟨hn2, g2⟩
    · exact hik rfl
    · rcases nw y h1 with h | h
      · exact x.n3 i k e f2 he g2 hik y h h2
      · exact (x.on f2 (List.mem_of_getElem? g2)).alive h2 h
    · rcases nw y h2 with h | h
      · exact x.n3 i k f1 e g1 he hik y h1 h
      · exact (x.on f1 (List.mem_of_getElem? g1)).alive h1 h
    · exact x.n3 i k f1 f2 g1 g2 hik y h1 h2
  · show (z.os.set j e').length ≤ n + 1
    rw [List.length_set]
    exact Nat.le_succ_of_le x.l1
  · show (onsK (z.os.set j e')).length ≤ 3 * (n + 1)
    omega
theorem onsK_mem_len {l : List OnA} {e : OnA} (h : e ∈ l) : e.ks.length ≤ (onsK l).length := by
  induction l with
  | nil => cases h
  | cons f l ih =>
    unfold onsK at ih ⊢
    rw [List.flatMap_cons, List.length_append]
    rcases List.mem_cons.mp h with rfl | h
    · omega
    · have := ih h; omega
/-- a pin let go -/
theorem pin_off (x : S55 K H z t n) {j : Nat} (hj : j < z.os.length) {z6 z7 z8 z9 z11 : Option V} (kk : ∀ P os' H', S55 K H' { z with h := { z.h with P := P }, os := os' } t (n + 1) → Q (.bl true) H') :
    t_l_pin_deed_off K { nx := fun _ H' => Q .non H', rt := Q } [some (.ref z.D), some (.ref z.h.A), some (.ref z.T), some (.ref z.R), some (.ref z.Lp), some (.ref z.Lo), z6, z7, z8, z9, some (.int (j : Nat)), z11] H := by
  have he : z.os[j]? = some z.os[j] := List.getElem?_eq_getElem hj
  have o2 := x.on _ (List.getElem_mem hj)
  generalize z.os[j] = e at he o2
  obtain ⟨dx, hA⟩ := o2.pn.ho
  refine ⟨_, rfl, _, rfl, ixL x.hLp (atI_nat (by rw [List.getElem?_map, he]; rfl)) ⟨_, dx, _, rfl, hA, by rfl, e.p, z.h.A, e.ks, e.off, rfl, o2.pn, fun I H1 kf nI pn1 => ?_⟩⟩
  refine fun F nF => ⟨by show (2 : Nat) ≤ sizeLine; decide, fun O nO => ?_⟩
  have sF : Same H1 (upd H1 F (.dK [])) := samN nF
  have hF : upd H1 F (.dK []) F = some (.dK (nmD [])) := updS
  dsimp only [tNil] at nO ⊢
  generalize upd H1 F (.dK []) = H2 at sF hF nO ⊢
  have sO : Same H2 (upd H2 O (.lst [.ref F, .bl false])) := samN nO
  have hO : upd H2 O (.lst [.ref F, .bl false]) O = some (.lst [.ref F, .bl false]) := updS
  generalize upd H2 O (.lst [.ref F, .bl false]) = H3 at sO hO ⊢
  have s13 := sF.trans sO
  have nAL : z.Lo ∉ [e.p.A] := fun w => x.n2 e (List.mem_of_getElem? he) e.p.A (by simp [OnA.ft]) (by rw [← List.mem_singleton.mp w]; exact List.mem_of_getElem? (i := 5) rfl)
  have hLo3 := s13 _ _ (kf _ _ x.hLo nAL)
  refine ⟨_, rfl, _, rfl, z.Lo, _, _, j, rfl, rfl, hLo3, ixN_55 (by rw [List.length_map]; exact hj), ?_⟩
  have nFn : H F = none := by
    cases w : H F with
    | none => rfl
    | some o =>
      by_cases q : F = e.p.A
      · obtain ⟨dx1, h1⟩ := pn1.ho
        rw [q] at nF
        have h1 : H1 e.p.A = _ := h1
        rw [nF] at h1; cases h1
      · rw [kf _ _ w (by simpa using q)] at nF; cases nF
  have nOn : H O = none := by
    cases w : H O with
    | none => rfl
    | some o =>
      by_cases q : O = e.p.A
      · obtain ⟨dx1, h1⟩ := pn1.ho
        have h1 : H1 e.p.A = _ := h1
        rw [q, sF _ _ h1] at nO; cases nO
      · rw [sF _ _ (kf _ _ w (by simpa using q))] at nO; cases nO
  have nLF : F ≠ z.Lo := fun w => x.alive (List.mem_of_getElem? (i := 5) rfl) (by rw [← w]; exact nFn)
  have nLO : O ≠ z.Lo := fun w => x.alive (List.mem_of_getElem? (i := 5) rfl) (by rw [← w]; exact nOn)
  have nLA : e.p.A ≠ z.Lo := fun w => nAL (by rw [w]; simp)
  have nLI : I ≠ z.Lo := fun w => x.alive (List.mem_of_getElem? (i := 5) rfl) (by rw [← w]; exact nI)
  have nOF : O ≠ F := fun w => by rw [w, hF] at nO; cases nO
  obtain ⟨dx1, h1⟩ := pn1.ho
  have hI1 := pn1.hI
  have nAF : e.p.A ≠ F := ne_of_none h1 nF
  have nIF : I ≠ F := ne_of_none hI1 nF
  have nAO : e.p.A ≠ O := ne_of_none (sF _ _ h1) nO
  have nIO : I ≠ O := ne_of_none (sF _ _ hI1) nO
  have kl : Kf [z.Lo] H3 (upd H3 z.Lo (.lst ((z.os.map fun e => V.ref e.o).set j (.ref O)))) := (Kf.refl).up (by simp)
  refine kk z.h.P (z.os.set j ⟨⟨e.p.A, I⟩, O, F, [], true, e.kept⟩) _ ?_
  refine x.set (F := [e.p.A, z.Lo]) he (((kf.sub (by simp)).trans (Kf.same s13)).trans (kl.sub (by simp))) (fun u hu xs w => ?_) (fun u hu => ?_) ?_ rfl rfl ⟨⟨updN nLO hO, updN nLF (sO _ _ hF)⟩, ?_, ?_⟩ (fun y hy => ?_) (fun _ => rfl) (fun _ => rfl) (by show 0 ≤ _; omega)
  · simp only [List.mem_cons, List.not_mem_nil, or_false] at hu
    rcases hu with rfl | rfl
    · rw [hA] at w; cases w
    · rw [x.hLo] at w; cases w
  · simp only [List.mem_cons, List.not_mem_nil, or_false] at hu
    rcases hu with rfl | rfl
    · exact .inl (by simp [OnA.ft])
    · exact .inr rfl
  · rw [List.map_set]
    exact updS
  · exact (pn1.same s13).kf kl (fun y hy => by
      simp only [List.mem_cons, List.not_mem_nil, or_false] at hy ⊢
      rcases hy with rfl | rfl
      · exact nLA
      · exact nLI)
  · show [e.p.A, I, O, F].Nodup
    have := pn1.ne
    simp [nAO, nAF, nIO, nIF, nOF, show e.p.A ≠ I from this]
  · have hy : y ∈ [e.p.A, I, O, F] := hy
    simp only [List.mem_cons, List.not_mem_nil, or_false] at hy
    rcases hy with rfl | rfl | rfl | rfl
    · exact .inl (by simp [OnA.ft])
    · exact .inr nI
    · exact .inr nOn
    · exact .inr nFn
end
end Fw
set_option Elab.async false
set_option linter.all false
set_option maxRecDepth 100000
set_option maxHeartbeats 1000000
namespace Fw
open PySem L2 RZ RT
section
variable [HasW] {K : PySem.W.Frag} {vs : List V} {H H' : Hp} {Q : VK} {E : XK} {z : D55} {t n : Nat}
/-- a name put into a pin -/
theorem pin_put (er : ErN K) (lg : LgE K) (x : S55 K H z t n) (hn : n ≤ 100) {j : Nat} {e : OnA} (he : z.os[j]? = some e) {v : Int} {q : Addr} {dv : List V} (hk : DueK dv) (hq : H q = some (.tup dv)) (ed : dv = if e.off = true then [.str "LetGo"] else dueV (heldDue z.cs z.hn [v])) {z6 z7 z9 : Option V}
    (kk : ∀ P os' H', S55 K H' { z with h := { z.h with P := P }, os := os' } t (n + 1) → Q (.bl true) H') :
    t_l_pin_deed_put K { nx := fun _ H' => Q .non H', rt := Q } [some (.ref z.D), some (.ref z.h.A), some (.ref z.T), some (.ref z.R), some (.ref z.Lp), some (.ref z.Lo), z6, z7, some (.ref q), z9, some (.int (j : Nat)), some (.int v)] H := by
  have me := List.mem_of_getElem? he
  have l3 := x.l3
  have lk := onsK_mem_len me
  refine ⟨_, rfl, by show (0 : Nat) ≤ sizeLine; decide, fun O nO => ?_⟩
  have sO : Same H (upd H O (.tup [])) := samN nO
  have hO : upd H O (.tup []) O = some (.tup []) := updS
  dsimp only [tNil] at nO ⊢
  generalize upd H O (.tup []) = H1 at sO hO ⊢
  have x1 := x.same sO
  have hq1 := sO _ _ hq
  have o1 := x1.on e me
  refine due_eq hk hq1 hO ⟨_, rfl, ?_⟩
  obtain ⟨dx, hA⟩ := o1.pn.ho
  cases eo : e.off with
  | true =>
    rw [eo, if_pos rfl] at ed
    subst ed
    refine iteF ?_
    refine ⟨_, rfl, _, rfl, ixL x1.hLp (atI_nat (by rw [List.getElem?_map, he]; rfl)) ⟨_, rfl, e.p, z.h, z.b, z.cs, z.bas, z.hn, e.ks, z.m, v, e.off, rfl, er, lg, o1.pn, x1.hs, x1.bk, by omega, fun _ r H2 s2 hr => ?_, fun w => absurd (eo.symm.trans w) (by decide), fun w => absurd (eo.symm.trans w) (by decide)⟩⟩
    refine ⟨_, rfl, _, _, rfl, due_same hk hr (s2 _ _ hq1), fun H3 s3 => kk z.h.P z.os H3 (((x1.same s2).same s3).more (Nat.le_refl _) (by omega))⟩
  | false =>
    rw [eo, if_neg (by decide)] at ed
    cases ed1 : heldDue z.cs z.hn [v] with
    | some p =>
      rw [ed1] at ed
      subst ed
      refine iteF ?_
      refine ⟨_, rfl, _, rfl, ixL x1.hLp (atI_nat (by rw [List.getElem?_map, he]; rfl)) ⟨_, rfl, e.p, z.h, z.b, z.cs, z.bas, z.hn, e.ks, z.m, v, e.off, rfl, er, lg, o1.pn, x1.hs, x1.bk, by omega, fun w => absurd (eo.symm.trans w) (by decide), fun _ w => absurd (ed1.symm.trans w) (by simp), fun _ p' w r H2 s2 hr => ?_⟩⟩
      rw [ed1] at w
      cases Option.some.inj w
      exact ⟨_, rfl, _, _, rfl, due_same hk hr (s2 _ _ hq1), fun H3 s3 => kk z.h.P z.os H3 (((x1.same s2).same s3).more (Nat.le_refl _) (by omega))⟩
    | none =>
      rw [ed1] at ed
      subst ed
      refine iteT ?_
      refine ⟨_, rfl, _, rfl, ixL x1.hLo (atI_nat (by rw [List.getElem?_map, he]; rfl)) (ixL (i := 0) o1.a.ho (atI_nat (j := 0) rfl) ⟨_, rfl, e.d, _, rfl, DPut.k (k := Sum.inl v) o1.a.hd (by rw [List.length_map]; exact Nat.lt_of_le_of_lt (show e.ks.length ≤ 1000 by omega) (by decide)), ?_⟩)⟩
      rw [nmD_insM]
      have kd : Kf [e.d] H1 (upd H1 e.d (.dK (nmD (insM e.ks v)))) := (Kf.refl).up (by simp)
      have hd2 : upd H1 e.d (.dK (nmD (insM e.ks v))) e.d = some (.dK (nmD (insM e.ks v))) := updS
      generalize upd H1 e.d (.dK (nmD (insM e.ks v))) = H2 at kd hd2 ⊢
      have nd := o1.nd
      simp only [OnA.ft, List.nodup_cons, List.mem_cons, List.not_mem_nil, or_false, not_or] at nd
      obtain ⟨⟨nAI, nAo, nAd⟩, ⟨nIo, nId⟩, nod, _⟩ := nd
      have pn2 := o1.pn.kf kd (fun y hy => by
        simp only [List.mem_cons, List.not_mem_nil, or_false] at hy ⊢
        rcases hy with rfl | rfl
        · exact nAd
        · exact nId)
      have ntd : ∀ u ∈ [e.d], ∀ xs, H1 u ≠ some (.tup xs) := fun u hu xs w => by rw [List.mem_singleton.mp hu, o1.a.hd] at w; cases w
      obtain ⟨g, _⟩ := x1.atE he kd ntd (fun u hu => by rw [List.mem_singleton.mp hu]; simp [OnA.ft])
      have hq2 := kd _ _ hq1 (fun w => by rw [List.mem_singleton.mp w, o1.a.hd] at hq1; cases hq1)
      refine ⟨_, rfl, _, rfl, ixL (g.hLp (by simp)) (atI_nat (by rw [List.getElem?_map, he]; rfl)) ⟨_, rfl, e.p, z.h, z.b, z.cs, z.bas, z.hn, e.ks, z.m, v, e.off, rfl, er, lg, pn2, g.hs (by simp) (by simp), g.bk (by simp) (by simp) (by simp) (by simp), by omega, fun w => absurd (eo.symm.trans w) (by decide), fun _ _ r H3 kf hr pn3 => ?_, fun _ p' w => absurd (ed1.symm.trans w) (by simp)⟩⟩
      have nqI : q ∉ [e.p.I] := fun w => by rw [List.mem_singleton.mp w, pn2.hI] at hq2; cases hq2
      refine ⟨_, rfl, _, _, rfl, due_same (.inl rfl) hr (kf _ _ hq2 nqI), fun H4 s4 => ?_⟩
      have kf2 : Kf [e.d, e.p.I] H1 H4 := ((kd.sub (by simp)).trans (kf.sub (by simp))).trans (Kf.same s4)
      refine kk z.h.P (z.os.set j { e with ks := insM e.ks v }) H4 ?_
      refine x1.set he kf2 (fun u hu xs w => ?_) (fun u hu => .inl ?_) ?_ rfl rfl ⟨⟨?_, ?_⟩, ?_, ?_⟩ (fun y hy => .inl hy) (x1.kp e me) (fun w => absurd (eo.symm.trans w) (by decide)) ?_
      · simp only [List.mem_cons, List.not_mem_nil, or_false] at hu
        rcases hu with rfl | rfl
        · rw [o1.a.hd] at w; cases w
        · rw [o1.pn.hI] at w; cases w
      · simp only [List.mem_cons, List.not_mem_nil, or_false] at hu
        rcases hu with rfl | rfl <;> simp [OnA.ft]
      · rw [map_set_same (e' := { e with ks := insM e.ks v }) (fun e : OnA => V.ref e.o) he rfl]
        have me5 : z.Lo ∈ z.hd := List.mem_of_getElem? (i := 5) rfl
        refine kf2 _ _ x1.hLo fun w => ?_
        simp only [List.mem_cons, List.not_mem_nil, or_false] at w
        rcases w with w | w
        · exact x.n2 e me e.d (by simp [OnA.ft]) (by rw [← w]; exact me5)
        · exact x.n2 e me e.p.I (by simp [OnA.ft]) (by rw [← w]; exact me5)
      · refine kf2 _ _ o1.a.ho ?_
        simp [nod, Ne.symm nIo]
      · exact s4 _ _ (kf _ _ hd2 (by simpa using Ne.symm nId))
      · show PnAt K H4 e.p z.h.A (insM e.ks v) e.off
        rw [eo]
        exact pn3.same s4
      · exact o1.nd
      · show (insM e.ks v).length ≤ e.ks.length + 3
        unfold insM
        split
        · omega
        · rw [List.length_append, List.length_singleton]; omega
theorem pin_add (er : ErN K) (lg : LgE K) (x : S55 K H z t n) (hn : n ≤ 100) (ht : t + 10 < 1000000000) {j : Nat} (hj : j < z.os.length) {z6 z7 z8 z9 z11 : Option V} (kk : ∀ P os' H', S55 K H' { z with h := { z.h with P := P }, os := os' } (t + 3) (n + 1) → Q (.bl true) H') :
    t_l_pin_deed_add K { nx := fun _ H' => Q .non H', rt := Q } [some (.ref z.D), some (.ref z.h.A), some (.ref z.T), some (.ref z.R), some (.ref z.Lp), some (.ref z.Lo), z6, z7, z8, z9, some (.int (j : Nat)), z11] H := by
  refine ⟨_, rfl, _, rfl, z.c, z.D, z.T, z.dn, t, z.cs, rfl, x.dk, nd_ix x.n1 (i := 2) (j := 1) rfl rfl (by decide), x.th, x.pos, by omega, fun v H1 kp1 d1 => ?_⟩
  have x1 := x.drawn kp1 d1
  refine ⟨_, rfl, _, rfl, _, rfl, by show (1 : Nat) ≤ sizeLine; decide, fun N nN => ?_⟩
  have sN : Same H1 (upd H1 N (.lst [.int v])) := samN nN
  have hN : upd H1 N (.lst [.int v]) N = some (.lst ([v].map V.int)) := updS
  dsimp only [tNil] at nN ⊢
  generalize upd H1 N (.lst [.int v]) = H2 at sN hN ⊢
  have x2 := x1.same sN
  refine ⟨z.T, z.R, N, z.cs, z.hn, [v], rfl, x2.th, x2.hR, hN, fun q H3 s3 nq hq => ?_⟩
  have x3 := x2.same s3
  have he : z.os[j]? = some z.os[j] := List.getElem?_eq_getElem hj
  have o3 := x3.on _ (List.getElem_mem hj)
  generalize z.os[j] = e at he o3
  refine ⟨_, rfl, _, rfl, ixL x3.hLo (atI_nat (by rw [List.getElem?_map, he]; rfl)) (ixL (i := 1) o3.a.ho (atI_nat (j := 1) rfl) ⟨_, rfl, ?_⟩)⟩
  cases eo : e.off with
  | true =>
    refine iteT ⟨by show (1 : Nat) ≤ sizeLine; decide, fun r nr => ?_⟩
    exact pin_put er lg (x3.same (samN nr)) hn he (dv := [.str "LetGo"]) (.inr (.inr (.inr rfl))) updS (by rw [eo]; rfl) kk
  | false =>
    refine iteF ?_
    exact pin_put er lg x3 hn he dueK_held hq (by rw [eo]; rfl) kk
/-- a new pin -/
theorem pin_told (pc : PnC K) (er : ErN K) (x : S55 K H z t n) (hn : n ≤ 100) {xs : List Int} (lx : xs.length ≤ 3) {N q : Addr} (hNL : N ≠ z.Lo) (hN : H N = some (.lst (xs.map V.int))) (hq : H q = some (.tup (dueV (heldDue z.cs z.hn xs)))) {z6 z9 z10 z11 : Option V}
    (kk : ∀ P os' H', S55 K H' { z with h := { z.h with P := P }, os := os' } t (n + 1) → Q (.bl true) H') :
    (tSeq (tIfS (tTest (tOp (rEqD K) (tVar 8) (tTup tNil))) (tDrop (tBM K "list" rAppend (tVar 5) (tCons (tLst (tCons (tCall (sp_l_here55 K) [] E0 (tCons (tVar 7) tNil)) (tCons (tC (.bl true)) tNil))) tNil))) tNext) (t_l_pin_deed_told K)) { nx := fun _ H' => Q .non H', rt := Q } [some (.ref z.D), some (.ref z.h.A), some (.ref z.T), some (.ref z.R), some (.ref z.Lp), some (.ref z.Lo), z6, some (.ref N), some (.ref q), z9, z10, z11] H := by
  have l1 := x.l1
  have l2 := x.l2
  have l3 := x.l3
  have hk : DueK (dueV (heldDue z.cs z.hn xs)) := dueK_held
  have pl := psOf_len z.os
  refine ⟨_, rfl, by show (0 : Nat) ≤ sizeLine; decide, fun O nO => ?_⟩
  have sO : Same H (upd H O (.tup [])) := samN nO
  have hO : upd H O (.tup []) O = some (.tup []) := updS
  dsimp only [tNil] at nO ⊢
  generalize upd H O (.tup []) = H1 at sO hO ⊢
  have x1 := x.same sO
  have hq1 := sO _ _ hq
  have hN1 := sO _ _ hN
  refine due_eq hk hq1 hO ⟨_, rfl, ?_⟩
  cases ed : heldDue z.cs z.hn xs with
  | some p =>
    rw [ed] at hq1 hk
    refine iteF ?_
    refine ⟨_, rfl, _, rfl, _, rfl, N, _, rfl, .inl ⟨sqL hN1, fun U nU => ?_⟩⟩
    have sU : Same H1 (upd H1 U (.tup (xs.map V.int))) := samN nU
    have hU : upd H1 U (.tup (xs.map V.int)) U = some (.tup (xs.map V.int)) := updS
    generalize upd H1 U (.tup (xs.map V.int)) = H2 at sU hU ⊢
    have x2 := x1.same sU
    refine ⟨z.h, z.b, z.cs, z.bas, z.hn, xs, z.m, U, z.Lp, psOf z.os, z.os.map (·.p.A), rfl, pc, er, x2.hs, x2.bk, hU, by omega, x2.pins, x2.pns, by omega, by rw [x2.hLp, List.map_map]; rfl, by rw [List.length_map]; omega, fun w => absurd (ed.symm.trans w) (by simp), fun p' w r H3 s3 hr => ?_⟩
    rw [ed] at w
    cases Option.some.inj w
    exact ⟨_, rfl, _, _, rfl, due_same hk hr (s3 _ _ (sU _ _ hq1)), fun H4 s4 => kk z.h.P z.os H4 (((x2.same s3).same s4).more (Nat.le_refl _) (by omega))⟩
  | none =>
    rw [ed] at hq1
    refine iteT ?_
    refine ⟨_, rfl, .inl ⟨rfl, _, sqL x1.hLo⟩, _, rfl, N, xs, rfl, hN1, by omega, fun F H2 s2 nF hF => ⟨by show (2 : Nat) ≤ sizeLine; decide, fun O2 nO2 => ?_⟩⟩
    have x2 := x1.same s2
    have sO2 : Same H2 (upd H2 O2 (.lst [.ref F, .bl true])) := samN nO2
    have hO2 : upd H2 O2 (.lst [.ref F, .bl true]) O2 = some (.lst [.ref F, .bl true]) := updS
    dsimp only [tNil] at nO2 ⊢
    generalize upd H2 O2 (.lst [.ref F, .bl true]) = H3 at sO2 hO2 ⊢
    have x3 := x2.same sO2
    have hF3 := sO2 _ _ hF
    have hq3 := sO2 _ _ (s2 _ _ hq1)
    have hN3 := sO2 _ _ (s2 _ _ hN1)
    refine ⟨z.Lo, _, _, rfl, rfl, x3.hLo, by rw [List.length_map]; exact Nat.lt_of_le_of_lt (show z.os.length ≤ 1000 by omega) (by decide), ?_⟩
    have kl : Kf [z.Lo] H3 (upd H3 z.Lo (.lst ((z.os.map fun e => V.ref e.o) ++ [.ref O2]))) := (Kf.refl).up (by simp)
    have hl : upd H3 z.Lo (.lst ((z.os.map fun e => V.ref e.o) ++ [.ref O2])) z.Lo = some (.lst ((z.os.map fun e => V.ref e.o) ++ [.ref O2])) := updS
    generalize upd H3 z.Lo (.lst ((z.os.map fun e => V.ref e.o) ++ [.ref O2])) = H4 at kl hl ⊢
    have ntl : ∀ u ∈ [z.Lo], ∀ xs, H3 u ≠ some (.tup xs) := fun u hu xs w => by rw [List.mem_singleton.mp hu, x3.hLo] at w; cases w
    obtain ⟨g, on4⟩ := x3.at [5] kl ntl (fun u hu => ⟨5, by simp, by rw [List.mem_singleton.mp hu]; rfl⟩)
    -- fresh against what stands
    have hiL : z.Lo ∈ z.hd := List.mem_of_getElem? (i := 5) rfl
    have nFL : F ≠ z.Lo := fun w => x1.alive hiL (by rw [← w]; exact nF)
    have nOL : O2 ≠ z.Lo := fun w => x2.alive hiL (by rw [← w]; exact nO2)
    have hq4 := kl _ _ hq3 (fun w => by rw [List.mem_singleton.mp w, x3.hLo] at hq3; cases hq3)
    have hN4 := kl _ _ hN3 (by simpa using hNL)
    refine ⟨_, rfl, _, rfl, _, rfl, N, _, rfl, .inl ⟨sqL hN4, fun U nU => ?_⟩⟩
    have sU : Same H4 (upd H4 U (.tup (xs.map V.int))) := samN nU
    have hU : upd H4 U (.tup (xs.map V.int)) U = some (.tup (xs.map V.int)) := updS
    generalize upd H4 U (.tup (xs.map V.int)) = H5 at sU hU ⊢
    have kl5 : Kf [z.Lo] H3 H5 := kl.trans (Kf.same sU)
    obtain ⟨g5, on5⟩ := x3.at [5] kl5 ntl (fun u hu => ⟨5, by simp, by rw [List.mem_singleton.mp hu]; rfl⟩)
    have hl5 := sU _ _ hl
    have hq5 := sU _ _ hq4
    have back : ∀ {y : Addr}, H5 y = none → H3 y = none := fun {y} e => by
      cases w : H3 y with
      | none => rfl
      | some o =>
        by_cases c : y = z.Lo
        · rw [c, hl5] at e; cases e
        · rw [kl5 _ _ w (by simpa using c)] at e; cases e
    have hP5 : H5 z.h.P = some (.lst ((psOf z.os).map fun p => V.ref p.1.A)) := by
      rw [g5.hP (by simp)]
      unfold psOf
      rw [List.map_map]
      rfl
    have pn5 : ∀ p ∈ psOf z.os, PnAt K H5 p.1 z.h.A p.2.1 p.2.2 := fun p hp => by
      obtain ⟨e, he, rfl⟩ := List.mem_map.mp hp
      exact (on5 e (List.mem_filter.mp he).1).pn
    have hs5 := g5.hs (by simp) (by simp)
    have hLp5 := g5.hLp (by simp)
    obtain ⟨dx5, hA5⟩ := hs5.ho
    refine ⟨z.h, z.b, z.cs, z.bas, z.hn, xs, z.m, U, z.Lp, psOf z.os, z.os.map (·.p.A), rfl, pc, er, hs5, g5.bk (by simp) (by simp) (by simp) (by simp), hU, by omega, hP5, pn5, by omega, by rw [hLp5, List.map_map]; rfl, by rw [List.length_map]; omega, fun _ p P r H6 kf nA nI nP ne1 ne2 hs6 hP6 pa hLp6 hr => ?_, fun p' w => absurd (ed.symm.trans w) (by simp)⟩
    have hq6 := kf _ _ hq5 (fun w => by
      simp only [List.mem_cons, List.not_mem_nil, or_false] at w
      rcases w with w | w
      · rw [w, hA5] at hq5; cases hq5
      · rw [w, hLp5] at hq5; cases hq5)
    refine ⟨_, rfl, _, _, rfl, due_same (.inl rfl) hr hq6, fun H7 s7 => ?_⟩
    have kf7 : Kf [z.Lo, z.h.A, z.Lp] H3 H7 := ((kl5.sub (by simp)).trans (kf.sub (by simp))).trans (Kf.same s7)
    obtain ⟨dx3, hA3⟩ := x3.hs.ho
    obtain ⟨g, on7⟩ := x3.at [5, 11, 4] kf7 (fun u hu xs w => by
      simp only [List.mem_cons, List.not_mem_nil, or_false] at hu
      rcases hu with rfl | rfl | rfl
      · rw [x3.hLo] at w; cases w
      · rw [hA3] at w; cases w
      · rw [x3.hLp] at w; cases w) (fun u hu => by
      simp only [List.mem_cons, List.not_mem_nil, or_false] at hu
      rcases hu with rfl | rfl | rfl
      · exact ⟨5, by simp, rfl⟩
      · exact ⟨11, by simp, rfl⟩
      · exact ⟨4, by simp, rfl⟩)
    have nA3 := back nA
    have nI3 := back nI
    have nP3 := back nP
    have hF5 : H5 F = some (.dK (nmD (once xs))) := kl5 _ _ hF3 (by simpa using nFL)
    have hO5 : H5 O2 = some (.lst [.ref F, .bl true]) := kl5 _ _ hO2 (by simpa using nOL)
    have n_of : ∀ {y : Addr} {o : HO}, H5 y = some o → y ∉ z.hd → H7 y = some o := fun {y o} e hn => s7 _ _ (kf _ _ e (fun w => by
      simp only [List.mem_cons, List.not_mem_nil, or_false] at w
      rcases w with w | w
      · exact hn (by rw [w]; exact List.mem_of_getElem? (i := 11) rfl)
      · exact hn (by rw [w]; exact List.mem_of_getElem? (i := 4) rfl)))
    have fF : F ∉ z.hd := fun w => x1.alive w nF
    have fO : O2 ∉ z.hd := fun w => x2.alive w nO2
    have fA : p.A ∉ z.hd := fun w => x3.alive w nA3
    have fI : p.I ∉ z.hd := fun w => x3.alive w nI3
    have fP : P ∉ z.hd := fun w => x3.alive w nP3
    have nAF : p.A ≠ F := (ne_of_none hF5 nA).symm
    have nAO : p.A ≠ O2 := (ne_of_none hO5 nA).symm
    have nIF : p.I ≠ F := (ne_of_none hF5 nI).symm
    have nIO : p.I ≠ O2 := (ne_of_none hO5 nI).symm
    have nPF : P ≠ F := (ne_of_none hF5 nP).symm
    have nPO : P ≠ O2 := (ne_of_none hO5 nP).symm
    have nOF : O2 ≠ F := fun w => by rw [w, hF] at nO2; cases nO2
    have nwf : ∀ y ∈ (OnA.ft ⟨p, O2, F, once xs, false, true⟩), y ∉ z.hd ∧ y ≠ P ∧ ∀ e ∈ z.os, y ∉ e.ft := fun y hy => by
      have hy : y ∈ [p.A, p.I, O2, F] := hy
      simp only [List.mem_cons, List.not_mem_nil, or_false] at hy
      rcases hy with rfl | rfl | rfl | rfl
      · exact ⟨fA, ne1.symm, fun e he w => (x3.on e he).alive w nA3⟩
      · exact ⟨fI, ne2.symm, fun e he w => (x3.on e he).alive w nI3⟩
      · exact ⟨fO, nPO.symm, fun e he w => (x2.on e he).alive w nO2⟩
      · exact ⟨fF, nPF.symm, fun e he w => (x1.on e he).alive w nF⟩
    have sub : ∀ {y : Addr}, y ∈ (D55.hd { z with h := { z.h with P := P } }) → y = P ∨ y ∈ z.hd := fun {y} hy => by
      have hy : y ∈ P :: z.hd.tail := hy
      rcases List.mem_cons.mp hy with h | h
      · exact .inl h
      · exact .inr (List.mem_of_mem_tail h)
    have oc := once_len xs
    have ix : ∀ (i : Nat) (f : OnA), (z.os.map OnA.down ++ [⟨p, O2, F, once xs, false, true⟩])[i]? = some f → (∃ e, z.os[i]? = some e ∧ f = e.down) ∨ (i = z.os.length ∧ f = ⟨p, O2, F, once xs, false, true⟩) := fun i f hi => by
      rcases Nat.lt_or_ge i z.os.length with h | h
      · rw [List.getElem?_append_left (by rw [List.length_map]; exact h), List.getElem?_map, List.getElem?_eq_getElem h] at hi
        exact .inl ⟨_, List.getElem?_eq_getElem h, (Option.some.inj hi).symm⟩
      · rw [List.getElem?_append_right (by rw [List.length_map]; exact h), List.length_map] at hi
        have h1 := (List.getElem?_eq_some_iff.mp hi).1
        rw [List.length_singleton] at h1
        have e0 : i = z.os.length := by omega
        subst e0
        rw [Nat.sub_self] at hi
        exact .inr ⟨rfl, (Option.some.inj hi).symm⟩
    have all : ∀ {q : OnA → Prop}, q ⟨p, O2, F, once xs, false, true⟩ → (∀ e ∈ z.os, q e.down) → ∀ f ∈ (z.os.map OnA.down ++ [⟨p, O2, F, once xs, false, true⟩]), q f := fun h1 h2 f hf => by
      rcases List.mem_append.mp hf with h | h
      · obtain ⟨e, he, rfl⟩ := List.mem_map.mp h
        exact h2 e he
      · rw [List.mem_singleton.mp h]
        exact h1
    refine kk P (z.os.map OnA.down ++ [⟨p, O2, F, once xs, false, true⟩]) H7 ?_
    refine ⟨g.dk (by simp) (by simp), g.th (by simp), g.bk (by simp) (by simp) (by simp) (by simp), hs6.same s7, g.hR (by simp), g.hS (by simp), ?_, g.hF (by simp), ?_, ?_, g.hFa (by simp), ?_, x.nm, x.pos, x.fc, ?_, ?_, x.nf, ?_, ?_, ?_, ?_, Nat.le_succ_of_le l2, ?_⟩
    · show H7 P = some (.lst (((z.os.map OnA.down ++ [(⟨p, O2, F, once xs, false, true⟩ : OnA)]).filter (·.kept)).map fun e : OnA => V.ref e.p.A))
      rw [List.filter_append, List.map_append, down_filter]
      exact s7 _ _ hP6
    · show H7 z.Lp = some (.lst ((z.os.map OnA.down ++ [(⟨p, O2, F, once xs, false, true⟩ : OnA)]).map fun e : OnA => V.ref e.p.A))
      rw [s7 _ _ hLp6, List.map_append, List.map_append, List.map_map, List.map_map]
      rfl
    · show H7 z.Lo = some (.lst ((z.os.map OnA.down ++ [(⟨p, O2, F, once xs, false, true⟩ : OnA)]).map fun e : OnA => V.ref e.o))
      have : H7 z.Lo = some (.lst ((z.os.map fun e => V.ref e.o) ++ [.ref O2])) := s7 _ _ (kf _ _ hl5 (by
        have h1 : z.Lo ≠ z.h.A := nd_ix x.n1 (i := 5) (j := 11) rfl rfl (by decide)
        have h2 : z.Lo ≠ z.Lp := nd_ix x.n1 (i := 5) (j := 4) rfl rfl (by decide)
        simp [h1, h2]))
      rw [this, List.map_append, List.map_map]
      rfl
    · refine all ⟨⟨n_of hO5 fO, n_of hF5 fF⟩, pa.same s7, ?_⟩ fun e he => ?_
      · show [p.A, p.I, O2, F].Nodup
        simp [nAO, nAF, nIO, nIF, nOF, pa.ne]
      · have := on7 e he
        exact ⟨⟨this.a.ho, this.a.hd⟩, this.pn, this.nd⟩
    · refine all (fun w => nomatch w) fun e he w => ?_
      have w : (e.kept && !e.off) = false := w
      show e.off = true
      cases h1 : e.off with
      | true => rfl
      | false =>
        rw [h1, Bool.not_false, Bool.and_true] at w
        have := x.kp e he w
        rw [h1] at this
        exact this
    · exact all (fun w => nomatch w) fun e he w => x.of e he w
    · show (P :: z.hd.tail).Nodup
      have := x.n1
      have h2 : z.hd = z.h.P :: z.hd.tail := rfl
      rw [h2, List.nodup_cons] at this
      exact List.nodup_cons.mpr ⟨fun w => fP (List.mem_of_mem_tail w), this.2⟩
    · refine all (fun y hy w => ?_) fun e he y hy w => ?_
      · obtain ⟨h1, h2, _⟩ := nwf y hy
        exact (sub w).elim h2 h1
      · rcases sub w with h | h
        · exact (x3.on e he).alive hy (by rw [h]; exact nP3)
        · exact x.n2 e he y hy h
    · intro i k f1 f2 hi hk hik y h1 h2
      rcases ix i f1 hi with ⟨e1, g1, rfl⟩ | ⟨e1, rfl⟩ <;> rcases ix k f2 hk with ⟨e2, g2, rfl⟩ | ⟨e2, rfl⟩
      · exact x.n3 i k e1 e2 g1 g2 hik y h1 h2
      · exact (nwf y h2).2.2 e1 (List.mem_of_getElem? g1) h1
      · exact (nwf y h1).2.2 e2 (List.mem_of_getElem? g2) h2
      · exact hik (e1.trans e2.symm)
    · show (z.os.map OnA.down ++ [_]).length ≤ n + 1
      rw [List.length_append, List.length_map, List.length_singleton]
      omega
    · show (onsK (z.os.map OnA.down ++ [_])).length ≤ 3 * (n + 1)
      rw [onsK_snoc, onsK_down, List.length_append]
      show (onsK z.os).length + (once xs).length ≤ _
      omega
theorem pure_l_pin_deed (h : sp_l_pin_deed K vs H Q E) : t_l_pin_deed K { nx := fun _ H' => Q .non H', rt := Q } (start N_l_pin_deed vs) H := by
  obtain ⟨z, t, n, rfl, pc, er, lg, x, ht, hn, k⟩ := h
  have l1 := x.l1
  refine ⟨_, rfl, z.c, z.D, z.dn, t, 4, rfl, x.dk, by omega, by decide, by decide, fun w H1 w0 w1 d1 fr1 => ?_⟩
  have x1 := x.drawn (.fr fr1) d1
  have new : t_l_pin_deed_new K { nx := fun _ H' => Q .non H', rt := Q } [some (.ref z.D), some (.ref z.h.A), some (.ref z.T), some (.ref z.R), some (.ref z.Lp), some (.ref z.Lo), some (.int w), none, none, none, none, none] H1 := by
    refine ⟨_, rfl, z.c, z.D, z.dn, _, 4, rfl, x1.dk, by omega, by decide, by decide, fun m H2 m0 m1 d2 fr2 => ⟨_, rfl, by omega, by omega, fun N nN => ?_⟩⟩
    have x2 := x1.drawn (.fr fr2) d2
    have nTD : z.T ≠ z.D := nd_ix x.n1 (i := 2) (j := 1) rfl rfl (by decide)
    refine lc_deck (walk_range (lo := 0) (n := m.toNat)) yFn V.int (fun _ => True) 3 nN x2.dk (by omega) ?_ ?_
    · intro i v H3 R hi kp d3 r
      exact ⟨rfl, _, rfl, _, rfl, z.c, z.D, z.T, z.dn, _, z.cs, rfl, d3, nTD, (x2.drawn kp d3).th, x2.pos, by omega, fun y H4 kp4 d4 => r y H4 True.intro kp4 d4⟩
    intro xs H3 hl _ kp3 d3 hN3
    have x3 := x2.drawn kp3 d3
    refine ⟨_, rfl, _, rfl, _, rfl, z.T, z.R, N, z.cs, z.hn, xs, rfl, x3.th, x3.hR, hN3, fun q H4 s4 nq hq => ?_⟩
    have x4 := (x3.same s4).more (t' := t + 100) (n' := n) (by omega) (Nat.le_refl _)
    refine pin_told pc er x4 hn (by omega) (fun e => x2.alive (List.mem_of_getElem? (i := 5) rfl) (by rw [← e]; exact nN)) (s4 _ _ hN3) hq k
  refine ⟨_, rfl, rfl, _, rfl, ?_⟩
  by_cases e0 : w = 0
  · subst e0
    exact iteT (iteT new)
  · rw [decide_eq_false fun z => e0 (V.int.inj z)]
    refine iteF ⟨_, rfl, lenL x1.hLp ⟨rfl, _, rfl, ?_⟩⟩
    rw [List.length_map]
    by_cases el : z.os.length = 0
    · rw [decide_eq_true (by rw [el]; rfl)]
      exact iteT new
    · rw [decide_eq_false fun c => el (by have := V.int.inj c; omega)]
      refine iteF ?_
      refine ⟨_, rfl, _, rfl, lenL x1.hLp ⟨z.c, z.D, z.dn, _, _, rfl, x1.dk, by omega, by rw [List.length_map]; omega, small100 (by rw [List.length_map]; omega), fun v H2 v0 v1 d2 fr2 => ?_⟩⟩
      rw [List.length_map] at v1
      have x2 := x1.drawn (.fr fr2) d2
      obtain ⟨j, rfl⟩ := Int.eq_ofNat_of_zero_le v0
      have hj : j < z.os.length := by omega
      refine ⟨_, rfl, rfl, _, rfl, ?_⟩
      by_cases e1 : w = 1
      · subst e1
        exact iteT (pin_off (x2.more (t' := t + 100) (n' := n) (by omega) (Nat.le_refl _)) hj k)
      · rw [decide_eq_false fun z => e1 (V.int.inj z)]
        refine iteF ?_
        exact pin_add er lg x2 hn (by omega) hj fun P os' H' s => k P os' H' (s.more (by omega) (Nat.le_refl _))
end
end Fw
set_option Elab.async false
set_option linter.all false
set_option maxRecDepth 100000
set_option maxHeartbeats 4000000
namespace Fw
open PySem L2 RZ RT
section
variable [HasW]
def sp_l_book (K : PySem.W.Frag) : Sp := fun vs H Q _ => ∃ (T : Addr) (as : List Addr) (cs : List Ct), vs = [.ref T] ∧ BkC K ∧ H T = some (.lst (as.map V.ref)) ∧ CsAt H as cs ∧ FamOk cs ∧ cs.length ≤ 400 ∧
  ∀ (b : BkA) (H' : Hp), Same H H' → (∀ y ∈ [b.B, b.L, b.E, b.G], H y = none) → BkAt K H' b cs as → Q (.ref b.B) H'
end
section
variable [HasW] {K : PySem.W.Frag} {vs : List V} {H : Hp} {Q : VK} {E : XK}
theorem len_l_book (h : sp_l_book K vs H Q E) : vs.length = 1 := by obtain ⟨_, _, _, rfl, _⟩ := h; rfl
end
section
variable [HasW]
abbrev N_l_book : List Str := ["_law_things", "_law_book_here", "_law_content"]
def t_l_book (K : PySem.W.Frag) : TS := (tSeq (tAsg (tMake (He.ga K "Book") (sp_Book_init K) [] E0 tNil) (gName 1))
    (tSeq (tFor (iList K (tVar 0)) (gName 2) (tDrop (tMeth (He.ga K "Book") "named" (sp_Book_named K) [] E0 (tVar 1) (tCons (tVar 2) tNil))))
    (tRet (tVar 1))))
end
theorem tk_snoc {α : Type} {l : List α} {i : Nat} {a : α} (h : l[i]? = some a) : l.take (i + 1) = l.take i ++ [a] := by
  rw [List.take_succ, h]
  rfl
theorem no_take {cs : List Ct} (nd : cs.Nodup) {i : Nat} {c : Ct} (h : cs[i]? = some c) : c ∉ cs.take i := fun hm => by
  obtain ⟨j, hj⟩ := List.mem_iff_getElem?.mp hm
  have hl := (List.getElem?_eq_some_iff.mp hj).1
  rw [List.length_take] at hl
  rw [List.getElem?_take_of_lt (by omega)] at hj
  exact absurd ((List.getElem?_inj (List.getElem?_eq_some_iff.mp hj).1 nd).mp (hj.trans h.symm)) (by omega)
section
variable [HasW] {K : PySem.W.Frag} {vs : List V} {H : Hp} {Q : VK} {E : XK}
theorem newBook (bc : BkC K) {σ : L2.St} (k : ∀ (b : BkA) (H' : Hp), Same H H' → (∀ y ∈ [b.B, b.L, b.E, b.G], H y = none) → BkAt K H' b [] [] → Q (.ref b.B) H') : tMake (He.ga K "Book") (sp_Book_init K) [] E0 tNil σ H Q := by
  intro x dx nx ndx ne
  have s1 : Same H (upd (upd H dx (.own x)) x (.ins (He.ga K "Book") dx [])) := fun b o e => updN (ne_of_none e nx) (updN (ne_of_none e ndx) e)
  have old : ∀ {y : Addr}, upd (upd H dx (.own x)) x (.ins (He.ga K "Book") dx []) y = none → H y = none := by
    intro y h
    cases q : H y with
    | none => rfl
    | some o => rw [s1 _ _ q] at h; cases h
  refine ⟨x, dx, rfl, bc, updS, fun b H' eb keep nL nE nG bk => ⟨rfl, ?_⟩⟩
  subst eb
  refine k b H' (fun a o e => keep a o (s1 a o e) (ne_of_none e nx)) (fun y hy => ?_) bk
  simp only [List.mem_cons, List.not_mem_nil, or_false] at hy
  rcases hy with rfl | rfl | rfl | rfl
  · exact nx
  · exact old nL
  · exact old nE
  · exact old nG
theorem pure_l_book (h : sp_l_book K vs H Q E) : t_l_book K { nx := fun _ H' => Q .non H', rt := Q } (start N_l_book vs) H := by
  obtain ⟨T, as, cs, rfl, bc, hT, hcs, f, few, k⟩ := h
  unfold t_l_book
  dsimp only [tSeq, tAsg]
  refine newBook bc fun b H1 s1 fr bk => ?_
  have hal : as.length = cs.length := hcs.1
  refine ⟨_, rfl, T, rfl, ⟨_, sqL (s1 _ _ hT)⟩, ?_⟩
  have nT : ∀ {H' : Hp}, Kf [b.L, b.E, b.G] H1 H' → H' T = some (.lst (as.map V.ref)) := fun kf => kf _ _ (s1 _ _ hT) fun z => by
    have := fr T (List.mem_cons_of_mem _ z)
    rw [hT] at this
    cases this
  refine for_it (walk_list (xs := as.map V.ref)) (fun i σ H' => Kf [b.L, b.E, b.G] H1 H' ∧ BkAt K H' b (cs.take i) (as.take i) ∧ ∃ z, σ = [some (.ref T), some (.ref b.B), z]) ⟨.refl, bk, _, rfl⟩ (fun i σ H' _ e => sqL (nT e.1)) ?_ ?_
  · rintro i y σ H2 H3 hi ⟨kf, bk2, z, rfl⟩ ⟨rfl, hy⟩
    rw [List.length_map] at hi
    have ha : as[i]? = some as[i] := List.getElem?_eq_getElem hi
    rw [List.getElem?_map, ha] at hy
    cases Option.some.inj hy
    have hd : cs[i]? = some cs[i] := List.getElem?_eq_getElem (by omega)
    have tm : TM H H3 := fun a xs e => kf _ _ (s1 _ _ e) fun z => by
      have := fr a (List.mem_cons_of_mem _ z)
      rw [e] at this
      cases this
    have nin := no_take f.nd hd
    have lt : (cs.take i).length = i := by rw [List.length_take]; omega
    refine bk2.me (by decide) rfl ⟨_, rfl, b, _, _, as[i], cs[i], rfl, bk2, (hcs.2 i _ _ ha hd).mono tm, f.form _ (List.getElem_mem _), f.inb i _ hd, fun _ => by rw [lt]; omega, fun j H' hj _ => absurd (List.mem_of_getElem? hj) nin, fun _ H4 kb bk4 => ⟨kf.trans kb.kf, ?_, _, rfl⟩⟩
    rw [tk_snoc ha, tk_snoc hd]
    exact bk4
  · rintro σ H2 ⟨kf, bk2, z, rfl⟩
    rw [List.length_map, List.take_length, hal, List.take_length] at bk2
    refine ⟨_, rfl, k b H2 (fun a o e => kf _ _ (s1 _ _ e) fun z => ?_) fr bk2⟩
    have := fr a (List.mem_cons_of_mem _ z)
    rw [e] at this
    cases this
end
end Fw
set_option Elab.async false
set_option linter.all false
set_option maxRecDepth 100000
set_option maxHeartbeats 1000000
namespace Fw
open PySem L2 RZ RT
section
variable [HasW]
abbrev N_law : List Str := ["_law_script", "_law_deck_here", "_law_things", "_law_held", "_law_here_here", "_law_house_here", "_law_pins", "_law_ons", "_law_far", "_law_k", "_law_deed", "_law_good", "_law_name_here"]
def t_law_look (K : PySem.W.Frag) : TS := (tIfS (tNot (tB (tCall (sp_l_pins_right K) [] E0 (tCons (tVar 1) (tCons (tVar 5) (tCons (tVar 6) (tCons (tVar 7) (tCons (tVar 8) tNil)))))))) (tRet (tC (.bl false))) tNext)
def t_law_put (K : PySem.W.Frag) : TS := (tSeq (tIfS (tTest (tOp rEq (tVar 10) (tC (.int 4)))) (tSeq (tAsg (tCall (sp_l_draw K) [] E0 (tCons (tVar 1) (tCons (tCB (fLen K) (tCons (tVar 2) tNil)) tNil))) (gName 12))
    (tSeq (tIfS (tNot (tB (tCall (sp_l_same2 K) [] E0 (tCons (tMeth (He.ga K "House") "put" (sp_House_put K) [] E0 (tVar 5) (tCons (tVar 12) tNil)) (tCons (tDNotIn (tVar 12) (tVar 4)) tNil))))) (tRet (tC (.bl false))) tNext)
    (sDPut (tVar 4) (tVar 12) (tC (.bl true))))) tNext)
    (t_law_look K))
def t_law_good (K : PySem.W.Frag) : TS := (tSeq (tIfS (tNot (tB (tVar 11))) (tRet (tC (.bl false))) tNext)
    (t_law_put K))
def t_law_turn (K : PySem.W.Frag) : TS := (tSeq (tAsg (tCall (sp_l_draw K) [] E0 (tCons (tVar 1) (tCons (tC (.int 5)) tNil))) (gName 10))
    (tSeq (tAsg (tC (.bl true)) (gName 11))
    (tSeq (tIfS (tTest (tOp rLtI (tVar 10) (tC (.int 2)))) (tAsg (tCall (sp_l_pin_deed K) [] E0 (tCons (tVar 1) (tCons (tVar 5) (tCons (tVar 2) (tCons (tVar 4) (tCons (tVar 6) (tCons (tVar 7) tNil))))))) (gName 11)) (tIfS (tTest (tOp rLtI (tVar 10) (tC (.int 4)))) (tAsg (tCall (sp_l_far_deed K) [] E0 (tCons (tVar 1) (tCons (tVar 5) (tCons (tVar 2) (tCons (tVar 4) (tCons (tVar 8) tNil)))))) (gName 11)) tNext))
    (t_law_good K))))
def t_law_end (K : PySem.W.Frag) : TS := (tRet (tAndV (tCall (sp_l_same2 K) [] E0 (tCons (tMeth (He.ga K "House") "marks" (sp_House_marks K) [] E0 (tVar 5) tNil) (tCons (tLst tNil) tNil))) (tCall (sp_l_same2 K) [] E0 (tCons (tMeth (He.ga K "House") "held" (sp_House_held K) [] E0 (tVar 5) tNil) (tCons (tCB rSortK (tCons (tVar 4) tNil)) tNil)))))
def t_law_turns (K : PySem.W.Frag) : TS := (tSeq (tFor (iRng1 (tCons (tOp rAddI (tC (.int 2)) (tCB fMin2 (tCons (tCB (fLen K) (tCons (tVar 0) tNil)) (tCons (tC (.int 40)) tNil)))) tNil)) (gName 9) (t_law_turn K))
    (t_law_end K))
def t_law (K : PySem.W.Frag) : TS := (tSeq (tAsg (tCall (sp_l_deck K) [] E0 (tCons (tVar 0) tNil)) (gName 1))
    (tSeq (tAsg (tCall (sp_l_scene K) [] E0 (tCons (tVar 1) (tCons (tC (.int 7)) tNil))) (gTup K 2 (gCons (gName 2) (gCons (gName 3) gNil))))
    (tSeq (tAsg (tCall (sp_l_here55 K) [] E0 (tCons (tVar 3) tNil)) (gName 4))
    (tSeq (tAsg (tCall (sp_l_house55 K) [] E0 (tCons (tCall (sp_l_book K) [] E0 (tCons (tVar 2) tNil)) (tCons (tVar 3) tNil))) (gName 5))
    (tSeq (tAsg (tLst tNil) (gName 6))
    (tSeq (tAsg (tLst tNil) (gName 7))
    (tSeq (tAsg tDNewT (gName 8))
    (t_law_turns K))))))))
end
structure K55C (K : PySem.W.Frag) : Prop where
  pc : PnC K
  er : ErN K
  lg : LgE K
theorem SqL.kp55 {K : PySem.W.Frag} {D a : Addr} {H H' : Hp} {xs : List V} (h : SqL K H a xs) (k : Kp D H H') (n : H D = none) : SqL K H' a xs := by
  rcases h with (h | ⟨o, h⟩) | h
  · exact .inl (.inl (k _ _ h (ne_of_none h n)))
  · exact .inl (.inr ⟨o, k _ _ h (ne_of_none h n)⟩)
  · exact .inr h
theorem once_self {ns : List Int} (nd : ns.Nodup) : once ns = ns := by
  have go : ∀ (ns acc : List Int), (acc ++ ns).Nodup → ns.foldl insM acc = acc ++ ns := by
    intro ns
    induction ns with
    | nil => intro acc _; simp
    | cons n ns ih =>
      intro acc h
      have hn : n ∉ acc := fun hm => by
        rw [List.nodup_append] at h
        exact h.2.2 n hm n List.mem_cons_self rfl
      rw [List.foldl_cons, show insM acc n = acc ++ [n] by unfold insM; rw [if_neg hn], ih _ (by rw [List.append_assoc]; exact h), List.append_assoc]
      rfl
  exact go ns [] (by simpa using nd)
theorem nd_pick {L : List Addr} (nd : L.Nodup) (d : Addr) (ix : List Nat) (hx : ix.Nodup) (hl : ∀ i ∈ ix, i < L.length) : (ix.map fun i => L.getD i d).Nodup := by
  refine List.pairwise_map.mpr (hx.imp_of_mem fun {i j} hi hj ne e => ne ?_)
  have li := hl i hi
  have lj := hl j hj
  rw [List.getD_eq_getElem?_getD, List.getD_eq_getElem?_getD, List.getElem?_eq_getElem li, List.getElem?_eq_getElem lj] at e
  exact (List.getElem?_inj li nd).mp (by rw [List.getElem?_eq_getElem li, List.getElem?_eq_getElem lj]; exact congrArg some e)
theorem nd_new55 {L M : List Addr} {H : Hp} (h1 : L.Nodup) (h2 : M.Nodup) (a : ∀ y ∈ L, H y ≠ none) (f : ∀ y ∈ M, H y = none) : (L ++ M).Nodup := by
  rw [List.nodup_append]
  exact ⟨h1, h2, fun a1 ha b hb e => a a1 ha (by rw [e]; exact f b hb)⟩
def D55.to (z : D55) (P : Addr) (os : List OnA) (fr : List (PT × Int)) (hn : List Int) (m : Int) : D55 := { z with h := { z.h with P := P }, os := os, fr := fr, hn := hn, m := m }
section
variable [HasW] {K : PySem.W.Frag} {vs : List V} {H H' : Hp} {Q : VK} {E : XK} {z : D55} {t n : Nat} {S L : Addr} {En : Ends}
theorem law_end (x : S55 K H z t n) (k : ∀ H', Q (.bl true) H') {z9 z10 z11 z12 : Option V} :
    t_law_end K { nx := fun _ H' => Q .non H', rt := Q } [some (.ref S), some (.ref z.D), some (.ref z.T), some (.ref L), some (.ref z.R), some (.ref z.h.A), some (.ref z.Lp), some (.ref z.Lo), some (.ref z.Fa), z9, z10, z11, z12] H := by
  refine x.hs.me (fun _ => rfl) rfl ⟨z.h, z.b.B, z.m, [], rfl, x.hs.o, x.hS, .nil, by decide, fun M qs es H1 s1 nM hM lq row pm srt => ?_⟩
  have ee : es = [] := pm.eq_nil
  subst ee
  have eq : qs = [] := List.length_eq_zero_iff.mp lq
  subst eq
  have x1 := x.same s1
  refine ⟨by show (0 : Nat) ≤ sizeLine; decide, fun N nN => ?_⟩
  have sN : Same H1 (upd H1 N (.lst [])) := samN nN
  have hN : upd H1 N (.lst []) N = some (.lst []) := updS
  dsimp only [tNil] at nN ⊢
  generalize upd H1 N (.lst []) = H2 at sN hN ⊢
  have x2 := x1.same sN
  refine ⟨_, _, rfl, SameV.lst (sN _ _ hM) hN rfl (by decide) (fun i a b h => by simp at h), fun H3 s3 => ⟨true, rfl, ?_⟩⟩
  rw [if_pos rfl]
  have x3 := x2.same s3
  refine x3.hs.me (fun _ => rfl) rfl ⟨z.h, z.b.B, z.hn, z.m, rfl, x3.hs, fun A ns' nA pm inc => ?_⟩
  have sA : Same H3 (upd H3 A (.lst (ns'.map V.int))) := samN nA
  have hA : upd H3 A (.lst (ns'.map V.int)) A = some (.lst (ns'.map V.int)) := updS
  generalize upd H3 A (.lst (ns'.map V.int)) = H4 at sA hA ⊢
  have x4 := x3.same sA
  refine ⟨_, rfl, z.R, nmD z.hn, z.hn, rfl, x4.hR, nmD_keys _, fun ks B pm2 inc2 nB => ?_⟩
  have ek : ns' = ks := inc_ext (perm_lt pm inc x.hs.nd) (perm_lt pm2 inc2 x.hs.nd) fun v => by rw [pm.mem_iff, pm2.mem_iff]
  subst ek
  have sB : Same H4 (upd H4 B (.lst (ns'.map V.int))) := samN nB
  have lk := pm.length_eq
  have few := x.hs.few
  exact ⟨_, _, rfl, SameV.lst (sB _ _ hA) updS rfl (by rw [List.length_map]; omega) SameV.ints, fun H5 s5 => k H5⟩
theorem law_look (x : S55 K H z t n) (hn : n ≤ 100) (ht : t + 1 < 1000000000) {z9 z10 z11 z12 : Option V} (k : ∀ H', S55 K H' z (t + 1) n → En.nx [some (.ref S), some (.ref z.D), some (.ref z.T), some (.ref L), some (.ref z.R), some (.ref z.h.A), some (.ref z.Lp), some (.ref z.Lo), some (.ref z.Fa), z9, z10, z11, z12] H') :
    t_law_look K En [some (.ref S), some (.ref z.D), some (.ref z.T), some (.ref L), some (.ref z.R), some (.ref z.h.A), some (.ref z.Lp), some (.ref z.Lo), some (.ref z.Fa), z9, z10, z11, z12] H :=
  ⟨_, rfl, _, rfl, _, rfl, _, rfl, _, rfl, z, t, n, rfl, x, ht, hn, fun H' x' => ⟨_, rfl, iteF (k H' x')⟩⟩
theorem law_put (x : S55 K H z t n) (hn : n ≤ 100) (ht : t + 10 < 1000000000) {w : Int} {z9 z11 z12 : Option V} (k : ∀ hn' m' H' z12, S55 K H' { z with hn := hn', m := m' } (t + 2) n → En.nx [some (.ref S), some (.ref z.D), some (.ref z.T), some (.ref L), some (.ref z.R), some (.ref z.h.A), some (.ref z.Lp), some (.ref z.Lo), some (.ref z.Fa), z9, some (.int w), z11, z12] H') :
    t_law_put K En [some (.ref S), some (.ref z.D), some (.ref z.T), some (.ref L), some (.ref z.R), some (.ref z.h.A), some (.ref z.Lp), some (.ref z.Lo), some (.ref z.Fa), z9, some (.int w), z11, z12] H := by
  refine ⟨_, rfl, rfl, _, rfl, ?_⟩
  by_cases e : w = 4
  · subst e
    refine iteT ?_
    obtain ⟨as, hT, hcs⟩ := x.th.tr
    have las : as.length = z.cs.length := hcs.1
    have pos := x.pos
    have fc := x.fc
    refine ⟨_, rfl, _, rfl, lenL hT ⟨z.c, z.D, z.dn, t, _, rfl, x.dk, by omega, by rw [List.length_map]; omega, small100 (by rw [List.length_map]; omega), fun v H1 v0 v1 d1 fr1 => ?_⟩⟩
    rw [List.length_map] at v1
    have x1 := x.drawn (.fr fr1) d1
    have lh : v ∉ z.hn → z.hn.length < 400 := fun _ => by
      have := x.nm.len x.hs.nd
      omega
    refine x1.hs.me (fun _ => rfl) rfl ⟨_, rfl, z.h, z.b, z.cs, z.bas, z.hn, z.m, v, rfl, x1.hs, x1.bk, v0, by omega, lh, fun hv => ?_, fun hv H2 kf hs2 => ?_⟩
    · refine ⟨_, rfl, _, rfl, z.R, _, rfl, DGet.k (k := Sum.inl v) x1.hR, ?_⟩
      rw [nmD_some, decide_eq_true hv]
      refine ⟨_, _, rfl, SameV.bl rfl, fun H2 s2 => ⟨_, rfl, iteF ?_⟩⟩
      have x2 := x1.same s2
      refine ⟨_, rfl, _, rfl, z.R, _, rfl, DPut.k (k := Sum.inl v) x2.hR (by rw [List.length_map]; exact Nat.lt_of_le_of_lt x.hs.few (by decide)), ?_⟩
      rw [nmD_insM, show insM z.hn v = z.hn by unfold insM; rw [if_pos hv]]
      have kr : Kf [z.R] H2 (upd H2 z.R (.dK (nmD z.hn))) := (Kf.refl).up (by simp)
      have hr : upd H2 z.R (.dK (nmD z.hn)) z.R = some (.dK (nmD z.hn)) := updS
      generalize upd H2 z.R (.dK (nmD z.hn)) = H3 at kr hr ⊢
      obtain ⟨g, on⟩ := x2.at [3] kr (fun u hu xs w => by rw [List.mem_singleton.mp hu, x2.hR] at w; cases w) (fun u hu => ⟨3, by simp, by rw [List.mem_singleton.mp hu]; rfl⟩)
      have x3 : S55 K H3 z (t + 1) n := ⟨g.dk (by simp) (by simp), g.th (by simp), g.bk (by simp) (by simp) (by simp) (by simp), g.hs (by simp) (by simp), hr, g.hS (by simp), g.hP (by simp), g.hF (by simp), g.hLp (by simp), g.hLo (by simp), g.hFa (by simp), on, x.nm, x.pos, x.fc, x.kp, x.of, x.nf, x.n1, x.n2, x.n3, x.l1, x.l2, x.l3⟩
      exact law_look x3 hn (by omega) fun H' x' => k z.hn z.m H' _ x'
    · have nR : z.R ∉ [z.h.A, z.h.I] := by
        have h1 : z.R ≠ z.h.A := nd_ix x.n1 (i := 3) (j := 11) rfl rfl (by decide)
        have h2 : z.R ≠ z.h.I := nd_ix x.n1 (i := 3) (j := 12) rfl rfl (by decide)
        simp [h1, h2]
      have hR2 := kf _ _ x1.hR nR
      refine ⟨_, rfl, _, rfl, z.R, _, rfl, DGet.k (k := Sum.inl v) hR2, ?_⟩
      rw [nmD_some, decide_eq_false hv]
      refine ⟨_, _, rfl, SameV.bl rfl, fun H3 s3 => ⟨_, rfl, iteF ?_⟩⟩
      refine ⟨_, rfl, _, rfl, z.R, _, rfl, DPut.k (k := Sum.inl v) (s3 _ _ hR2) (by rw [List.length_map]; exact Nat.lt_of_le_of_lt x.hs.few (by decide)), ?_⟩
      rw [nmD_insM, show insM z.hn v = z.hn ++ [v] by unfold insM; rw [if_neg hv]]
      have kr : Kf [z.R] H3 (upd H3 z.R (.dK (nmD (z.hn ++ [v])))) := (Kf.refl).up (by simp)
      have hr : upd H3 z.R (.dK (nmD (z.hn ++ [v]))) z.R = some (.dK (nmD (z.hn ++ [v]))) := updS
      generalize upd H3 z.R (.dK (nmD (z.hn ++ [v]))) = H4 at kr hr ⊢
      have kall : Kf [z.h.A, z.h.I, z.R] H1 H4 := ((kf.sub (by simp)).trans (Kf.same s3)).trans (kr.sub (by simp))
      obtain ⟨dx, hA⟩ := x1.hs.ho
      obtain ⟨g, on⟩ := x1.at [11, 12, 3] kall (fun u hu xs w => by
        simp only [List.mem_cons, List.not_mem_nil, or_false] at hu
        rcases hu with rfl | rfl | rfl
        · rw [hA] at w; cases w
        · rw [x1.hs.hI] at w; cases w
        · rw [x1.hR] at w; cases w) (fun u hu => by
        simp only [List.mem_cons, List.not_mem_nil, or_false] at hu
        rcases hu with rfl | rfl | rfl
        · exact ⟨11, by simp, rfl⟩
        · exact ⟨12, by simp, rfl⟩
        · exact ⟨3, by simp, rfl⟩)
      have hs4 := (hs2.same s3).kf kr (fun y hy w => by
        rw [List.mem_singleton.mp w] at hy
        exact nR hy)
      have x4 : S55 K H4 { z with hn := z.hn ++ [v], m := z.m + 1 } (t + 1) n := ⟨g.dk (by simp) (by simp), g.th (by simp), g.bk (by simp) (by simp) (by simp) (by simp), hs4, hr, g.hS (by simp), g.hP (by simp), g.hF (by simp), g.hLp (by simp), g.hLo (by simp), g.hFa (by simp), on, fun y hy => (List.mem_append.mp hy).elim (x.nm y) (fun w => by rw [List.mem_singleton.mp w]; exact (show 0 ≤ v ∧ v.toNat < z.cs.length from ⟨v0, by omega⟩)), x.pos, x.fc, x.kp, x.of, x.nf, x.n1, x.n2, x.n3, x.l1, x.l2, x.l3⟩
      exact law_look x4 hn (by omega) fun H' x' => k _ _ H' _ x'
  · rw [decide_eq_false fun c => e (V.int.inj c)]
    refine iteF ?_
    exact law_look x hn (by omega) fun H' x' => k z.hn z.m H' _ (x'.more (by omega) (Nat.le_refl _))
theorem law_turn (C : K55C K) (x : S55 K H z t n) (hn : n ≤ 90) (ht : t + 1000 < 1000000000) {z9 z10 z11 z12 : Option V} (k : ∀ P os fr hn m H' z10 z11 z12, S55 K H' (z.to P os fr hn m) (t + 200) (n + 1) → En.nx [some (.ref S), some (.ref z.D), some (.ref z.T), some (.ref L), some (.ref z.R), some (.ref z.h.A), some (.ref z.Lp), some (.ref z.Lo), some (.ref z.Fa), z9, z10, z11, z12] H') :
    t_law_turn K En [some (.ref S), some (.ref z.D), some (.ref z.T), some (.ref L), some (.ref z.R), some (.ref z.h.A), some (.ref z.Lp), some (.ref z.Lo), some (.ref z.Fa), z9, z10, z11, z12] H := by
  refine ⟨_, rfl, z.c, z.D, z.dn, t, 5, rfl, x.dk, by omega, by decide, by decide, fun w H1 w0 w1 d1 fr1 => ?_⟩
  have x1 := x.drawn (.fr fr1) d1
  have good : ∀ (P : Addr) (os : List OnA) (fr : List (PT × Int)) (H2 : Hp), S55 K H2 (z.to P os fr z.hn z.m) (t + 101) (n + 1) → t_law_good K En [some (.ref S), some (.ref z.D), some (.ref z.T), some (.ref L), some (.ref z.R), some (.ref z.h.A), some (.ref z.Lp), some (.ref z.Lo), some (.ref z.Fa), z9, some (.int w), some (.bl true), z12] H2 := fun P os fr H2 x2 => by
    refine ⟨_, rfl, _, rfl, iteF ?_⟩
    exact law_put (z := z.to P os fr z.hn z.m) x2 (by omega) (by omega) fun hn' m' H' z12 x' => k P os fr hn' m' H' _ _ z12 (x'.more (by omega) (Nat.le_refl _))
  refine ⟨_, rfl, _, _, rfl, rfl, _, rfl, ?_⟩
  by_cases c : w < 2
  · rw [decide_eq_true c]
    exact iteT ⟨_, rfl, _, rfl, _, rfl, _, rfl, _, rfl, _, rfl, z, t + 1, n, rfl, C.pc, C.er, C.lg, x1, by omega, by omega, fun P os H2 x2 => good P os z.fr H2 (x2.more (by omega) (Nat.le_refl _))⟩
  · rw [decide_eq_false c]
    refine iteF ⟨_, rfl, _, _, rfl, rfl, _, rfl, ?_⟩
    by_cases c4 : w < 4
    · rw [decide_eq_true c4]
      exact iteT ⟨_, rfl, _, rfl, _, rfl, _, rfl, _, rfl, z, t + 1, n, rfl, C.er, x1, by omega, by omega, fun fr H2 x2 => good z.h.P z.os fr H2 (x2.more (by omega) (Nat.le_refl _))⟩
    · rw [decide_eq_false c4]
      exact iteF (good z.h.P z.os z.fr H1 (x1.more (by omega) (by omega)))
theorem law_turns (C : K55C K) (x : S55 K H z t 0) (ht : t ≤ 100000) {sn : List Int} (hS : SqL K H S (sn.map V.int)) (k : ∀ H', Q (.bl true) H') {z9 z10 z11 z12 : Option V} :
    t_law_turns K { nx := fun _ H' => Q .non H', rt := Q } [some (.ref S), some (.ref z.D), some (.ref z.T), some (.ref L), some (.ref z.R), some (.ref z.h.A), some (.ref z.Lp), some (.ref z.Lo), some (.ref z.Fa), z9, z10, z11, z12] H := by
  have mm := min2_eq (i := ((sn.map V.int).length : Int)) (j := 40)
  have g0 : (0 : Int) ≤ (if (40 : Int) < ((sn.map V.int).length : Int) then 40 else ((sn.map V.int).length : Int)) := by
    by_cases q : (40 : Int) < ((sn.map V.int).length : Int)
    · rw [if_pos q]; omega
    · rw [if_neg q]; omega
  refine ⟨_, rfl, ⟨_, _, rfl, .inl ⟨_, hS, rfl⟩, _, _, rfl, _, _, rfl, rfl, _, rfl, by omega, by omega, ?_⟩⟩
  refine for_range (lo := 0) (fun i σ H' => ∃ P os fr hn m z9 z10 z11 z12, S55 K H' (z.to P os fr hn m) (t + 200 * i) i ∧ σ = [some (.ref S), some (.ref z.D), some (.ref z.T), some (.ref L), some (.ref z.R), some (.ref z.h.A), some (.ref z.Lp), some (.ref z.Lo), some (.ref z.Fa), z9, z10, z11, z12]) ⟨z.h.P, z.os, z.fr, z.hn, z.m, _, _, _, _, x, rfl⟩ ?_ ?_
  · rintro i σ H1 hi ⟨P, os, fr, hn, m, y9, y10, y11, y12, y, rfl⟩
    have hi2 : i ≤ 42 := by omega
    exact law_turn (z := z.to P os fr hn m) C y (by omega) (by omega) fun P' os' fr' hn' m' H' z10 z11 z12 y' => ⟨P', os', fr', hn', m', _, _, _, _, y'.more (by omega) (Nat.le_refl _), rfl⟩
  · rintro σ H1 ⟨P, os, fr, hn, m, y9, y10, y11, y12, y, rfl⟩
    exact law_end (z := z.to P os fr hn m) y k
theorem pure_law {vs : List V} {E : XK} (Z : BkC K ∧ HsC K ∧ K55C K) (z : sp_law K vs H Q E) : t_law K { nx := fun _ H' => Q .non H', rt := Q } (start N_law vs) H := by
  obtain ⟨bc, hsc, kc⟩ := Z
  obtain ⟨a, dn, rfl, hS, hl, k⟩ := z
  refine ⟨_, rfl, a, dn, rfl, hS, hl, fun c D H1 sm nc nD dk => ?_⟩
  refine ⟨_, rfl, c, D, dn, _, 7, rfl, dk, by decide, by decide, by decide, fun q T L as cs ns H2 hq w few => ⟨q, _, rfl, sqT hq, rfl, _, _, rfl, _, _, rfl, rfl, ?_⟩⟩
  have ndn : ns.Nodup := lt_nodupA w.inc
  have lns : ns.length ≤ 400 := Nat.le_trans (w.nm.len ndn) w.few
  obtain ⟨v0, hv0, _⟩ := w.some_
  have pos : 0 < cs.length := by have := w.nm v0 hv0; omega
  refine ⟨_, rfl, L, ns, rfl, w.held, by omega, fun R H3 s3 nR hR => ?_⟩
  rw [once_self ndn] at hR
  have hT3 := s3 _ _ w.tr
  have hcs3 := w.cs_.mono (TM.of s3)
  refine ⟨_, rfl, T, as, cs, rfl, bc, hT3, hcs3, w.fam, w.few, fun b H4 s4 nb bk => ?_⟩
  refine ⟨_, rfl, b, cs, as, L, ns, rfl, hsc, bk, s4 _ _ (s3 _ _ w.held), ndn, w.nm, lns, fun h m H5 s5 fr5 nd5 hs5 he5 => ?_⟩
  refine ⟨by show (0 : Nat) ≤ sizeLine; decide, fun Lp nLp => ⟨by show (0 : Nat) ≤ sizeLine; decide, fun Lo nLo => fun Fa nFa => ?_⟩⟩
  have s6 : Same H5 (upd H5 Lp (.lst [])) := samN nLp
  have hLp : upd H5 Lp (.lst []) Lp = some (.lst []) := updS
  dsimp only [tNil] at nLo nFa ⊢
  generalize upd H5 Lp (.lst []) = H6 at s6 hLp nLo nFa ⊢
  have s7 : Same H6 (upd H6 Lo (.lst [])) := samN nLo
  have hLo : upd H6 Lo (.lst []) Lo = some (.lst []) := updS
  generalize upd H6 Lo (.lst []) = H7 at s7 hLo nFa ⊢
  have s8 : Same H7 (upd H7 Fa (.dT [])) := samN nFa
  have hFa : upd H7 Fa (.dT []) Fa = some (.dT (frD [])) := updS
  generalize upd H7 Fa (.dT []) = H8 at s8 hFa ⊢
  have s45 := s4.trans s5
  have s58 := (s6.trans s7).trans s8
  have s28 := s3.trans (s45.trans s58)
  have d2 := w.dk
  obtain ⟨xD, hD⟩ := d2.someD
  obtain ⟨xC, hC⟩ := d2.someC
  obtain ⟨dxh, hA5⟩ := hs5.ho
  obtain ⟨dxb, fsb, hB4, _⟩ := id bk.bo
  have hTn : H1 T = none := w.nT
  obtain ⟨xD1, hD1⟩ := dk.someD
  obtain ⟨xC1, hC1⟩ := dk.someC
  -- all of them are unlike
  have nd0 : [D, c].Nodup := by simp [dk.1.symm]
  have nd1 : ([D, c] ++ [T]).Nodup := nd_new55 (H := H1) nd0 (by simp) (fun y hy => by
    simp only [List.mem_cons, List.not_mem_nil, or_false] at hy
    rcases hy with rfl | rfl
    · rw [hD1]; simp
    · rw [hC1]; simp) (fun y hy => by rw [List.mem_singleton.mp hy]; exact hTn)
  have a2 : ∀ y ∈ [D, c] ++ [T], H2 y ≠ none := fun y hy => by
    simp only [List.cons_append, List.nil_append, List.mem_cons, List.not_mem_nil, or_false] at hy
    rcases hy with rfl | rfl | rfl
    · rw [hD]; simp
    · rw [hC]; simp
    · rw [w.tr]; simp
  have nd2 := nd_new55 (M := [R]) nd1 (by simp) a2 (fun y hy => by rw [List.mem_singleton.mp hy]; exact nR)
  have up : ∀ {H H' : Hp} {l : List Addr}, Same H H' → (∀ y ∈ l, H y ≠ none) → ∀ y ∈ l, H' y ≠ none := fun {H H' l} s h y hy => by
    cases e : H y with
    | none => exact absurd e (h y hy)
    | some o => rw [s _ _ e]; simp
  have app : ∀ {H : Hp} {l m : List Addr}, (∀ y ∈ l, H y ≠ none) → (∀ y ∈ m, H y ≠ none) → ∀ y ∈ l ++ m, H y ≠ none := fun h1 h2 y hy => (List.mem_append.mp hy).elim (h1 y) (h2 y)
  have a3 : ∀ y ∈ [D, c] ++ [T] ++ [R], H3 y ≠ none := app (up s3 a2) (fun y hy => by rw [List.mem_singleton.mp hy, hR]; simp)
  have nB : [b.B, b.L, b.E, b.G].Nodup := by
    have h1 : b.B ≠ b.L := ne_of hB4 bk.hL fun z => by cases z
    have h2 : b.B ≠ b.E := ne_of hB4 bk.hE fun z => by cases z
    have h3 : b.B ≠ b.G := ne_of hB4 bk.hG fun z => by cases z
    have h4 : b.L ≠ b.G := ne_of bk.hL bk.hG fun z => by cases z
    have h5 : b.E ≠ b.G := ne_of bk.hE bk.hG fun z => by cases z
    simp [h1, h2, h3, h4, h5, bk.ne]
  have nd3 := nd_new55 nd2 nB a3 nb
  have a4 : ∀ y ∈ [D, c] ++ [T] ++ [R] ++ [b.B, b.L, b.E, b.G], H4 y ≠ none := app (up s4 a3) (fun y hy => by
    simp only [List.mem_cons, List.not_mem_nil, or_false] at hy
    rcases hy with rfl | rfl | rfl | rfl
    · rw [hB4]; simp
    · rw [bk.hL]; simp
    · rw [bk.hE]; simp
    · rw [bk.hG]; simp)
  have nH : [h.A, h.I, h.S, h.F, h.P].Nodup := by
    refine nd5.sublist ?_
    exact .cons_cons _ (.cons_cons _ (.cons_cons _ (.cons _ (.cons_cons _ (.cons_cons _ .slnil)))))
  have nd4 := nd_new55 nd3 nH a4 (fun y hy => fr5 y (by
    simp only [List.mem_cons, List.not_mem_nil, or_false] at hy ⊢
    rcases hy with rfl | rfl | rfl | rfl | rfl <;> simp))
  have a5 : ∀ y ∈ [D, c] ++ [T] ++ [R] ++ [b.B, b.L, b.E, b.G] ++ [h.A, h.I, h.S, h.F, h.P], H5 y ≠ none := app (up s5 a4) (fun y hy => by
    simp only [List.mem_cons, List.not_mem_nil, or_false] at hy
    rcases hy with rfl | rfl | rfl | rfl | rfl
    · rw [hA5]; simp
    · rw [hs5.hI]; simp
    · rw [he5.1]; simp
    · rw [he5.2.2.1]; simp
    · rw [he5.2.2.2]; simp)
  have nd5' := nd_new55 (M := [Lp]) nd4 (by simp) a5 (fun y hy => by rw [List.mem_singleton.mp hy]; exact nLp)
  have a6 := app (up s6 a5) (m := [Lp]) (fun y hy => by rw [List.mem_singleton.mp hy, hLp]; simp)
  have nd6 := nd_new55 (M := [Lo]) nd5' (by simp) a6 (fun y hy => by rw [List.mem_singleton.mp hy]; exact nLo)
  have a7 := app (up s7 a6) (m := [Lo]) (fun y hy => by rw [List.mem_singleton.mp hy, hLo]; simp)
  have nd7 := nd_new55 (M := [Fa]) nd6 (by simp) a7 (fun y hy => by rw [List.mem_singleton.mp hy]; exact nFa)
  have n1 : (D55.hd ⟨c, D, T, R, Lp, Lo, Fa, h, b, cs, as, dn, ns, m, [], []⟩).Nodup := nd_pick nd7 D [12, 0, 2, 3, 13, 14, 15, 4, 5, 6, 7, 8, 9, 10, 11, 1] (by decide) (by show ∀ i ∈ [12, 0, 2, 3, 13, 14, 15, 4, 5, 6, 7, 8, 9, 10, 11, 1], i < 16; decide)
  have x : S55 K H8 ⟨c, D, T, R, Lp, Lo, Fa, h, b, cs, as, dn, ns, m, [], []⟩ 2000 0 :=
    ⟨(d2.same s28).le (by decide), ⟨⟨as, s28 _ _ w.tr, w.cs_.mono (TM.of s28)⟩, w.fam, w.few⟩, bk.same (s5.trans s58), hs5.same s58, s45.trans s58 _ _ hR, s58 _ _ he5.1, s58 _ _ he5.2.2.2, s58 _ _ he5.2.2.1, s7.trans s8 _ _ hLp, s8 _ _ hLo, hFa, (fun e he => by cases he), w.nm, pos, few, (fun e he => by cases he), (fun e he => by cases he), .nil, n1, (fun e he => by cases he), (fun i j e f hi => by simp at hi), Nat.le_refl _, Nat.le_refl _, Nat.le_refl _⟩
  have hS8 : SqL K H8 a (dn.map V.int) := SqL.kp55 hS (((Kp.of_same sm).trans w.kp).trans (Kp.of_same s28)) nD
  exact law_turns kc x (by decide) hS8 k
end
end Fw
set_option Elab.async false
set_option linter.all false
set_option maxRecDepth 100000
set_option maxHeartbeats 1000000
namespace Fw
open PySem L2 RZ RT
structure K55M (K : PySem.W.Frag) : Prop where
  nn : ErG K "NoName" ["Lack"]
  lk : ErG K "Lack" ["NoName"]
  lg : LgE K
  heir : HeirC K (He.ga K "HouseError")
  cg : ClsG K (He.ga K "Store") (He.fAd K ("Store", some "__init__")) "__init__"
  inh : ∀ m ∈ (["put", "held", "holds"] : List Str), Meth K (He.ga K "House") m (He.fAd K ("Store", some m))
theorem lgB_ok {K : PySem.W.Frag} (h : lgB K = true) : LgE K := by
  unfold lgB at h
  obtain ⟨h1, h⟩ := He.ba h
  obtain ⟨h2, h⟩ := He.ba h
  obtain ⟨h3, h⟩ := He.ba h
  obtain ⟨h4, h⟩ := He.ba h
  obtain ⟨h5, h6⟩ := He.ba h
  exact ⟨excB_ok h1, of_decide_eq_true h2, of_decide_eq_true h3, of_decide_eq_true h4, of_decide_eq_true h5, of_decide_eq_true h6⟩
theorem k55_of {K : PySem.W.Frag} (h : k55B K = true) : K55M K := by
  unfold k55B at h
  obtain ⟨h1, h⟩ := He.ba h
  obtain ⟨h2, h⟩ := He.ba h
  obtain ⟨h3, h⟩ := He.ba h
  obtain ⟨h4, h⟩ := He.ba h
  unfold hou55B at h
  obtain ⟨h5, h6⟩ := He.ba h
  exact ⟨ergB_ok h1, ergB_ok h2, lgB_ok h3, heirB_ok h4, clsgB_ok h5, inhB_ok h6⟩
end Fw
set_option Elab.async false
set_option linter.all false
set_option maxRecDepth 100000
set_option maxHeartbeats 4000000
namespace K55
open PySem L2 RZ RT Fw
theorem sc_House_marks : FnScope N_House_marks ["self"] (defScope s_House_marks) := ⟨rfl, rfl, rfl, by decide +kernel, rfl, by decide +kernel, by decide +kernel⟩
theorem sc_House_held : FnScope N_House_held ["self"] (defScope s_House_held) := ⟨rfl, rfl, rfl, by decide +kernel, rfl, by decide +kernel, by decide +kernel⟩
theorem sc_is_int : FnScope N_is_int ["thing"] (defScope s_is_int) := ⟨rfl, rfl, rfl, by decide +kernel, rfl, by decide +kernel, by decide +kernel⟩
theorem sc_Book_is_name : FnScope N_Book_is_name ["self", "thing"] (defScope s_Book_is_name) := ⟨rfl, rfl, rfl, by decide +kernel, rfl, by decide +kernel, by decide +kernel⟩
theorem sc_House_put : FnScope N_House_put ["self", "name"] (defScope s_House_put) := ⟨rfl, rfl, rfl, by decide +kernel, rfl, by decide +kernel, by decide +kernel⟩
theorem sc_Book_init : FnScope N_Book_init ["self"] (defScope s_Book_init) := ⟨rfl, rfl, rfl, by decide +kernel, rfl, by decide +kernel, by decide +kernel⟩
theorem sc_Book_depth : FnScope N_Book_depth ["self", "content"] (defScope s_Book_depth) := ⟨rfl, rfl, rfl, by decide +kernel, rfl, by decide +kernel, by decide +kernel⟩
theorem sc_Book_give_next : FnScope N_Book_give_next ["self", "content"] (defScope s_Book_give_next) := ⟨rfl, rfl, rfl, by decide +kernel, rfl, by decide +kernel, by decide +kernel⟩
theorem sc_Book_has_kinds : FnScope N_Book_has_kinds ["self", "names", "kinds"] (defScope s_Book_has_kinds) := ⟨rfl, rfl, rfl, by decide +kernel, rfl, by decide +kernel, by decide +kernel⟩
theorem sc_is_label : FnScope N_is_label ["thing"] (defScope s_is_label) := ⟨rfl, rfl, rfl, by decide +kernel, rfl, by decide +kernel, by decide +kernel⟩
theorem sc_is_pair : FnScope N_is_pair ["thing"] (defScope s_is_pair) := ⟨rfl, rfl, rfl, by decide +kernel, rfl, by decide +kernel, by decide +kernel⟩
theorem sc_is_entry : FnScope N_is_entry ["thing"] (defScope s_is_entry) := ⟨rfl, rfl, rfl, by decide +kernel, rfl, by decide +kernel, by decide +kernel⟩
theorem sc_rises : FnScope N_rises ["things"] (defScope s_rises) := ⟨rfl, rfl, rfl, by decide +kernel, rfl, by decide +kernel, by decide +kernel⟩
theorem sc_is_entries : FnScope N_is_entries ["thing"] (defScope s_is_entries) := ⟨rfl, rfl, rfl, by decide +kernel, rfl, by decide +kernel, by decide +kernel⟩
theorem sc_is_sign : FnScope N_is_sign ["sign"] (defScope s_is_sign) := ⟨rfl, rfl, rfl, by decide +kernel, rfl, by decide +kernel, by decide +kernel⟩
theorem sc_is_text : FnScope N_is_text ["thing"] (defScope s_is_text) := ⟨rfl, rfl, rfl, by decide +kernel, rfl, by decide +kernel, by decide +kernel⟩
theorem sc_is_row : FnScope N_is_row ["thing"] (defScope s_is_row) := ⟨rfl, rfl, rfl, by decide +kernel, rfl, by decide +kernel, by decide +kernel⟩
theorem sc_is_rows : FnScope N_is_rows ["thing"] (defScope s_is_rows) := ⟨rfl, rfl, rfl, by decide +kernel, rfl, by decide +kernel, by decide +kernel⟩
theorem sc_is_ints : FnScope N_is_ints ["thing"] (defScope s_is_ints) := ⟨rfl, rfl, rfl, by decide +kernel, rfl, by decide +kernel, by decide +kernel⟩
theorem sc_is_rising : FnScope N_is_rising ["thing"] (defScope s_is_rising) := ⟨rfl, rfl, rfl, by decide +kernel, rfl, by decide +kernel, by decide +kernel⟩
theorem sc_is_stamp : FnScope N_is_stamp ["thing"] (defScope s_is_stamp) := ⟨rfl, rfl, rfl, by decide +kernel, rfl, by decide +kernel, by decide +kernel⟩
theorem sc_is_version_form : FnScope N_is_version_form ["thing"] (defScope s_is_version_form) := ⟨rfl, rfl, rfl, by decide +kernel, rfl, by decide +kernel, by decide +kernel⟩
theorem sc_is_content_form : FnScope N_is_content_form ["thing"] (defScope s_is_content_form) := ⟨rfl, rfl, rfl, by decide +kernel, rfl, by decide +kernel, by decide +kernel⟩
theorem sc_Book_is_content : FnScope N_Book_is_content ["self", "thing"] (defScope s_Book_is_content) := ⟨rfl, rfl, rfl, by decide +kernel, rfl, by decide +kernel, by decide +kernel⟩
theorem sc_Book_named : FnScope N_Book_named ["self", "content"] (defScope s_Book_named) := ⟨rfl, rfl, rfl, by decide +kernel, rfl, by decide +kernel, by decide +kernel⟩
theorem sc_l_book : FnScope N_l_book ["_law_things"] (defScope s_l_book) := ⟨rfl, rfl, rfl, by decide +kernel, rfl, by decide +kernel, by decide +kernel⟩
abbrev N_l_deck : List Str := ["_law_script"]
theorem sc_l_deck : FnScope N_l_deck ["_law_script"] (defScope s_l_deck) := ⟨rfl, rfl, rfl, by decide +kernel, rfl, by decide +kernel, by decide +kernel⟩
theorem sc_l_mixed : FnScope N_l_mixed ["_law_cell", "_law_turn"] (defScope s_l_mixed) := ⟨rfl, rfl, rfl, by decide +kernel, rfl, by decide +kernel, by decide +kernel⟩
theorem sc_l_draw : FnScope N_l_draw ["_law_deck_here", "_law_many"] (defScope s_l_draw) := ⟨rfl, rfl, rfl, by decide +kernel, rfl, by decide +kernel, by decide +kernel⟩
theorem sc_Lack_init : FnScope N_Lack_init ["self", "name"] (defScope s_Lack_init) := ⟨rfl, rfl, rfl, by decide +kernel, rfl, by decide +kernel, by decide +kernel⟩
theorem sc_House_holds : FnScope N_House_holds ["self", "name"] (defScope s_House_holds) := ⟨rfl, rfl, rfl, by decide +kernel, rfl, by decide +kernel, by decide +kernel⟩
theorem sc_Book_is_version : FnScope N_Book_is_version ["self", "thing"] (defScope s_Book_is_version) := ⟨rfl, rfl, rfl, by decide +kernel, rfl, by decide +kernel, by decide +kernel⟩
theorem sc_NoName_init : FnScope N_NoName_init ["self", "name"] (defScope s_NoName_init) := ⟨rfl, rfl, rfl, by decide +kernel, rfl, by decide +kernel, by decide +kernel⟩
theorem sc_check_versionsX : FnScope N_check_versionsX ["book", "names"] (defScope s_check_versionsX) := ⟨rfl, rfl, rfl, by decide +kernel, rfl, by decide +kernel, by decide +kernel⟩
theorem sc_check_held_versionH : FnScope N_check_held_versionH ["holder", "name"] (defScope s_check_held_versionH) := ⟨rfl, rfl, rfl, by decide +kernel, rfl, by decide +kernel, by decide +kernel⟩
theorem sc_House_set_far : FnScope N_House_set_far ["self", "label", "mark", "version"] (defScope s_House_set_far) := ⟨rfl, rfl, rfl, by decide +kernel, rfl, by decide +kernel, by decide +kernel⟩
theorem sc_l_far_set : FnScope N_l_far_set ["_law_house_here", "_law_label_here", "_law_mark", "_law_version"] (defScope s_l_far_set) := ⟨rfl, rfl, rfl, by decide +kernel, rfl, by decide +kernel, by decide +kernel⟩
theorem sc_l_label : FnScope N_l_label ["_law_deck_here"] (defScope s_l_label) := ⟨rfl, rfl, rfl, by decide +kernel, rfl, by decide +kernel, by decide +kernel⟩
theorem sc_l_name55 : FnScope N_l_name55 ["_law_deck_here", "_law_things"] (defScope s_l_name55) := ⟨rfl, rfl, rfl, by decide +kernel, rfl, by decide +kernel, by decide +kernel⟩
theorem sc_l_int : FnScope N_l_int ["_law_thing"] (defScope s_l_int) := ⟨rfl, rfl, rfl, by decide +kernel, rfl, by decide +kernel, by decide +kernel⟩
theorem sc_l_same : FnScope N_l_same ["_law_found", "_law_due"] (defScope s_l_same) := ⟨rfl, rfl, rfl, by decide +kernel, rfl, by decide +kernel, by decide +kernel⟩
theorem sc_l_is_version : FnScope N_l_is_version ["_law_things", "_law_name_here"] (defScope s_l_is_version) := ⟨rfl, rfl, rfl, by decide +kernel, rfl, by decide +kernel, by decide +kernel⟩
theorem sc_l_version_due : FnScope N_l_version_due ["_law_things", "_law_here_here", "_law_version"] (defScope s_l_version_due) := ⟨rfl, rfl, rfl, by decide +kernel, rfl, by decide +kernel, by decide +kernel⟩
theorem sc_l_far_deed : FnScope N_l_far_deed ["_law_deck_here", "_law_house_here", "_law_things", "_law_here_here", "_law_far"] (defScope s_l_far_deed) := ⟨rfl, rfl, rfl, by decide +kernel, rfl, by decide +kernel, by decide +kernel⟩
theorem sc_l_here55 : FnScope N_l_here55 ["_law_names"] (defScope s_l_here55) := ⟨rfl, rfl, rfl, by decide +kernel, rfl, by decide +kernel, by decide +kernel⟩
theorem sc_Store_initH : FnScope N_Store_initH ["self", "book"] (defScope s_Store_initH) := ⟨rfl, rfl, rfl, by decide +kernel, rfl, by decide +kernel, by decide +kernel⟩
theorem sc_House_initF : FnScope N_House_initF ["self", "book"] (defScope s_House_initF) := ⟨rfl, rfl, rfl, by decide +kernel, rfl, by decide +kernel, by decide +kernel⟩
theorem sc_l_house55 : FnScope N_l_house55 ["_law_book_here", "_law_held"] (defScope s_l_house55) := ⟨rfl, rfl, rfl, by decide +kernel, rfl, by decide +kernel, by decide +kernel⟩
theorem sc_Pin_let_go : FnScope N_Pin_let_go ["self"] (defScope s_Pin_let_go) := ⟨rfl, rfl, rfl, by decide +kernel, rfl, by decide +kernel, by decide +kernel⟩
theorem sc_check_held : FnScope N_check_held ["house", "names"] (defScope s_check_held) := ⟨rfl, rfl, rfl, by decide +kernel, rfl, by decide +kernel, by decide +kernel⟩
theorem sc_Pin_add : FnScope N_Pin_add ["self", "name"] (defScope s_Pin_add) := ⟨rfl, rfl, rfl, by decide +kernel, rfl, by decide +kernel, by decide +kernel⟩
theorem sc_l_added : FnScope N_l_added ["_law_one", "_law_name_here"] (defScope s_l_added) := ⟨rfl, rfl, rfl, by decide +kernel, rfl, by decide +kernel, by decide +kernel⟩
theorem sc_l_names_due : FnScope N_l_names_due ["_law_things", "_law_here_here", "_law_names"] (defScope s_l_names_due) := ⟨rfl, rfl, rfl, by decide +kernel, rfl, by decide +kernel, by decide +kernel⟩
theorem sc_Pin_init : FnScope N_Pin_init ["self", "house", "names"] (defScope s_Pin_init) := ⟨rfl, rfl, rfl, by decide +kernel, rfl, by decide +kernel, by decide +kernel⟩
theorem sc_House_pin : FnScope N_House_pin ["self", "names"] (defScope s_House_pin) := ⟨rfl, rfl, rfl, by decide +kernel, rfl, by decide +kernel, by decide +kernel⟩
theorem sc_l_pinned : FnScope N_l_pinned ["_law_house_here", "_law_pins", "_law_names"] (defScope s_l_pinned) := ⟨rfl, rfl, rfl, by decide +kernel, rfl, by decide +kernel, by decide +kernel⟩
theorem sc_l_pin_deed : FnScope N_l_pin_deed ["_law_deck_here", "_law_house_here", "_law_things", "_law_here_here", "_law_pins", "_law_ons"] (defScope s_l_pin_deed) := ⟨rfl, rfl, rfl, by decide +kernel, rfl, by decide +kernel, by decide +kernel⟩
theorem sc_House_far : FnScope N_House_far ["self"] (defScope s_House_far) := ⟨rfl, rfl, rfl, by decide +kernel, rfl, by decide +kernel, by decide +kernel⟩
theorem sc_Pin_names : FnScope N_Pin_names ["self"] (defScope s_Pin_names) := ⟨rfl, rfl, rfl, by decide +kernel, rfl, by decide +kernel, by decide +kernel⟩
theorem sc_House_roots : FnScope N_House_roots ["self"] (defScope s_House_roots) := ⟨rfl, rfl, rfl, by decide +kernel, rfl, by decide +kernel, by decide +kernel⟩
theorem sc_Pin_len : FnScope N_Pin_len ["self"] (defScope s_Pin_len) := ⟨rfl, rfl, rfl, by decide +kernel, rfl, by decide +kernel, by decide +kernel⟩
theorem sc_l_roots55 : FnScope N_l_roots55 ["_law_far", "_law_ons"] (defScope s_l_roots55) := ⟨rfl, rfl, rfl, by decide +kernel, rfl, by decide +kernel, by decide +kernel⟩
theorem sc_l_pins_right : FnScope N_l_pins_right ["_law_deck_here", "_law_house_here", "_law_pins", "_law_ons", "_law_far"] (defScope s_l_pins_right) := ⟨rfl, rfl, rfl, by decide +kernel, rfl, by decide +kernel, by decide +kernel⟩
theorem sc_l_give : FnScope N_l_give ["_law_things", "_law_content"] (defScope s_l_give) := ⟨rfl, rfl, rfl, by decide +kernel, rfl, by decide +kernel, by decide +kernel⟩
abbrev N_l_some : List Str := ["_law_deck_here", "_law_names", "_law_count", "_law_some_here", "_law_k"]
theorem sc_l_some : FnScope N_l_some ["_law_deck_here", "_law_names", "_law_count"] (defScope s_l_some) := ⟨rfl, rfl, rfl, by decide +kernel, rfl, by decide +kernel, by decide +kernel⟩
abbrev N_l_scene : List Str := ["_law_deck_here", "_law_most", "_law_pick", "_law_things", "_law_k", "_law_parents", "_law_names", "_law_held", "_law_gone", "_law_name_here"]
theorem sc_l_scene : FnScope N_l_scene ["_law_deck_here", "_law_most"] (defScope s_l_scene) := ⟨rfl, rfl, rfl, by decide +kernel, rfl, by decide +kernel, by decide +kernel⟩
theorem sc_law : FnScope N_law ["_law_script"] (defScope s_law) := ⟨rfl, rfl, rfl, by decide +kernel, rfl, by decide +kernel, by decide +kernel⟩
structure Tx (K : PySem.W.Frag) (mg : Str → Option Value) : Type where
  fd_House_marks : FuncData
  F_House_marks : FunD K "marks" "House.marks" (defArgs s_House_marks) (defBody s_House_marks) (defScope s_House_marks) [] [] (He.fAd K ("House", some "marks")) fd_House_marks
  fd_House_held : FuncData
  F_House_held : FunD K "held" "Store.held" (defArgs s_House_held) (defBody s_House_held) (defScope s_House_held) [] [] (He.fAd K ("Store", some "held")) fd_House_held
  fd_is_int : FuncData
  F_is_int : FnP K "is_int" s_is_int (He.fAd K ("is_int", none)) fd_is_int
  g_is_int : mg "is_int" = some (.ref (He.fAd K ("is_int", none)))
  fd_Book_is_name : FuncData
  F_Book_is_name : FunD K "is_name" "Book.is_name" (defArgs s_Book_is_name) (defBody s_Book_is_name) (defScope s_Book_is_name) [] [] (He.fAd K ("Book", some "is_name")) fd_Book_is_name
  fd_House_put : FuncData
  F_House_put : FunD K "put" "Store.put" (defArgs s_House_put) (defBody s_House_put) (defScope s_House_put) [] [] (He.fAd K ("Store", some "put")) fd_House_put
  fd_Book_init : FuncData
  F_Book_init : FunD K "__init__" "Book.__init__" (defArgs s_Book_init) (defBody s_Book_init) (defScope s_Book_init) [] [] (He.fAd K ("Book", some "__init__")) fd_Book_init
  fd_Book_depth : FuncData
  F_Book_depth : FunD K "depth" "Book.depth" (defArgs s_Book_depth) (defBody s_Book_depth) (defScope s_Book_depth) [] [] (He.fAd K ("Book", some "depth")) fd_Book_depth
  fd_Book_give_next : FuncData
  F_Book_give_next : FunD K "give_next" "Book.give_next" (defArgs s_Book_give_next) (defBody s_Book_give_next) (defScope s_Book_give_next) [] [] (He.fAd K ("Book", some "give_next")) fd_Book_give_next
  fd_Book_has_kinds : FuncData
  F_Book_has_kinds : FunD K "has_kinds" "Book.has_kinds" (defArgs s_Book_has_kinds) (defBody s_Book_has_kinds) (defScope s_Book_has_kinds) [] [] (He.fAd K ("Book", some "has_kinds")) fd_Book_has_kinds
  fd_is_label : FuncData
  F_is_label : FnP K "is_label" s_is_label (He.fAd K ("is_label", none)) fd_is_label
  g_is_label : mg "is_label" = some (.ref (He.fAd K ("is_label", none)))
  fd_is_pair : FuncData
  F_is_pair : FnP K "is_pair" s_is_pair (He.fAd K ("is_pair", none)) fd_is_pair
  g_is_pair : mg "is_pair" = some (.ref (He.fAd K ("is_pair", none)))
  fd_is_entry : FuncData
  F_is_entry : FnP K "is_entry" s_is_entry (He.fAd K ("is_entry", none)) fd_is_entry
  g_is_entry : mg "is_entry" = some (.ref (He.fAd K ("is_entry", none)))
  fd_rises : FuncData
  F_rises : FnP K "rises" s_rises (He.fAd K ("rises", none)) fd_rises
  g_rises : mg "rises" = some (.ref (He.fAd K ("rises", none)))
  fd_is_entries : FuncData
  F_is_entries : FnP K "is_entries" s_is_entries (He.fAd K ("is_entries", none)) fd_is_entries
  g_is_entries : mg "is_entries" = some (.ref (He.fAd K ("is_entries", none)))
  fd_is_sign : FuncData
  F_is_sign : FnP K "is_sign" s_is_sign (He.fAd K ("is_sign", none)) fd_is_sign
  g_is_sign : mg "is_sign" = some (.ref (He.fAd K ("is_sign", none)))
  fd_is_text : FuncData
  F_is_text : FnP K "is_text" s_is_text (He.fAd K ("is_text", none)) fd_is_text
  g_is_text : mg "is_text" = some (.ref (He.fAd K ("is_text", none)))
  fd_is_row : FuncData
  F_is_row : FnP K "is_row" s_is_row (He.fAd K ("is_row", none)) fd_is_row
  g_is_row : mg "is_row" = some (.ref (He.fAd K ("is_row", none)))
  fd_is_rows : FuncData
  F_is_rows : FnP K "is_rows" s_is_rows (He.fAd K ("is_rows", none)) fd_is_rows
  g_is_rows : mg "is_rows" = some (.ref (He.fAd K ("is_rows", none)))
  fd_is_ints : FuncData
  F_is_ints : FnP K "is_ints" s_is_ints (He.fAd K ("is_ints", none)) fd_is_ints
  g_is_ints : mg "is_ints" = some (.ref (He.fAd K ("is_ints", none)))
  fd_is_rising : FuncData
  F_is_rising : FnP K "is_rising" s_is_rising (He.fAd K ("is_rising", none)) fd_is_rising
  g_is_rising : mg "is_rising" = some (.ref (He.fAd K ("is_rising", none)))
  fd_is_stamp : FuncData
  F_is_stamp : FnP K "is_stamp" s_is_stamp (He.fAd K ("is_stamp", none)) fd_is_stamp
  g_is_stamp : mg "is_stamp" = some (.ref (He.fAd K ("is_stamp", none)))
  fd_is_version_form : FuncData
  F_is_version_form : FnP K "is_version_form" s_is_version_form (He.fAd K ("is_version_form", none)) fd_is_version_form
  g_is_version_form : mg "is_version_form" = some (.ref (He.fAd K ("is_version_form", none)))
  fd_is_content_form : FuncData
  F_is_content_form : FnP K "is_content_form" s_is_content_form (He.fAd K ("is_content_form", none)) fd_is_content_form
  g_is_content_form : mg "is_content_form" = some (.ref (He.fAd K ("is_content_form", none)))
  fd_Book_is_content : FuncData
  F_Book_is_content : FunD K "is_content" "Book.is_content" (defArgs s_Book_is_content) (defBody s_Book_is_content) (defScope s_Book_is_content) [] [] (He.fAd K ("Book", some "is_content")) fd_Book_is_content
  fd_Book_named : FuncData
  F_Book_named : FunD K "named" "Book.named" (defArgs s_Book_named) (defBody s_Book_named) (defScope s_Book_named) [] [] (He.fAd K ("Book", some "named")) fd_Book_named
  fd_l_book : FuncData
  F_l_book : FnP K "_law_book" s_l_book (He.fAd K ("_law_book", none)) fd_l_book
  g_l_book : mg "_law_book" = some (.ref (He.fAd K ("_law_book", none)))
  fd_l_deck : FuncData
  F_l_deck : FnP K "_law_deck" s_l_deck (He.fAd K ("_law_deck", none)) fd_l_deck
  g_l_deck : mg "_law_deck" = some (.ref (He.fAd K ("_law_deck", none)))
  fd_l_mixed : FuncData
  F_l_mixed : FnP K "_law_mixed" s_l_mixed (He.fAd K ("_law_mixed", none)) fd_l_mixed
  g_l_mixed : mg "_law_mixed" = some (.ref (He.fAd K ("_law_mixed", none)))
  fd_l_draw : FuncData
  F_l_draw : FnP K "_law_draw" s_l_draw (He.fAd K ("_law_draw", none)) fd_l_draw
  g_l_draw : mg "_law_draw" = some (.ref (He.fAd K ("_law_draw", none)))
  fd_Lack_init : FuncData
  F_Lack_init : FunD K "__init__" "Lack.__init__" (defArgs s_Lack_init) (defBody s_Lack_init) (defScope s_Lack_init) [] [] (He.fAd K ("Lack", some "__init__")) fd_Lack_init
  fd_House_holds : FuncData
  F_House_holds : FunD K "holds" "Store.holds" (defArgs s_House_holds) (defBody s_House_holds) (defScope s_House_holds) [] [] (He.fAd K ("Store", some "holds")) fd_House_holds
  fd_Book_is_version : FuncData
  F_Book_is_version : FunD K "is_version" "Book.is_version" (defArgs s_Book_is_version) (defBody s_Book_is_version) (defScope s_Book_is_version) [] [] (He.fAd K ("Book", some "is_version")) fd_Book_is_version
  fd_NoName_init : FuncData
  F_NoName_init : FunD K "__init__" "NoName.__init__" (defArgs s_NoName_init) (defBody s_NoName_init) (defScope s_NoName_init) [] [] (He.fAd K ("NoName", some "__init__")) fd_NoName_init
  fd_check_versionsX : FuncData
  F_check_versionsX : FnP K "check_versions" s_check_versionsX (He.fAd K ("check_versions", none)) fd_check_versionsX
  g_check_versionsX : mg "check_versions" = some (.ref (He.fAd K ("check_versions", none)))
  fd_check_held_versionH : FuncData
  F_check_held_versionH : FnP K "check_held_version" s_check_held_versionH (He.fAd K ("check_held_version", none)) fd_check_held_versionH
  g_check_held_versionH : mg "check_held_version" = some (.ref (He.fAd K ("check_held_version", none)))
  fd_House_set_far : FuncData
  F_House_set_far : FunD K "set_far" "House.set_far" (defArgs s_House_set_far) (defBody s_House_set_far) (defScope s_House_set_far) [] [] (He.fAd K ("House", some "set_far")) fd_House_set_far
  fd_l_far_set : FuncData
  F_l_far_set : FnP K "_law_far_set" s_l_far_set (He.fAd K ("_law_far_set", none)) fd_l_far_set
  g_l_far_set : mg "_law_far_set" = some (.ref (He.fAd K ("_law_far_set", none)))
  fd_l_label : FuncData
  F_l_label : FnP K "_law_label" s_l_label (He.fAd K ("_law_label", none)) fd_l_label
  g_l_label : mg "_law_label" = some (.ref (He.fAd K ("_law_label", none)))
  fd_l_name55 : FuncData
  F_l_name55 : FnP K "_law_name" s_l_name55 (He.fAd K ("_law_name", none)) fd_l_name55
  g_l_name55 : mg "_law_name" = some (.ref (He.fAd K ("_law_name", none)))
  fd_l_int : FuncData
  F_l_int : FnP K "_law_int" s_l_int (He.fAd K ("_law_int", none)) fd_l_int
  g_l_int : mg "_law_int" = some (.ref (He.fAd K ("_law_int", none)))
  fd_l_same : FuncData
  F_l_same : FnP K "_law_same" s_l_same (He.fAd K ("_law_same", none)) fd_l_same
  g_l_same : mg "_law_same" = some (.ref (He.fAd K ("_law_same", none)))
  fd_l_is_version : FuncData
  F_l_is_version : FnP K "_law_is_version" s_l_is_version (He.fAd K ("_law_is_version", none)) fd_l_is_version
  g_l_is_version : mg "_law_is_version" = some (.ref (He.fAd K ("_law_is_version", none)))
  fd_l_version_due : FuncData
  F_l_version_due : FnP K "_law_version_due" s_l_version_due (He.fAd K ("_law_version_due", none)) fd_l_version_due
  g_l_version_due : mg "_law_version_due" = some (.ref (He.fAd K ("_law_version_due", none)))
  fd_l_far_deed : FuncData
  F_l_far_deed : FnP K "_law_far_deed" s_l_far_deed (He.fAd K ("_law_far_deed", none)) fd_l_far_deed
  g_l_far_deed : mg "_law_far_deed" = some (.ref (He.fAd K ("_law_far_deed", none)))
  fd_l_here55 : FuncData
  F_l_here55 : FnP K "_law_here" s_l_here55 (He.fAd K ("_law_here", none)) fd_l_here55
  g_l_here55 : mg "_law_here" = some (.ref (He.fAd K ("_law_here", none)))
  fd_Store_initH : FuncData
  F_Store_initH : FunD K "__init__" "Store.__init__" (defArgs s_Store_initH) (defBody s_Store_initH) (defScope s_Store_initH) [] [] (He.fAd K ("Store", some "__init__")) fd_Store_initH
  fd_House_initF : FuncData
  F_House_initF : FunD K "__init__" "House.__init__" (defArgs s_House_initF) (defBody s_House_initF) (defScope s_House_initF) [] [] (He.fAd K ("House", some "__init__")) fd_House_initF
  fd_l_house55 : FuncData
  F_l_house55 : FnP K "_law_house" s_l_house55 (He.fAd K ("_law_house", none)) fd_l_house55
  g_l_house55 : mg "_law_house" = some (.ref (He.fAd K ("_law_house", none)))
  fd_Pin_let_go : FuncData
  F_Pin_let_go : FunD K "let_go" "Pin.let_go" (defArgs s_Pin_let_go) (defBody s_Pin_let_go) (defScope s_Pin_let_go) [] [] (He.fAd K ("Pin", some "let_go")) fd_Pin_let_go
  fd_check_held : FuncData
  F_check_held : FnP K "check_held" s_check_held (He.fAd K ("check_held", none)) fd_check_held
  g_check_held : mg "check_held" = some (.ref (He.fAd K ("check_held", none)))
  fd_Pin_add : FuncData
  F_Pin_add : FunD K "add" "Pin.add" (defArgs s_Pin_add) (defBody s_Pin_add) (defScope s_Pin_add) [] [] (He.fAd K ("Pin", some "add")) fd_Pin_add
  fd_l_added : FuncData
  F_l_added : FnP K "_law_added" s_l_added (He.fAd K ("_law_added", none)) fd_l_added
  g_l_added : mg "_law_added" = some (.ref (He.fAd K ("_law_added", none)))
  fd_l_names_due : FuncData
  F_l_names_due : FnP K "_law_names_due" s_l_names_due (He.fAd K ("_law_names_due", none)) fd_l_names_due
  g_l_names_due : mg "_law_names_due" = some (.ref (He.fAd K ("_law_names_due", none)))
  fd_Pin_init : FuncData
  F_Pin_init : FunD K "__init__" "Pin.__init__" (defArgs s_Pin_init) (defBody s_Pin_init) (defScope s_Pin_init) [] [] (He.fAd K ("Pin", some "__init__")) fd_Pin_init
  fd_House_pin : FuncData
  F_House_pin : FunD K "pin" "House.pin" (defArgs s_House_pin) (defBody s_House_pin) (defScope s_House_pin) [] [] (He.fAd K ("House", some "pin")) fd_House_pin
  fd_l_pinned : FuncData
  F_l_pinned : FnP K "_law_pinned" s_l_pinned (He.fAd K ("_law_pinned", none)) fd_l_pinned
  g_l_pinned : mg "_law_pinned" = some (.ref (He.fAd K ("_law_pinned", none)))
  fd_l_pin_deed : FuncData
  F_l_pin_deed : FnP K "_law_pin_deed" s_l_pin_deed (He.fAd K ("_law_pin_deed", none)) fd_l_pin_deed
  g_l_pin_deed : mg "_law_pin_deed" = some (.ref (He.fAd K ("_law_pin_deed", none)))
  fd_House_far : FuncData
  F_House_far : FunD K "far" "House.far" (defArgs s_House_far) (defBody s_House_far) (defScope s_House_far) [] [] (He.fAd K ("House", some "far")) fd_House_far
  fd_Pin_names : FuncData
  F_Pin_names : FunD K "names" "Pin.names" (defArgs s_Pin_names) (defBody s_Pin_names) (defScope s_Pin_names) [] [] (He.fAd K ("Pin", some "names")) fd_Pin_names
  fd_House_roots : FuncData
  F_House_roots : FunD K "roots" "House.roots" (defArgs s_House_roots) (defBody s_House_roots) (defScope s_House_roots) [] [] (He.fAd K ("House", some "roots")) fd_House_roots
  fd_Pin_len : FuncData
  F_Pin_len : FunD K "__len__" "Pin.__len__" (defArgs s_Pin_len) (defBody s_Pin_len) (defScope s_Pin_len) [] [] (He.fAd K ("Pin", some "__len__")) fd_Pin_len
  fd_l_roots55 : FuncData
  F_l_roots55 : FnP K "_law_roots" s_l_roots55 (He.fAd K ("_law_roots", none)) fd_l_roots55
  g_l_roots55 : mg "_law_roots" = some (.ref (He.fAd K ("_law_roots", none)))
  fd_l_pins_right : FuncData
  F_l_pins_right : FnP K "_law_pins_right" s_l_pins_right (He.fAd K ("_law_pins_right", none)) fd_l_pins_right
  g_l_pins_right : mg "_law_pins_right" = some (.ref (He.fAd K ("_law_pins_right", none)))
  fd_l_give : FuncData
  F_l_give : FnP K "_law_give" s_l_give (He.fAd K ("_law_give", none)) fd_l_give
  g_l_give : mg "_law_give" = some (.ref (He.fAd K ("_law_give", none)))
  fd_l_some : FuncData
  F_l_some : FnP K "_law_some" s_l_some (He.fAd K ("_law_some", none)) fd_l_some
  g_l_some : mg "_law_some" = some (.ref (He.fAd K ("_law_some", none)))
  fd_l_scene : FuncData
  F_l_scene : FnP K "_law_scene" s_l_scene (He.fAd K ("_law_scene", none)) fd_l_scene
  g_l_scene : mg "_law_scene" = some (.ref (He.fAd K ("_law_scene", none)))
  fd_law : FuncData
  F_law : FnP K "law" s_law (He.fAd K ("law", none)) fd_law
  z_ValueError : mg "ValueError" = none
  z_all : mg "all" = none
  z_bool : mg "bool" = none
  z_dict : mg "dict" = none
  z_int : mg "int" = none
  z_isinstance : mg "isinstance" = none
  z_len : mg "len" = none
  z_list : mg "list" = none
  z_max : mg "max" = none
  z_min : mg "min" = none
  z_ord : mg "ord" = none
  z_range : mg "range" = none
  z_set : mg "set" = none
  z_sorted : mg "sorted" = none
  z_str : mg "str" = none
  z_tuple : mg "tuple" = none
  z_zip : mg "zip" = none
  c_ALL : ∃ t, mg "ALL" = some (.int 400 t)
  c_BARRED_SIGN : ∃ t, mg "BARRED_SIGN" = some (.int 37 t)
  c_DEEPEST : ∃ t, mg "DEEPEST" = some (.int 8 t)
  c_LAST_STAMP : ∃ t, mg "LAST_STAMP" = some (.int 1000000000000000000 t)
  c_LONGEST_LABEL : ∃ t, mg "LONGEST_LABEL" = some (.int 8 t)
  c_MOST : ∃ t, mg "MOST" = some (.int 400 t)
  c_MOST_ENTRIES : ∃ t, mg "MOST_ENTRIES" = some (.int 20 t)
  c_MOST_PARENTS : ∃ t, mg "MOST_PARENTS" = some (.int 4 t)
  c_MOST_ROWS : ∃ t, mg "MOST_ROWS" = some (.int 40 t)
  c_MOST_SIGNS : ∃ t, mg "MOST_SIGNS" = some (.int 40 t)
  gc_Book : mg "Book" = some (.ref (He.ga K "Book"))
  gc_Store : mg "Store" = some (.ref (He.ga K "Store"))
  gc_House : mg "House" = some (.ref (He.ga K "House"))
  gc_Pin : mg "Pin" = some (.ref (He.ga K "Pin"))
  gc_HouseError : mg "HouseError" = some (.ref (He.ga K "HouseError"))
  gc_NoName : mg "NoName" = some (.ref (He.ga K "NoName"))
  gc_Lack : mg "Lack" = some (.ref (He.ga K "Lack"))
  gc_LetGo : mg "LetGo" = some (.ref (He.ga K "LetGo"))
  x_LetGo : PySem.W.excIn K (He.ga K "LetGo") He.veBase "ValueError.__new__" = true ∧ PySem.W.keepIn K (.ref (He.ga K "LetGo")) = true ∧ PySem.W.subIn K (.ref (He.ga K "LetGo")) (.type "BaseException") = some true ∧ PySem.W.typeIn K (.ref (He.ga K "LetGo")) = some (.type "type")
  cl_House : Cls K (He.ga K "House")
  na_House_book : NoAttr K (He.ga K "House") "book"
  na_House_inside : NoAttr K (He.ga K "House") "inside"
  na_House_many_changes : NoAttr K (He.ga K "House") "many_changes"
  na_House_standing : NoAttr K (He.ga K "House") "standing"
  na_House_last_moves : NoAttr K (He.ga K "House") "last_moves"
  na_House_far_standing : NoAttr K (He.ga K "House") "far_standing"
  na_House_pinned : NoAttr K (He.ga K "House") "pinned"
  me_House_marks : Meth K (He.ga K "House") "marks" (He.fAd K ("House", some "marks"))
  me_House_set_far : Meth K (He.ga K "House") "set_far" (He.fAd K ("House", some "set_far"))
  me_House_pin : Meth K (He.ga K "House") "pin" (He.fAd K ("House", some "pin"))
  me_House_far : Meth K (He.ga K "House") "far" (He.fAd K ("House", some "far"))
  me_House_roots : Meth K (He.ga K "House") "roots" (He.fAd K ("House", some "roots"))
  mk_House : Mk K (He.ga K "House") (He.fAd K ("House", some "__init__"))
  cl_Store : Cls K (He.ga K "Store")
  me_House_held : Meth K (He.ga K "Store") "held" (He.fAd K ("Store", some "held"))
  me_House_put : Meth K (He.ga K "Store") "put" (He.fAd K ("Store", some "put"))
  me_House_holds : Meth K (He.ga K "Store") "holds" (He.fAd K ("Store", some "holds"))
  mk_Store : Mk K (He.ga K "Store") (He.fAd K ("Store", some "__init__"))
  cl_Book : Cls K (He.ga K "Book")
  na_Book_contents : NoAttr K (He.ga K "Book") "contents"
  na_Book_depths : NoAttr K (He.ga K "Book") "depths"
  na_Book_given : NoAttr K (He.ga K "Book") "given"
  me_Book_is_name : Meth K (He.ga K "Book") "is_name" (He.fAd K ("Book", some "is_name"))
  me_Book_depth : Meth K (He.ga K "Book") "depth" (He.fAd K ("Book", some "depth"))
  me_Book_give_next : Meth K (He.ga K "Book") "give_next" (He.fAd K ("Book", some "give_next"))
  me_Book_has_kinds : Meth K (He.ga K "Book") "has_kinds" (He.fAd K ("Book", some "has_kinds"))
  me_Book_is_content : Meth K (He.ga K "Book") "is_content" (He.fAd K ("Book", some "is_content"))
  me_Book_named : Meth K (He.ga K "Book") "named" (He.fAd K ("Book", some "named"))
  me_Book_is_version : Meth K (He.ga K "Book") "is_version" (He.fAd K ("Book", some "is_version"))
  mk_Book : Mk K (He.ga K "Book") (He.fAd K ("Book", some "__init__"))
  cl_Pin : Cls K (He.ga K "Pin")
  na_Pin_home : NoAttr K (He.ga K "Pin") "home"
  na_Pin_inside : NoAttr K (He.ga K "Pin") "inside"
  na_Pin_is_let_go : NoAttr K (He.ga K "Pin") "is_let_go"
  me_Pin_let_go : Meth K (He.ga K "Pin") "let_go" (He.fAd K ("Pin", some "let_go"))
  me_Pin_add : Meth K (He.ga K "Pin") "add" (He.fAd K ("Pin", some "add"))
  me_Pin_names : Meth K (He.ga K "Pin") "names" (He.fAd K ("Pin", some "names"))
  me_Pin_len : Meth K (He.ga K "Pin") "__len__" (He.fAd K ("Pin", some "__len__"))
  mk_Pin : Mk K (He.ga K "Pin") (He.fAd K ("Pin", some "__init__"))
  more : Fw.K55M K
theorem Tx.k55 {K : PySem.W.Frag} {mg : Str → Option Value} (T : Tx K mg) : BkC K ∧ HsC K ∧ K55C K := ⟨⟨T.cl_Book, T.na_Book_contents, T.na_Book_depths, T.na_Book_given⟩, ⟨T.cl_House, T.na_House_book, T.na_House_inside, T.na_House_many_changes, T.na_House_standing, T.na_House_last_moves, T.na_House_far_standing, T.na_House_pinned⟩, ⟨⟨T.cl_Pin, T.na_Pin_home, T.na_Pin_inside, T.na_Pin_is_let_go⟩, ⟨T.more.nn, T.more.lk⟩, T.more.lg⟩⟩
theorem Tx.heir_HouseError {K : PySem.W.Frag} {mg : Str → Option Value} (T : Tx K mg) : HeirC K (He.ga K "HouseError") := T.more.heir
theorem Tx.cg_Store_init {K : PySem.W.Frag} {mg : Str → Option Value} (T : Tx K mg) : ClsG K (He.ga K "Store") (He.fAd K ("Store", some "__init__")) "__init__" := T.more.cg
theorem Tx.mi_House_put {K : PySem.W.Frag} {mg : Str → Option Value} (T : Tx K mg) : Meth K (He.ga K "House") "put" (He.fAd K ("Store", some "put")) := T.more.inh _ (by simp)
theorem Tx.mi_House_held {K : PySem.W.Frag} {mg : Str → Option Value} (T : Tx K mg) : Meth K (He.ga K "House") "held" (He.fAd K ("Store", some "held")) := T.more.inh _ (by simp)
theorem Tx.mi_House_holds {K : PySem.W.Frag} {mg : Str → Option Value} (T : Tx K mg) : Meth K (He.ga K "House") "holds" (He.fAd K ("Store", some "holds")) := T.more.inh _ (by simp)
theorem Tx.oex_NoName {K : PySem.W.Frag} {mg : Str → Option Value} (T : Tx K mg) : OexC K (He.ga K "NoName") := T.more.nn.oex
theorem Tx.ini_NoName {K : PySem.W.Frag} {mg : Str → Option Value} (T : Tx K mg) : PySem.W.findIn K (.ref (He.ga K "NoName")) "__init__" = some (some (.ref (He.fAd K ("NoName", some "__init__")))) := T.more.nn.ini
theorem Tx.tin_NoName {K : PySem.W.Frag} {mg : Str → Option Value} (T : Tx K mg) : PySem.W.typeIn K (.ref (He.fAd K ("NoName", some "__init__"))) = some (.type "function") := T.more.nn.tin
theorem Tx.oex_Lack {K : PySem.W.Frag} {mg : Str → Option Value} (T : Tx K mg) : OexC K (He.ga K "Lack") := T.more.lk.oex
theorem Tx.ini_Lack {K : PySem.W.Frag} {mg : Str → Option Value} (T : Tx K mg) : PySem.W.findIn K (.ref (He.ga K "Lack")) "__init__" = some (some (.ref (He.fAd K ("Lack", some "__init__")))) := T.more.lk.ini
theorem Tx.tin_Lack {K : PySem.W.Frag} {mg : Str → Option Value} (T : Tx K mg) : PySem.W.typeIn K (.ref (He.fAd K ("Lack", some "__init__"))) = some (.type "function") := T.more.lk.tin
section
variable {P : Program} [HasW] {K : PySem.W.Frag} {mg : Str → Option Value} {base : Heap}
theorem b_House_marks (T : Tx K mg) : Binds K T.fd_House_marks ["self"] [] := T.F_House_marks.bindsN fun _ _ _ _ _ _ us hl => match us, hl with | [_], _ => rfl
theorem ok_House_marks (T : Tx K mg) : FnOk P HasW.w K mg base CX0 1 (He.fAd K ("House", some "marks")) T.fd_House_marks ["self"] (sp_House_marks K) := by
  refine T.F_House_marks.ok sc_House_marks (fun vs H Q E h => len_House_marks h) (fun cdv A outer s H vs Q E hr h => ⟨t_House_marks K, PSs.nox ?_, pure_House_marks h⟩)
  exact (pss_one (ps_ret (pe_lc (own := [("mark", 1)]) (g := (gName 1)) (tt := tYes) (te := (tTup (tCons (tVar 1) (tCons (tDGet (tFld K (tVar 0) "standing") (tVar 1)) tNil)))) rfl sc_House_marks.nd (pi_list (pe_callB (call_sortedD (by rfl)) (by rfl) T.z_sorted (by decide +kernel) (pa_cons (pe_fld (pv 0) rfl) pa_nil))) (blkOk_by (own := [("mark", 1)]) (N := N_House_marks) (sc := defScope s_House_marks) (by decide +kernel)) (fun _ _ _ _ _ => (pg_name (i := 1) sc_House_marks.nd rfl (Or.inl rfl))) (fun _ _ _ _ _ => pts_nil) (fun _ _ _ _ _ => (pe_tup (pa_cons (pv 1) (pa_cons (pe_dget (hu_of hr) (pe_fld (pv 0) rfl) (pv 1) (fun _ _ => rfl)) pa_nil)))))))
theorem b_House_held (T : Tx K mg) : Binds K T.fd_House_held ["self"] [] := T.F_House_held.bindsN fun _ _ _ _ _ _ us hl => match us, hl with | [_], _ => rfl
theorem ok_House_held (T : Tx K mg) : FnOk P HasW.w K mg base CX0 1 (He.fAd K ("Store", some "held")) T.fd_House_held ["self"] (sp_House_held K) := by
  refine T.F_House_held.ok sc_House_held (fun vs H Q E h => len_House_held h) (fun cdv A outer s H vs Q E hr h => ⟨t_House_held K, PSs.nox ?_, pure_House_held h⟩)
  exact (pss_one (ps_ret (pe_callB (cr_sortedK rfl) (by rfl) T.z_sorted (by decide +kernel) (pa_cons (pe_fld (pv 0) rfl) pa_nil))))
theorem b_is_int (T : Tx K mg) : Binds K T.fd_is_int ["thing"] [] := T.F_is_int.bindsN fun _ _ _ _ _ _ us hl => match us, hl with | [_], _ => rfl
theorem ok_is_intI (T : Tx K mg) : FnOk P HasW.w K mg base CX0 1 (He.fAd K ("is_int", none)) T.fd_is_int ["thing"] (sp_is_intI K) := by
  refine T.F_is_int.ok sc_is_int (fun vs H Q E h => len_is_intI h) (fun cdv A outer s H vs Q E hr h => ⟨t_is_int K, PSs.nox ?_, pure_is_intI h⟩)
  exact (pss_one (ps_ret (pe_and (pe_callB call_isi (by rfl) T.z_isinstance (by decide +kernel) (pa_cons (pv 0) (pa_cons (pe_bltn (v := .ty "int") (by rfl) T.z_int (by decide +kernel) rfl) pa_nil))) (pe_one (pe_not (pe_callB call_isi (by rfl) T.z_isinstance (by decide +kernel) (pa_cons (pv 0) (pa_cons (pe_bltn (v := .ty "bool") (by rfl) T.z_bool (by decide +kernel) rfl) pa_nil))))))))
theorem b_Book_is_name (T : Tx K mg) : Binds K T.fd_Book_is_name ["self", "thing"] [] := T.F_Book_is_name.bindsN fun _ _ _ _ _ _ us hl => match us, hl with | [_, _], _ => rfl
theorem ok_Book_is_name (T : Tx K mg) : FnOk P HasW.w K mg base CX0 2 (He.fAd K ("Book", some "is_name")) T.fd_Book_is_name ["self", "thing"] (sp_Book_is_name K) := by
  refine T.F_Book_is_name.ok sc_Book_is_name (fun vs H Q E h => len_Book_is_name h) (fun cdv A outer s H vs Q E hr h => ⟨t_Book_is_name K, PSs.nox ?_, pure_Book_is_name h⟩)
  exact (pss_one (ps_ret (pe_and (pe_call (ok_is_intI T) (hr.mono (by decide)) (by rfl) T.g_is_int T.F_is_int.kp (b_is_int T) .nil pass0 (pa_cons (pv 1) pa_nil)) (pe_one (pe_chain op_le op_lt pe_int (pv 1) (pe_callB call_len (by rfl) T.z_len PySem.boot_len (pa_cons (pe_fld (pv 0) rfl) pa_nil)))))))
theorem b_House_put (T : Tx K mg) : Binds K T.fd_House_put ["self", "name"] [] := T.F_House_put.bindsN fun _ _ _ _ _ _ us hl => match us, hl with | [_, _], _ => rfl
theorem ok_House_put (T : Tx K mg) : FnOk P HasW.w K mg base CX0 3 (He.fAd K ("Store", some "put")) T.fd_House_put ["self", "name"] (sp_House_put K) := by
  refine T.F_House_put.ok sc_House_put (fun vs H Q E h => len_House_put h) (fun cdv A outer s H vs Q E hr h => ⟨t_House_put K, PSs.nox ?_, pure_House_put h⟩)
  exact (pss_cons (ps_if (pt_not (pt_val (pe_meth (pe_fld (pv 0) rfl) T.cl_Book T.me_Book_is_name (ok_Book_is_name T) (hr.mono (by decide)) (b_Book_is_name T) .nil pass0 (pa_cons (pv 1) pa_nil)))) (pss_one ps_never) pss_nil)
      (pss_cons (ps_if (pt_cmp (pc_din (hu_of hr) (pv 1) (pe_fld (pv 0) rfl))) (pss_one (ps_ret pe_bl)) pss_nil)
      (pss_cons (ps_dput (hu_of hr) (pe_fld (pv 0) rfl) (pv 1) pe_bl rfl)
      (pss_cons (ps_fldaug (pv 0) pe_int in_add)
      (pss_one (ps_ret pe_bl))))))
theorem b_Book_init (T : Tx K mg) : Binds K T.fd_Book_init ["self"] [] := T.F_Book_init.bindsN fun _ _ _ _ _ _ us hl => match us, hl with | [_], _ => rfl
theorem ok_Book_init (T : Tx K mg) : FnOk P HasW.w K mg base CX0 1 (He.fAd K ("Book", some "__init__")) T.fd_Book_init ["self"] (sp_Book_init K) := by
  refine T.F_Book_init.ok sc_Book_init (fun vs H Q E h => len_Book_init h) (fun cdv A outer s H vs Q E hr h => ⟨t_Book_init K, PSs.nox ?_, pure_Book_init h⟩)
  exact (pss_cons (ps_fld (pv 0) (pe_lst pa_nil) rfl)
      (pss_cons (ps_fld (pv 0) (pe_lst pa_nil) rfl)
      (pss_one (ps_fld (pv 0) (pe_nnew rfl) rfl))))
theorem b_Book_depth (T : Tx K mg) : Binds K T.fd_Book_depth ["self", "content"] [] := T.F_Book_depth.bindsN fun _ _ _ _ _ _ us hl => match us, hl with | [_, _], _ => rfl
theorem ok_Book_depth (T : Tx K mg) : FnOk P HasW.w K mg base CX0 1 (He.fAd K ("Book", some "depth")) T.fd_Book_depth ["self", "content"] (sp_Book_depth K) := by
  refine T.F_Book_depth.ok sc_Book_depth (fun vs H Q E h => len_Book_depth h) (fun cdv A outer s H vs Q E hr h => ⟨t_Book_depth K, PSs.nox ?_, pure_Book_depth h⟩)
  exact (pss_cons (ps_if (pt_cmpR op_ne (pe_ix ix_seq (pv 1) pe_int (fun _ _ => rfl)) pe_str (nomark _)) (pss_one (ps_ret pe_int)) pss_nil)
      (pss_one (ps_ret (pe_op op_add pe_int (pe_callBK (cr_maxD0 rfl hr.units) (by rfl) T.z_max (by decide +kernel) (pa_cons (pe_lc (own := [("label", 2), ("part", 3)]) (g := (gTup K 2 (gCons (gName 2) (gCons (gName 3) gNil)))) (tt := tYes) (te := (tOp (rIx K) (tFld K (tVar 0) "depths") (tVar 3))) rfl sc_Book_depth.nd (pi_tup (pe_ix ix_seq (pv 1) pe_int (fun _ _ => rfl))) (blkOk_by (own := [("label", 2), ("part", 3)]) (N := N_Book_depth) (sc := defScope s_Book_depth) (by decide +kernel)) (fun _ _ _ _ _ => (pg_tup rfl (pgs_cons (pg_name (i := 2) sc_Book_depth.nd rfl (Or.inl rfl)) (pgs_cons (pg_name (i := 3) sc_Book_depth.nd rfl (Or.inl rfl)) pgs_nil)))) (fun _ _ _ _ _ => pts_nil) (fun _ _ _ _ _ => (pe_ix ix_seq (pe_fld (pv 0) rfl) (pv 3) (fun _ _ => rfl)))) pa_nil) (pk_cons pe_int pk_nil))))))
theorem b_Book_give_next (T : Tx K mg) : Binds K T.fd_Book_give_next ["self", "content"] [] := T.F_Book_give_next.bindsN fun _ _ _ _ _ _ us hl => match us, hl with | [_, _], _ => rfl
theorem ok_Book_give_next (T : Tx K mg) : FnOk P HasW.w K mg base CX0 2 (He.fAd K ("Book", some "give_next")) T.fd_Book_give_next ["self", "content"] (sp_Book_give_next K) := by
  refine T.F_Book_give_next.ok sc_Book_give_next (fun vs H Q E h => len_Book_give_next h) (fun cdv A outer s H vs Q E hr h => ⟨t_Book_give_next K, PSs.nox ?_, pure_Book_give_next h⟩)
  exact (pss_cons (ps_if (pt_cmpR op_ge (pe_callB call_len (by rfl) T.z_len PySem.boot_len (pa_cons (pe_fld (pv 0) rfl) pa_nil)) (pe_glob (v := .int 400) (by rfl) T.c_MOST.choose_spec ⟨_, rfl⟩) (nomark _)) (pss_one ps_never) pss_nil)
      (pss_cons (ps_nput rfl hr.units (pe_fld (pv 0) rfl) (pv 1) (pe_callB call_len (by rfl) T.z_len PySem.boot_len (pa_cons (pe_fld (pv 0) rfl) pa_nil)) rfl)
      (pss_cons (ps_expr (pe_bm PySem.F.plainAttrs_list PySem.F.slot_list_append PySem.F.type_list_append mt_append (pe_fld (pv 0) rfl) (pa_cons (pe_meth (pv 0) T.cl_Book T.me_Book_depth (ok_Book_depth T) (hr.mono (by decide)) (b_Book_depth T) .nil pass0 (pa_cons (pv 1) pa_nil)) pa_nil)))
      (pss_one (ps_expr (pe_bm PySem.F.plainAttrs_list PySem.F.slot_list_append PySem.F.type_list_append mt_append (pe_fld (pv 0) rfl) (pa_cons (pv 1) pa_nil)))))))
theorem b_Book_has_kinds (T : Tx K mg) : Binds K T.fd_Book_has_kinds ["self", "names", "kinds"] [] := T.F_Book_has_kinds.bindsN fun _ _ _ _ _ _ us hl => match us, hl with | [_, _, _], _ => rfl
theorem ok_Book_has_kinds (T : Tx K mg) : FnOk P HasW.w K mg base CX0 3 (He.fAd K ("Book", some "has_kinds")) T.fd_Book_has_kinds ["self", "names", "kinds"] (sp_Book_has_kinds K) := by
  refine T.F_Book_has_kinds.ok sc_Book_has_kinds (fun vs H Q E h => len_Book_has_kinds h) (fun cdv A outer s H vs Q E hr h => ⟨t_Book_has_kinds K, PSs.nox ?_, pure_Book_has_kinds h⟩)
  exact (pss_one (ps_ret (pe_callB (cr_all rfl) (by rfl) T.z_all (by decide +kernel) (pa_cons (pe_lc (own := [("name", 3)]) (g := (gName 3)) (tt := tYes) (te := (tAndV (tMeth (He.ga K "Book") "is_name" (sp_Book_is_name K) [] E0 (tVar 0) (tCons (tVar 3) tNil)) (tOp (rIn K false) (tOp (rIx K) (tOp (rIx K) (tFld K (tVar 0) "contents") (tVar 3)) (tC (.int 0))) (tVar 2)))) rfl sc_Book_has_kinds.nd (pi_or (pi_list (pv 1)) (pi_tup (pv 1))) (blkOk_by (own := [("name", 3)]) (N := N_Book_has_kinds) (sc := defScope s_Book_has_kinds) (by decide +kernel)) (fun _ _ _ _ _ => (pg_name (i := 3) sc_Book_has_kinds.nd rfl (Or.inl rfl))) (fun _ _ _ _ _ => pts_nil) (fun _ _ _ _ _ => (pe_and (pe_meth (pv 0) T.cl_Book T.me_Book_is_name (ok_Book_is_name T) (hr.mono (by decide)) (b_Book_is_name T) .nil pass0 (pa_cons (pv 3) pa_nil)) (pe_one (pe_cmpR op_in_seq (pe_ix ix_seq (pe_ix ix_seq (pe_fld (pv 0) rfl) (pv 3) (fun _ _ => rfl)) pe_int (fun _ _ => rfl)) (pv 2) (by rfl)))))) pa_nil))))
theorem b_is_label (T : Tx K mg) : Binds K T.fd_is_label ["thing"] [] := T.F_is_label.bindsN fun _ _ _ _ _ _ us hl => match us, hl with | [_], _ => rfl
theorem ok_is_label (T : Tx K mg) : FnOk P HasW.w K mg base CX0 1 (He.fAd K ("is_label", none)) T.fd_is_label ["thing"] (sp_is_label K) := by
  refine T.F_is_label.ok sc_is_label (fun vs H Q E h => len_is_label h) (fun cdv A outer s H vs Q E hr h => ⟨t_is_label K, PSs.nox ?_, pure_is_label h⟩)
  exact (pss_cons (ps_if (PW.pt (pw_or (pt_not (pt_val (pe_callB call_isi (by rfl) T.z_isinstance (by decide +kernel) (pa_cons (pv 0) (pa_cons (pe_bltn (v := .ty "str") (by rfl) T.z_str (by decide +kernel) rfl) pa_nil))))) (pw_or1 (pt_not (pt_chain op_le op_le pe_int (pe_callB call_len (by rfl) T.z_len PySem.boot_len (pa_cons (pv 0) pa_nil)) (pe_glob (v := .int 8) (by rfl) T.c_LONGEST_LABEL.choose_spec ⟨_, rfl⟩)))))) (pss_one (ps_ret pe_bl)) pss_nil)
      (pss_one (ps_ret (pe_callB (cr_all rfl) (by rfl) T.z_all (by decide +kernel) (pa_cons (pe_lc (own := [("sign", 1)]) (g := (gName 1)) (tt := tYes) (te := (tChain rLeS rLeS (tC (.str "a")) (tVar 1) (tC (.str "z")))) rfl sc_is_label.nd (pi_str (pv 0)) (blkOk_by (own := [("sign", 1)]) (N := N_is_label) (sc := defScope s_is_label) (by decide +kernel)) (fun _ _ _ _ _ => (pg_name (i := 1) sc_is_label.nd rfl (Or.inl rfl))) (fun _ _ _ _ _ => pts_nil) (fun _ _ _ _ _ => (pe_chain op_le_str op_le_str pe_str (pv 1) pe_str))) pa_nil)))))
theorem b_is_pair (T : Tx K mg) : Binds K T.fd_is_pair ["thing"] [] := T.F_is_pair.bindsN fun _ _ _ _ _ _ us hl => match us, hl with | [_], _ => rfl
theorem ok_is_pairT (T : Tx K mg) : FnOk P HasW.w K mg base CX0 1 (He.fAd K ("is_pair", none)) T.fd_is_pair ["thing"] (sp_is_pairT K) := by
  refine T.F_is_pair.ok sc_is_pair (fun vs H Q E h => len_is_pairT h) (fun cdv A outer s H vs Q E hr h => ⟨t_is_pair K, PSs.nox ?_, pure_is_pairT h⟩)
  exact (pss_one (ps_ret (pe_and (pe_callB call_isi (by rfl) T.z_isinstance (by decide +kernel) (pa_cons (pv 0) (pa_cons (pe_bltn (v := .ty "tuple") (by rfl) T.z_tuple (by decide +kernel) rfl) pa_nil))) (pe_one (pe_cmpR op_eq (pe_callB call_len (by rfl) T.z_len PySem.boot_len (pa_cons (pv 0) pa_nil)) pe_int (nomark _))))))
theorem b_is_entry (T : Tx K mg) : Binds K T.fd_is_entry ["thing"] [] := T.F_is_entry.bindsN fun _ _ _ _ _ _ us hl => match us, hl with | [_], _ => rfl
theorem ok_is_entry (T : Tx K mg) : FnOk P HasW.w K mg base CX0 2 (He.fAd K ("is_entry", none)) T.fd_is_entry ["thing"] (sp_is_entry K) := by
  refine T.F_is_entry.ok sc_is_entry (fun vs H Q E h => len_is_entry h) (fun cdv A outer s H vs Q E hr h => ⟨t_is_entry K, PSs.nox ?_, pure_is_entry h⟩)
  exact (pss_one (ps_ret (pe_and (pe_call (ok_is_pairT T) (hr.mono (by decide)) (by rfl) T.g_is_pair T.F_is_pair.kp (b_is_pair T) .nil pass0 (pa_cons (pv 0) pa_nil)) (pe_and (pe_call (ok_is_label T) (hr.mono (by decide)) (by rfl) T.g_is_label T.F_is_label.kp (b_is_label T) .nil pass0 (pa_cons (pe_ix ix_seq (pv 0) pe_int (fun _ _ => rfl)) pa_nil)) (pe_one (pe_call (ok_is_intI T) (hr.mono (by decide)) (by rfl) T.g_is_int T.F_is_int.kp (b_is_int T) .nil pass0 (pa_cons (pe_ix ix_seq (pv 0) pe_int (fun _ _ => rfl)) pa_nil)))))))
theorem b_rises (T : Tx K mg) : Binds K T.fd_rises ["things"] [] := T.F_rises.bindsN fun _ _ _ _ _ _ us hl => match us, hl with | [_], _ => rfl
theorem ok_rises (T : Tx K mg) : FnOk P HasW.w K mg base CX0 1 (He.fAd K ("rises", none)) T.fd_rises ["things"] (sp_rises K) := by
  refine T.F_rises.ok sc_rises (fun vs H Q E h => len_rises h) (fun cdv A outer s H vs Q E hr h => ⟨t_rises K, PSs.nox ?_, pure_rises h⟩)
  exact (pss_one (ps_ret (pe_callB (cr_all rfl) (by rfl) T.z_all (by decide +kernel) (pa_cons (pe_lc (own := [("low", 1), ("high", 2)]) (g := (gTup K 2 (gCons (gName 1) (gCons (gName 2) gNil)))) (tt := tYes) (te := (tOp fLtIS (tVar 1) (tVar 2))) rfl sc_rises.nd (pi_zipA (by rfl) T.z_zip (pa_cons (pv 0) (pa_cons (pe_slice (SlR.or sl_tupA sl_list) (pv 0) (po_some pe_int) po_none) pa_nil))) (blkOk_by (own := [("low", 1), ("high", 2)]) (N := N_rises) (sc := defScope s_rises) (by decide +kernel)) (fun _ _ _ _ _ => (pg_tup rfl (pgs_cons (pg_name (i := 1) sc_rises.nd rfl (Or.inl rfl)) (pgs_cons (pg_name (i := 2) sc_rises.nd rfl (Or.inl rfl)) pgs_nil)))) (fun _ _ _ _ _ => pts_nil) (fun _ _ _ _ _ => (pe_cmpR (OpR.or op_lt op_lt_str) (pv 1) (pv 2) (nomark _)))) pa_nil))))
theorem b_is_entries (T : Tx K mg) : Binds K T.fd_is_entries ["thing"] [] := T.F_is_entries.bindsN fun _ _ _ _ _ _ us hl => match us, hl with | [_], _ => rfl
theorem ok_is_entries (T : Tx K mg) : FnOk P HasW.w K mg base CX0 3 (He.fAd K ("is_entries", none)) T.fd_is_entries ["thing"] (sp_is_entries K) := by
  refine T.F_is_entries.ok sc_is_entries (fun vs H Q E h => len_is_entries h) (fun cdv A outer s H vs Q E hr h => ⟨t_is_entries K, PSs.nox ?_, pure_is_entries h⟩)
  exact (pss_cons (ps_if (PW.pt (pw_or (pt_not (pt_val (pe_callB call_isi (by rfl) T.z_isinstance (by decide +kernel) (pa_cons (pv 0) (pa_cons (pe_bltn (v := .ty "tuple") (by rfl) T.z_tuple (by decide +kernel) rfl) pa_nil))))) (pw_or1 (pt_cmpR op_gt (pe_callB call_len (by rfl) T.z_len PySem.boot_len (pa_cons (pv 0) pa_nil)) (pe_glob (v := .int 20) (by rfl) T.c_MOST_ENTRIES.choose_spec ⟨_, rfl⟩) (nomark _))))) (pss_one (ps_ret pe_bl)) pss_nil)
      (pss_one (ps_ret (pe_and (pe_callB (cr_all rfl) (by rfl) T.z_all (by decide +kernel) (pa_cons (pe_lc (own := [("entry", 1)]) (g := (gName 1)) (tt := tYes) (te := (tCall (sp_is_entry K) [] E0 (tCons (tVar 1) tNil))) rfl sc_is_entries.nd (pi_tup (pv 0)) (blkOk_by (own := [("entry", 1)]) (N := N_is_entries) (sc := defScope s_is_entries) (by decide +kernel)) (fun _ _ _ _ _ => (pg_name (i := 1) sc_is_entries.nd rfl (Or.inl rfl))) (fun _ _ _ _ _ => pts_nil) (fun _ _ _ _ _ => (pe_call (ok_is_entry T) (hr.mono (by decide)) (by rfl) T.g_is_entry T.F_is_entry.kp (b_is_entry T) .nil pass0 (pa_cons (pv 1) pa_nil)))) pa_nil)) (pe_one (pe_call (ok_rises T) (hr.mono (by decide)) (by rfl) T.g_rises T.F_rises.kp (b_rises T) .nil pass0 (pa_cons (pe_lc (own := [("entry", 1)]) (g := (gName 1)) (tt := tYes) (te := (tOp (rIx K) (tVar 1) (tC (.int 0)))) rfl sc_is_entries.nd (pi_tup (pv 0)) (blkOk_by (own := [("entry", 1)]) (N := N_is_entries) (sc := defScope s_is_entries) (by decide +kernel)) (fun _ _ _ _ _ => (pg_name (i := 1) sc_is_entries.nd rfl (Or.inl rfl))) (fun _ _ _ _ _ => pts_nil) (fun _ _ _ _ _ => (pe_ix ix_seq (pv 1) pe_int (fun _ _ => rfl)))) pa_nil)))))))
theorem b_is_sign (T : Tx K mg) : Binds K T.fd_is_sign ["sign"] [] := T.F_is_sign.bindsN fun _ _ _ _ _ _ us hl => match us, hl with | [_], _ => rfl
theorem ok_is_sign (T : Tx K mg) : FnOk P HasW.w K mg base CX0 1 (He.fAd K ("is_sign", none)) T.fd_is_sign ["sign"] (sp_is_sign K) := by
  refine T.F_is_sign.ok sc_is_sign (fun vs H Q E h => len_is_sign h) (fun cdv A outer s H vs Q E hr h => ⟨t_is_sign K, PSs.nox ?_, pure_is_sign h⟩)
  exact (pss_one (ps_ret (pe_and (pe_chain op_le_str op_le_str pe_str (pv 0) pe_str) (pe_one (pe_cmpR op_ne (pe_callB call_ord (by rfl) T.z_ord (by decide +kernel) (pa_cons (pv 0) pa_nil)) (pe_glob (v := .int 37) (by rfl) T.c_BARRED_SIGN.choose_spec ⟨_, rfl⟩) (nomark _))))))
theorem b_is_text (T : Tx K mg) : Binds K T.fd_is_text ["thing"] [] := T.F_is_text.bindsN fun _ _ _ _ _ _ us hl => match us, hl with | [_], _ => rfl
theorem ok_is_text (T : Tx K mg) : FnOk P HasW.w K mg base CX0 2 (He.fAd K ("is_text", none)) T.fd_is_text ["thing"] (sp_is_text K) := by
  refine T.F_is_text.ok sc_is_text (fun vs H Q E h => len_is_text h) (fun cdv A outer s H vs Q E hr h => ⟨t_is_text K, PSs.nox ?_, pure_is_text h⟩)
  exact (pss_one (ps_ret (pe_and (pe_callB call_isi (by rfl) T.z_isinstance (by decide +kernel) (pa_cons (pv 0) (pa_cons (pe_bltn (v := .ty "str") (by rfl) T.z_str (by decide +kernel) rfl) pa_nil))) (pe_one (pe_callB (cr_all rfl) (by rfl) T.z_all (by decide +kernel) (pa_cons (pe_lc (own := [("sign", 1)]) (g := (gName 1)) (tt := tYes) (te := (tCall (sp_is_sign K) [] E0 (tCons (tVar 1) tNil))) rfl sc_is_text.nd (pi_str (pv 0)) (blkOk_by (own := [("sign", 1)]) (N := N_is_text) (sc := defScope s_is_text) (by decide +kernel)) (fun _ _ _ _ _ => (pg_name (i := 1) sc_is_text.nd rfl (Or.inl rfl))) (fun _ _ _ _ _ => pts_nil) (fun _ _ _ _ _ => (pe_call (ok_is_sign T) (hr.mono (by decide)) (by rfl) T.g_is_sign T.F_is_sign.kp (b_is_sign T) .nil pass0 (pa_cons (pv 1) pa_nil)))) pa_nil))))))
theorem b_is_row (T : Tx K mg) : Binds K T.fd_is_row ["thing"] [] := T.F_is_row.bindsN fun _ _ _ _ _ _ us hl => match us, hl with | [_], _ => rfl
theorem ok_is_row (T : Tx K mg) : FnOk P HasW.w K mg base CX0 3 (He.fAd K ("is_row", none)) T.fd_is_row ["thing"] (sp_is_row K) := by
  refine T.F_is_row.ok sc_is_row (fun vs H Q E h => len_is_row h) (fun cdv A outer s H vs Q E hr h => ⟨t_is_row K, PSs.nox ?_, pure_is_row h⟩)
  exact (pss_one (ps_ret (pe_and (pe_call (ok_is_text T) (hr.mono (by decide)) (by rfl) T.g_is_text T.F_is_text.kp (b_is_text T) .nil pass0 (pa_cons (pv 0) pa_nil)) (pe_one (pe_cmpR op_le (pe_callB call_len (by rfl) T.z_len PySem.boot_len (pa_cons (pv 0) pa_nil)) (pe_glob (v := .int 40) (by rfl) T.c_MOST_SIGNS.choose_spec ⟨_, rfl⟩) (nomark _))))))
theorem b_is_rows (T : Tx K mg) : Binds K T.fd_is_rows ["thing"] [] := T.F_is_rows.bindsN fun _ _ _ _ _ _ us hl => match us, hl with | [_], _ => rfl
theorem ok_is_rows (T : Tx K mg) : FnOk P HasW.w K mg base CX0 4 (He.fAd K ("is_rows", none)) T.fd_is_rows ["thing"] (sp_is_rows K) := by
  refine T.F_is_rows.ok sc_is_rows (fun vs H Q E h => len_is_rows h) (fun cdv A outer s H vs Q E hr h => ⟨t_is_rows K, PSs.nox ?_, pure_is_rows h⟩)
  exact (pss_one (ps_ret (pe_and (pe_callB call_isi (by rfl) T.z_isinstance (by decide +kernel) (pa_cons (pv 0) (pa_cons (pe_bltn (v := .ty "tuple") (by rfl) T.z_tuple (by decide +kernel) rfl) pa_nil))) (pe_and (pe_cmpR op_le (pe_callB call_len (by rfl) T.z_len PySem.boot_len (pa_cons (pv 0) pa_nil)) (pe_glob (v := .int 40) (by rfl) T.c_MOST_ROWS.choose_spec ⟨_, rfl⟩) (nomark _)) (pe_one (pe_callB (cr_all rfl) (by rfl) T.z_all (by decide +kernel) (pa_cons (pe_lc (own := [("row", 1)]) (g := (gName 1)) (tt := tYes) (te := (tCall (sp_is_row K) [] E0 (tCons (tVar 1) tNil))) rfl sc_is_rows.nd (pi_tup (pv 0)) (blkOk_by (own := [("row", 1)]) (N := N_is_rows) (sc := defScope s_is_rows) (by decide +kernel)) (fun _ _ _ _ _ => (pg_name (i := 1) sc_is_rows.nd rfl (Or.inl rfl))) (fun _ _ _ _ _ => pts_nil) (fun _ _ _ _ _ => (pe_call (ok_is_row T) (hr.mono (by decide)) (by rfl) T.g_is_row T.F_is_row.kp (b_is_row T) .nil pass0 (pa_cons (pv 1) pa_nil)))) pa_nil)))))))
theorem b_is_ints (T : Tx K mg) : Binds K T.fd_is_ints ["thing"] [] := T.F_is_ints.bindsN fun _ _ _ _ _ _ us hl => match us, hl with | [_], _ => rfl
theorem ok_is_ints (T : Tx K mg) : FnOk P HasW.w K mg base CX0 2 (He.fAd K ("is_ints", none)) T.fd_is_ints ["thing"] (sp_is_ints K) := by
  refine T.F_is_ints.ok sc_is_ints (fun vs H Q E h => len_is_ints h) (fun cdv A outer s H vs Q E hr h => ⟨t_is_ints K, PSs.nox ?_, pure_is_ints h⟩)
  exact (pss_one (ps_ret (pe_and (pe_callB call_isi (by rfl) T.z_isinstance (by decide +kernel) (pa_cons (pv 0) (pa_cons (pe_bltn (v := .ty "tuple") (by rfl) T.z_tuple (by decide +kernel) rfl) pa_nil))) (pe_one (pe_callB (cr_all rfl) (by rfl) T.z_all (by decide +kernel) (pa_cons (pe_lc (own := [("part", 1)]) (g := (gName 1)) (tt := tYes) (te := (tCall (sp_is_intI K) [] E0 (tCons (tVar 1) tNil))) rfl sc_is_ints.nd (pi_tup (pv 0)) (blkOk_by (own := [("part", 1)]) (N := N_is_ints) (sc := defScope s_is_ints) (by decide +kernel)) (fun _ _ _ _ _ => (pg_name (i := 1) sc_is_ints.nd rfl (Or.inl rfl))) (fun _ _ _ _ _ => pts_nil) (fun _ _ _ _ _ => (pe_call (ok_is_intI T) (hr.mono (by decide)) (by rfl) T.g_is_int T.F_is_int.kp (b_is_int T) .nil pass0 (pa_cons (pv 1) pa_nil)))) pa_nil))))))
theorem b_is_rising (T : Tx K mg) : Binds K T.fd_is_rising ["thing"] [] := T.F_is_rising.bindsN fun _ _ _ _ _ _ us hl => match us, hl with | [_], _ => rfl
theorem ok_is_rising (T : Tx K mg) : FnOk P HasW.w K mg base CX0 3 (He.fAd K ("is_rising", none)) T.fd_is_rising ["thing"] (sp_is_rising K) := by
  refine T.F_is_rising.ok sc_is_rising (fun vs H Q E h => len_is_rising h) (fun cdv A outer s H vs Q E hr h => ⟨t_is_rising K, PSs.nox ?_, pure_is_rising h⟩)
  exact (pss_one (ps_ret (pe_and (pe_call (ok_is_ints T) (hr.mono (by decide)) (by rfl) T.g_is_ints T.F_is_ints.kp (b_is_ints T) .nil pass0 (pa_cons (pv 0) pa_nil)) (pe_one (pe_call (ok_rises T) (hr.mono (by decide)) (by rfl) T.g_rises T.F_rises.kp (b_rises T) .nil pass0 (pa_cons (pv 0) pa_nil))))))
theorem b_is_stamp (T : Tx K mg) : Binds K T.fd_is_stamp ["thing"] [] := T.F_is_stamp.bindsN fun _ _ _ _ _ _ us hl => match us, hl with | [_], _ => rfl
theorem ok_is_stamp (T : Tx K mg) : FnOk P HasW.w K mg base CX0 2 (He.fAd K ("is_stamp", none)) T.fd_is_stamp ["thing"] (sp_is_stamp K) := by
  refine T.F_is_stamp.ok sc_is_stamp (fun vs H Q E h => len_is_stamp h) (fun cdv A outer s H vs Q E hr h => ⟨t_is_stamp K, PSs.nox ?_, pure_is_stamp h⟩)
  exact (pss_one (ps_ret (pe_and (pe_call (ok_is_intI T) (hr.mono (by decide)) (by rfl) T.g_is_int T.F_is_int.kp (b_is_int T) .nil pass0 (pa_cons (pv 0) pa_nil)) (pe_one (pe_chain op_le op_le pe_int (pv 0) (pe_glob (v := .int 1000000000000000000) (by rfl) T.c_LAST_STAMP.choose_spec ⟨_, rfl⟩))))))
theorem b_is_version_form (T : Tx K mg) : Binds K T.fd_is_version_form ["thing"] [] := T.F_is_version_form.bindsN fun _ _ _ _ _ _ us hl => match us, hl with | [_], _ => rfl
theorem ok_is_version_form (T : Tx K mg) : FnOk P HasW.w K mg base CX0 4 (He.fAd K ("is_version_form", none)) T.fd_is_version_form ["thing"] (sp_is_version_form K) := by
  refine T.F_is_version_form.ok sc_is_version_form (fun vs H Q E h => len_is_version_form h) (fun cdv A outer s H vs Q E hr h => ⟨t_is_version_form K, PSs.nox ?_, pure_is_version_form h⟩)
  exact (pss_cons (ps_if (PW.pt (pw_or (pt_cmpR op_ne (pe_callB call_len (by rfl) T.z_len PySem.boot_len (pa_cons (pv 0) pa_nil)) pe_int (nomark _)) (pw_or1 (pt_not (pt_val (pe_call (ok_is_rising T) (hr.mono (by decide)) (by rfl) T.g_is_rising T.F_is_rising.kp (b_is_rising T) .nil pass0 (pa_cons (pe_ix ix_seq (pv 0) pe_int (fun _ _ => rfl)) pa_nil))))))) (pss_one (ps_ret pe_bl)) pss_nil)
      (pss_one (ps_ret (pe_and (pe_cmpR op_le (pe_callB call_len (by rfl) T.z_len PySem.boot_len (pa_cons (pe_ix ix_seq (pv 0) pe_int (fun _ _ => rfl)) pa_nil)) (pe_glob (v := .int 4) (by rfl) T.c_MOST_PARENTS.choose_spec ⟨_, rfl⟩) (nomark _)) (pe_and (pe_call (ok_is_intI T) (hr.mono (by decide)) (by rfl) T.g_is_int T.F_is_int.kp (b_is_int T) .nil pass0 (pa_cons (pe_ix ix_seq (pv 0) pe_int (fun _ _ => rfl)) pa_nil)) (pe_one (pe_call (ok_is_stamp T) (hr.mono (by decide)) (by rfl) T.g_is_stamp T.F_is_stamp.kp (b_is_stamp T) .nil pass0 (pa_cons (pe_ix ix_seq (pv 0) pe_int (fun _ _ => rfl)) pa_nil))))))))
theorem b_is_content_form (T : Tx K mg) : Binds K T.fd_is_content_form ["thing"] [] := T.F_is_content_form.bindsN fun _ _ _ _ _ _ us hl => match us, hl with | [_], _ => rfl
theorem ok_is_content_form (T : Tx K mg) : FnOk P HasW.w K mg base CX0 5 (He.fAd K ("is_content_form", none)) T.fd_is_content_form ["thing"] (sp_is_content_form K) := by
  refine T.F_is_content_form.ok sc_is_content_form (fun vs H Q E h => len_is_content_form h) (fun cdv A outer s H vs Q E hr h => ⟨t_is_content_form K, PSs.nox ?_, pure_is_content_form h⟩)
  exact (pss_cons (ps_if (PW.pt (pw_or (pt_not (pt_val (pe_callB call_isi (by rfl) T.z_isinstance (by decide +kernel) (pa_cons (pv 0) (pa_cons (pe_bltn (v := .ty "tuple") (by rfl) T.z_tuple (by decide +kernel) rfl) pa_nil))))) (pw_or1 (pt_cmpR op_eq (pe_callB call_len (by rfl) T.z_len PySem.boot_len (pa_cons (pv 0) pa_nil)) pe_int (nomark _))))) (pss_one (ps_ret pe_bl)) pss_nil)
      (pss_cons (ps_if (pt_cmpR op_eq (pe_ix ix_seq (pv 0) pe_int (fun _ _ => rfl)) pe_str (nomark _)) (pss_one (ps_ret (pe_and (pe_cmpR op_eq (pe_callB call_len (by rfl) T.z_len PySem.boot_len (pa_cons (pv 0) pa_nil)) pe_int (nomark _)) (pe_one (pe_call (ok_is_rows T) (hr.mono (by decide)) (by rfl) T.g_is_rows T.F_is_rows.kp (b_is_rows T) .nil pass0 (pa_cons (pe_ix ix_seq (pv 0) pe_int (fun _ _ => rfl)) pa_nil)))))) pss_nil)
      (pss_cons (ps_if (pt_cmpR op_eq (pe_ix ix_seq (pv 0) pe_int (fun _ _ => rfl)) pe_str (nomark _)) (pss_one (ps_ret (pe_and (pe_cmpR op_eq (pe_callB call_len (by rfl) T.z_len PySem.boot_len (pa_cons (pv 0) pa_nil)) pe_int (nomark _)) (pe_one (pe_call (ok_is_entries T) (hr.mono (by decide)) (by rfl) T.g_is_entries T.F_is_entries.kp (b_is_entries T) .nil pass0 (pa_cons (pe_ix ix_seq (pv 0) pe_int (fun _ _ => rfl)) pa_nil)))))) pss_nil)
      (pss_one (ps_ret (pe_and (pe_cmpR op_eq (pe_ix ix_seq (pv 0) pe_int (fun _ _ => rfl)) pe_str (nomark _)) (pe_one (pe_call (ok_is_version_form T) (hr.mono (by decide)) (by rfl) T.g_is_version_form T.F_is_version_form.kp (b_is_version_form T) .nil pass0 (pa_cons (pv 0) pa_nil)))))))))
theorem b_Book_is_content (T : Tx K mg) : Binds K T.fd_Book_is_content ["self", "thing"] [] := T.F_Book_is_content.bindsN fun _ _ _ _ _ _ us hl => match us, hl with | [_, _], _ => rfl
theorem ok_Book_is_content (T : Tx K mg) : FnOk P HasW.w K mg base CX0 6 (He.fAd K ("Book", some "is_content")) T.fd_Book_is_content ["self", "thing"] (sp_Book_is_content K) := by
  refine T.F_Book_is_content.ok sc_Book_is_content (fun vs H Q E h => len_Book_is_content h) (fun cdv A outer s H vs Q E hr h => ⟨t_Book_is_content K, PSs.nox ?_, pure_Book_is_content h⟩)
  exact (pss_cons (ps_if (pt_not (pt_val (pe_call (ok_is_content_form T) (hr.mono (by decide)) (by rfl) T.g_is_content_form T.F_is_content_form.kp (b_is_content_form T) .nil pass0 (pa_cons (pv 1) pa_nil)))) (pss_one (ps_ret pe_bl)) pss_nil)
      (pss_cons (ps_if (pt_cmpR op_eq (pe_ix ix_seq (pv 1) pe_int (fun _ _ => rfl)) pe_str (nomark _)) (pss_one (ps_ret (pe_and (pe_meth (pv 0) T.cl_Book T.me_Book_has_kinds (ok_Book_has_kinds T) (hr.mono (by decide)) (b_Book_has_kinds T) .nil pass0 (pa_cons (pe_lc (own := [("label", 2), ("part", 3)]) (g := (gTup K 2 (gCons (gName 2) (gCons (gName 3) gNil)))) (tt := tYes) (te := (tVar 3)) rfl sc_Book_is_content.nd (pi_tup (pe_ix ix_seq (pv 1) pe_int (fun _ _ => rfl))) (blkOk_by (own := [("label", 2), ("part", 3)]) (N := N_Book_is_content) (sc := defScope s_Book_is_content) (by decide +kernel)) (fun _ _ _ _ _ => (pg_tup rfl (pgs_cons (pg_name (i := 2) sc_Book_is_content.nd rfl (Or.inl rfl)) (pgs_cons (pg_name (i := 3) sc_Book_is_content.nd rfl (Or.inl rfl)) pgs_nil)))) (fun _ _ _ _ _ => pts_nil) (fun _ _ _ _ _ => (pv 3))) (pa_cons (pe_tup (pa_cons pe_str (pa_cons pe_str pa_nil))) pa_nil))) (pe_one (pe_cmpR op_le (pe_meth (pv 0) T.cl_Book T.me_Book_depth (ok_Book_depth T) (hr.mono (by decide)) (b_Book_depth T) .nil pass0 (pa_cons (pv 1) pa_nil)) (pe_glob (v := .int 8) (by rfl) T.c_DEEPEST.choose_spec ⟨_, rfl⟩) (nomark _)))))) pss_nil)
      (pss_cons (ps_if (pt_cmpR op_eq (pe_ix ix_seq (pv 1) pe_int (fun _ _ => rfl)) pe_str (nomark _)) (pss_one (ps_ret (pe_and (pe_meth (pv 0) T.cl_Book T.me_Book_has_kinds (ok_Book_has_kinds T) (hr.mono (by decide)) (b_Book_has_kinds T) .nil pass0 (pa_cons (pe_ix ix_seq (pv 1) pe_int (fun _ _ => rfl)) (pa_cons (pe_tup (pa_cons pe_str pa_nil)) pa_nil))) (pe_one (pe_meth (pv 0) T.cl_Book T.me_Book_has_kinds (ok_Book_has_kinds T) (hr.mono (by decide)) (b_Book_has_kinds T) .nil pass0 (pa_cons (pe_lst (pa_cons (pe_ix ix_seq (pv 1) pe_int (fun _ _ => rfl)) pa_nil)) (pa_cons (pe_tup (pa_cons pe_str pa_nil)) pa_nil))))))) pss_nil)
      (pss_one (ps_ret pe_bl)))))
theorem b_Book_named (T : Tx K mg) : Binds K T.fd_Book_named ["self", "content"] [] := T.F_Book_named.bindsN fun _ _ _ _ _ _ us hl => match us, hl with | [_, _], _ => rfl
theorem ok_Book_named (T : Tx K mg) : FnOk P HasW.w K mg base CX0 7 (He.fAd K ("Book", some "named")) T.fd_Book_named ["self", "content"] (sp_Book_named K) := by
  refine T.F_Book_named.ok sc_Book_named (fun vs H Q E h => len_Book_named h) (fun cdv A outer s H vs Q E hr h => ⟨t_Book_named K, PSs.nox ?_, pure_Book_named h⟩)
  exact (pss_cons (ps_if (pt_not (pt_val (pe_meth (pv 0) T.cl_Book T.me_Book_is_content (ok_Book_is_content T) (hr.mono (by decide)) (b_Book_is_content T) .nil pass0 (pa_cons (pv 1) pa_nil)))) (pss_one ps_never) pss_nil)
      (pss_cons (ps_if (pt_cmp (pc_nnotin rfl hr.units (pv 1) (pe_fld (pv 0) rfl))) (pss_one (ps_expr (pe_meth (pv 0) T.cl_Book T.me_Book_give_next (ok_Book_give_next T) (hr.mono (by decide)) (b_Book_give_next T) .nil pass0 (pa_cons (pv 1) pa_nil)))) pss_nil)
      (pss_one (ps_ret (pe_nget rfl hr.units (pe_fld (pv 0) rfl) (pv 1) (fun _ _ => rfl))))))
theorem b_l_book (T : Tx K mg) : Binds K T.fd_l_book ["_law_things"] [] := T.F_l_book.bindsN fun _ _ _ _ _ _ us hl => match us, hl with | [_], _ => rfl
theorem ok_l_book (T : Tx K mg) : FnOk P HasW.w K mg base CX0 8 (He.fAd K ("_law_book", none)) T.fd_l_book ["_law_things"] (sp_l_book K) := by
  refine T.F_l_book.ok sc_l_book (fun vs H Q E h => len_l_book h) (fun cdv A outer s H vs Q E hr h => ⟨t_l_book K, PSs.nox ?_, pure_l_book h⟩)
  exact (pss_cons (ps_set (i := 1) sc_l_book.nd rfl (Or.inl rfl) (pe_make0 T.mk_Book (ok_Book_init T) (hr.mono (by decide)) (by rfl) T.gc_Book (b_Book_init T) .nil pass0))
      (pss_cons (ps_for PassesOwn.never rfl (pi_list (pv 0)) (pg_name (i := 2) sc_l_book.nd rfl (Or.inl rfl)) (pss_one (ps_expr (pe_meth (pv 1) T.cl_Book T.me_Book_named (ok_Book_named T) (hr.mono (by decide)) (b_Book_named T) .nil pass0 (pa_cons (pv 2) pa_nil)))))
      (pss_one (ps_ret (pv 1)))))
theorem b_l_deck (T : Tx K mg) : Binds K T.fd_l_deck ["_law_script"] [] := T.F_l_deck.bindsN fun _ _ _ _ _ _ us hl => match us, hl with | [_], _ => rfl
theorem ok_l_deck (T : Tx K mg) : FnOk P HasW.w K mg base CX0 1 (He.fAd K ("_law_deck", none)) T.fd_l_deck ["_law_script"] (sp_l_deck K) := by
  refine T.F_l_deck.ok sc_l_deck (fun vs H Q E h => len_l_deck h) (fun cdv A outer s H vs Q E hr h => ⟨t_l_deck K, PSs.nox ?_, pure_l_deck h⟩)
  exact (pss_one (ps_ret (pe_lst (pa_cons (pe_callTy call_list_of (by rfl) T.z_list (by decide +kernel) (pa_cons (pv 0) pa_nil)) (pa_cons pe_int (pa_cons pe_int (pa_cons pe_int pa_nil)))))))
theorem b_l_mixed (T : Tx K mg) : Binds K T.fd_l_mixed ["_law_cell", "_law_turn"] [] := T.F_l_mixed.bindsN fun _ _ _ _ _ _ us hl => match us, hl with | [_, _], _ => rfl
theorem ok_l_mixed (T : Tx K mg) : FnOk P HasW.w K mg base CX0 1 (He.fAd K ("_law_mixed", none)) T.fd_l_mixed ["_law_cell", "_law_turn"] (sp_l_mixed K) := by
  refine T.F_l_mixed.ok sc_l_mixed (fun vs H Q E h => len_l_mixed h) (fun cdv A outer s H vs Q E hr h => ⟨t_l_mixed K, PSs.nox ?_, pure_l_mixed h⟩)
  exact (pss_one (ps_ret (pe_op op_mod (pe_op op_pow (pe_op op_add (pe_op op_add (pe_op op_mod (pv 0) pe_int) (pe_op op_mul (pv 1) pe_int)) pe_int) pe_int) pe_int)))
theorem b_l_draw (T : Tx K mg) : Binds K T.fd_l_draw ["_law_deck_here", "_law_many"] [] := T.F_l_draw.bindsN fun _ _ _ _ _ _ us hl => match us, hl with | [_, _], _ => rfl
theorem ok_l_draw (T : Tx K mg) : FnOk P HasW.w K mg base CX0 2 (He.fAd K ("_law_draw", none)) T.fd_l_draw ["_law_deck_here", "_law_many"] (sp_l_draw K) := by
  refine T.F_l_draw.ok sc_l_draw (fun vs H Q E h => len_l_draw h) (fun cdv A outer s H vs Q E hr h => ⟨t_l_draw K, PSs.nox ?_, pure_l_draw h⟩)
  exact (pss_cons (ps_set (i := 2) sc_l_draw.nd rfl (Or.inl rfl) (pe_ix ix_seq (pv 0) pe_int (fun _ _ => rfl)))
      (pss_cons (ps_asg (pe_op op_add (pe_ix ix_seq (pv 0) pe_int (fun _ _ => rfl)) pe_int) (pg_sub (pv 0) pe_int set_list))
      (pss_cons (ps_if (PW.pt (pw_and (pt_cmpR op_eq (pe_ix ix_seq (pv 0) pe_int (fun _ _ => rfl)) pe_int (nomark _)) (pw_and1 (pt_cmpR op_lt (pe_ix ix_seq (pv 0) pe_int (fun _ _ => rfl)) (pe_callB call_len (by rfl) T.z_len PySem.boot_len (pa_cons (pv 2) pa_nil)) (nomark _))))) (pss_cons (ps_asg (pe_op op_add (pe_ix ix_seq (pv 0) pe_int (fun _ _ => rfl)) pe_int) (pg_sub (pv 0) pe_int set_list))
      (pss_cons (ps_if (pt_cmpR op_lt (pe_ix ix_seq (pv 2) (pe_op op_sub (pe_ix ix_seq (pv 0) pe_int (fun _ _ => rfl)) pe_int) (fun _ _ => rfl)) (pe_op op_pow pe_int pe_int) (nomark _)) (pss_one (ps_ret (pe_op op_mod (pe_call (ok_l_mixed T) (hr.mono (by decide)) (by rfl) T.g_l_mixed T.F_l_mixed.kp (b_l_mixed T) .nil pass0 (pa_cons (pe_ix ix_seq (pv 2) (pe_op op_sub (pe_ix ix_seq (pv 0) pe_int (fun _ _ => rfl)) pe_int) (fun _ _ => rfl)) (pa_cons (pe_ix ix_seq (pv 0) pe_int (fun _ _ => rfl)) pa_nil))) (pv 1)))) pss_nil)
      (pss_one (ps_asg (pe_ix ix_seq (pv 2) (pe_op op_sub (pe_ix ix_seq (pv 0) pe_int (fun _ _ => rfl)) pe_int) (fun _ _ => rfl)) (pg_sub (pv 0) pe_int set_list))))) pss_nil)
      (pss_cons (ps_if (pt_cmpR op_gt (pe_ix ix_seq (pv 0) pe_int (fun _ _ => rfl)) pe_int (nomark _)) (pss_cons (ps_set (i := 3) sc_l_draw.nd rfl (Or.inl rfl) (pe_op op_mod (pe_ix ix_seq (pv 0) pe_int (fun _ _ => rfl)) (pv 1)))
      (pss_cons (ps_asg (pe_op op_fdivW (pe_ix ix_seq (pv 0) pe_int (fun _ _ => rfl)) (pv 1)) (pg_sub (pv 0) pe_int set_list))
      (pss_one (ps_ret (pv 3))))) pss_nil)
      (pss_cons (ps_set (i := 4) sc_l_draw.nd rfl (Or.inl rfl) (pe_op op_mul (pe_ix ix_seq (pv 0) pe_int (fun _ _ => rfl)) pe_int))
      (pss_cons (ps_if (pt_cmpR op_gt (pe_callB call_len (by rfl) T.z_len PySem.boot_len (pa_cons (pv 2) pa_nil)) pe_int (nomark _)) (pss_one (ps_set (i := 4) sc_l_draw.nd rfl (Or.inl rfl) (pe_op op_add (pv 4) (pe_op op_mod (pe_ix ix_seq (pv 2) (pe_op op_mod (pe_op op_mul (pe_ix ix_seq (pv 0) pe_int (fun _ _ => rfl)) pe_int) (pe_callB call_len (by rfl) T.z_len PySem.boot_len (pa_cons (pv 2) pa_nil))) (fun _ _ => rfl)) pe_int)))) pss_nil)
      (pss_one (ps_ret (pe_op op_mod (pe_call (ok_l_mixed T) (hr.mono (by decide)) (by rfl) T.g_l_mixed T.F_l_mixed.kp (b_l_mixed T) .nil pass0 (pa_cons (pv 4) (pa_cons (pe_ix ix_seq (pv 0) pe_int (fun _ _ => rfl)) pa_nil))) (pv 1))))))))))
theorem b_Lack_init (T : Tx K mg) : Binds K T.fd_Lack_init ["self", "name"] [] := T.F_Lack_init.bindsN fun _ _ _ _ _ _ us hl => match us, hl with | [_, _], _ => rfl
theorem ok_Lack_init (T : Tx K mg) : FnOk P HasW.w K mg base CX0 1 (He.fAd K ("Lack", some "__init__")) T.fd_Lack_init ["self", "name"] (sp_Lack_init K) := by
  refine T.F_Lack_init.ok sc_Lack_init (fun vs H Q E h => len_Lack_init h) (fun cdv A outer s H vs Q E hr h => ⟨t_Lack_init K, PSs.nox ?_, pure_Lack_init h⟩)
  exact (pss_cons (ps_expr (pe_heir (by rfl) T.gc_HouseError T.heir_HouseError (pa_cons (pv 0) (pa_cons pe_str pa_nil))))
      (pss_one (ps_ost (pv 0) (pv 1))))
theorem b_House_holds (T : Tx K mg) : Binds K T.fd_House_holds ["self", "name"] [] := T.F_House_holds.bindsN fun _ _ _ _ _ _ us hl => match us, hl with | [_, _], _ => rfl
theorem ok_House_holds (T : Tx K mg) : FnOk P HasW.w K mg base CX0 2 (He.fAd K ("Store", some "holds")) T.fd_House_holds ["self", "name"] (sp_House_holds K) := by
  refine T.F_House_holds.ok sc_House_holds (fun vs H Q E h => len_House_holds h) (fun cdv A outer s H vs Q E hr h => ⟨t_House_holds K, PSs.nox ?_, pure_House_holds h⟩)
  exact (pss_one (ps_ret (pe_and (pe_call (ok_is_intI T) (hr.mono (by decide)) (by rfl) T.g_is_int T.F_is_int.kp (b_is_int T) .nil pass0 (pa_cons (pv 1) pa_nil)) (pe_one (pe_cmp (pc_din (hu_of hr) (pv 1) (pe_fld (pv 0) rfl)) rfl)))))
theorem b_Book_is_version (T : Tx K mg) : Binds K T.fd_Book_is_version ["self", "thing"] [] := T.F_Book_is_version.bindsN fun _ _ _ _ _ _ us hl => match us, hl with | [_, _], _ => rfl
theorem ok_Book_is_version (T : Tx K mg) : FnOk P HasW.w K mg base CX0 3 (He.fAd K ("Book", some "is_version")) T.fd_Book_is_version ["self", "thing"] (sp_Book_is_version K) := by
  refine T.F_Book_is_version.ok sc_Book_is_version (fun vs H Q E h => len_Book_is_version h) (fun cdv A outer s H vs Q E hr h => ⟨t_Book_is_version K, PSs.nox ?_, pure_Book_is_version h⟩)
  exact (pss_one (ps_ret (pe_and (pe_meth (pv 0) T.cl_Book T.me_Book_is_name (ok_Book_is_name T) (hr.mono (by decide)) (b_Book_is_name T) .nil pass0 (pa_cons (pv 1) pa_nil)) (pe_one (pe_cmpR op_eq (pe_ix ix_seq (pe_ix ix_seq (pe_fld (pv 0) rfl) (pv 1) (fun _ _ => rfl)) pe_int (fun _ _ => rfl)) pe_str (nomark _))))))
theorem b_NoName_init (T : Tx K mg) : Binds K T.fd_NoName_init ["self", "name"] [] := T.F_NoName_init.bindsN fun _ _ _ _ _ _ us hl => match us, hl with | [_, _], _ => rfl
theorem ok_NoName_init (T : Tx K mg) : FnOk P HasW.w K mg base CX0 1 (He.fAd K ("NoName", some "__init__")) T.fd_NoName_init ["self", "name"] (sp_NoName_init K) := by
  refine T.F_NoName_init.ok sc_NoName_init (fun vs H Q E h => len_NoName_init h) (fun cdv A outer s H vs Q E hr h => ⟨t_NoName_init K, PSs.nox ?_, pure_NoName_init h⟩)
  exact (pss_cons (ps_expr (pe_heir (by rfl) T.gc_HouseError T.heir_HouseError (pa_cons (pv 0) (pa_cons pe_str pa_nil))))
      (pss_one (ps_ost (pv 0) (pv 1))))
theorem b_check_versionsX (T : Tx K mg) : Binds K T.fd_check_versionsX ["book", "names"] [] := T.F_check_versionsX.bindsN fun _ _ _ _ _ _ us hl => match us, hl with | [_, _], _ => rfl
theorem ok_check_versionsB (T : Tx K mg) : FnOk P HasW.w K mg base (L2.CX P HasW.w) 4 (He.fAd K ("check_versions", none)) T.fd_check_versionsX ["book", "names"] (sp_check_versionsB K) := by
  refine T.F_check_versionsX.ok (CX := L2.CX P HasW.w) sc_check_versionsX (fun vs H Q E h => len_check_versionsB h) (fun cdv A outer s H vs Q E hr h => ⟨t_check_versionsX K E, ?_, pure_check_versionsB h⟩)
  exact (pss_one (ps_for (passes_of rfl) rfl (pi_tup (pv 1)) (pg_name (i := 2) sc_check_versionsX.nd rfl (Or.inl rfl)) (pss_one (ps_if (pt_not (pt_val (pe_meth (pv 0) T.cl_Book T.me_Book_is_version (ok_Book_is_version T) (hr.mono (by decide)) (b_Book_is_version T) .nil pass0 (pa_cons (pv 2) pa_nil)))) (pss_one (ps_raise rfl (takes_of rfl rfl rfl rfl) (pmk_oex T.oex_NoName T.ini_NoName T.tin_NoName (ok_NoName_init T) (hr.mono (by decide)) (b_NoName_init T) .nil pass0 (by rfl) T.gc_NoName (pa_cons (pv 2) pa_nil)))) pss_nil))))
theorem b_check_held_versionH (T : Tx K mg) : Binds K T.fd_check_held_versionH ["holder", "name"] [] := T.F_check_held_versionH.bindsN fun _ _ _ _ _ _ us hl => match us, hl with | [_, _], _ => rfl
theorem ok_check_held_versionH (T : Tx K mg) : FnOk P HasW.w K mg base (L2.CX P HasW.w) 5 (He.fAd K ("check_held_version", none)) T.fd_check_held_versionH ["holder", "name"] (sp_check_held_versionH K) := by
  refine T.F_check_held_versionH.ok (CX := L2.CX P HasW.w) sc_check_held_versionH (fun vs H Q E h => len_check_held_versionH h) (fun cdv A outer s H vs Q E hr h => ⟨t_check_held_versionH K E, ?_, pure_check_held_versionH h⟩)
  exact (pss_cons (ps_expr (pe_callS (ok_check_versionsB T) (hr.mono (by decide)) (by rfl) T.g_check_versionsX T.F_check_versionsX.kp (b_check_versionsX T) (fun σ => passAt (W := fun cls d _ H' => E cls d H') (takes_of rfl rfl rfl rfl) σ) (pa_cons (pe_fld (pv 0) rfl) (pa_cons (pe_tup (pa_cons (pv 1) pa_nil)) pa_nil))))
      (pss_one (ps_if (pt_not (pt_val (pe_meth (pv 0) T.cl_House T.mi_House_holds (ok_House_holds T) (hr.mono (by decide)) (b_House_holds T) .nil pass0 (pa_cons (pv 1) pa_nil)))) (pss_one (ps_raise rfl (takes_of rfl rfl rfl rfl) (pmk_oex T.oex_Lack T.ini_Lack T.tin_Lack (ok_Lack_init T) (hr.mono (by decide)) (b_Lack_init T) .nil pass0 (by rfl) T.gc_Lack (pa_cons (pv 1) pa_nil)))) pss_nil)))
theorem b_House_set_far (T : Tx K mg) : Binds K T.fd_House_set_far ["self", "label", "mark", "version"] [] := T.F_House_set_far.bindsN fun _ _ _ _ _ _ us hl => match us, hl with | [_, _, _, _], _ => rfl
theorem ok_House_set_far (T : Tx K mg) : FnOk P HasW.w K mg base (L2.CX P HasW.w) 6 (He.fAd K ("House", some "set_far")) T.fd_House_set_far ["self", "label", "mark", "version"] (sp_House_set_far K) := by
  refine T.F_House_set_far.ok (CX := L2.CX P HasW.w) sc_House_set_far (fun vs H Q E h => len_House_set_far h) (fun cdv A outer s H vs Q E hr h => ⟨t_House_set_far K E, ?_, pure_House_set_far h⟩)
  exact (pss_one (ps_if (pt_cmpR op_notN (pv 3) pe_non (nomark _)) (pss_cons (ps_expr (pe_callS (ok_check_held_versionH T) (hr.mono (by decide)) (by rfl) T.g_check_held_versionH T.F_check_held_versionH.kp (b_check_held_versionH T) (fun σ => passAt (W := fun cls d _ H' => E cls d H') (takes_of rfl rfl rfl rfl) σ) (pa_cons (pv 0) (pa_cons (pv 3) pa_nil))))
      (pss_one (ps_dput (hu_of hr) (pe_fld (pv 0) rfl) (pe_tup (pa_cons (pv 1) (pa_cons (pv 2) pa_nil))) (pv 3) rfl))) (pss_one (ps_expr (pe_bm PySem.F.plainAttrs_dict PySem.F.slot_dict_pop PySem.F.type_dict_pop (mt_popTA (hu_of hr)) (pe_fld (pv 0) rfl) (pa_cons (pe_tup (pa_cons (pv 1) (pa_cons (pv 2) pa_nil))) (pa_cons pe_non pa_nil)))))))
theorem b_l_far_set (T : Tx K mg) : Binds K T.fd_l_far_set ["_law_house_here", "_law_label_here", "_law_mark", "_law_version"] [] := T.F_l_far_set.bindsN fun _ _ _ _ _ _ us hl => match us, hl with | [_, _, _, _], _ => rfl
theorem ok_l_far_set (T : Tx K mg) : FnOk P HasW.w K mg base CX0 7 (He.fAd K ("_law_far_set", none)) T.fd_l_far_set ["_law_house_here", "_law_label_here", "_law_mark", "_law_version"] (sp_l_far_set K) := by
  refine T.F_l_far_set.ok sc_l_far_set (fun vs H Q E h => len_l_far_set h) (fun cdv A outer s H vs Q E hr h => ⟨t_l_far_set K, PSs.nox ?_, pure_l_far_set h⟩)
  exact (pss_cons (ps_set (i := 4) sc_l_far_set.nd rfl (Or.inl rfl) (pe_tup pa_nil))
      (pss_cons (ps_try_list (tb := fun W => (tDrop (tMethX (He.ga K "House") "set_far" (sp_House_set_far K) (WE W) (tVar 0) (tCons (tVar 1) (tCons (tVar 2) (tCons (tVar 3) tNil)))))) (l := [(.ref (He.ga K "NoName"), some 5, (fun xa xcls xd => (tAsg (tTup (tCons (tC (.str "NoName")) (tCons (tXfU K xa xcls xd "name" (tVar 5)) tNil))) (gName 4)))), (.ref (He.ga K "Lack"), some 5, (fun xa xcls xd => (tAsg (tTup (tCons (tC (.str "Lack")) (tCons (tXfU K xa xcls xd "name" (tVar 5)) tNil))) (gName 4))))]) rfl rfl (fun W pn xe tk _ => (pss_one (ps_expr (pe_methX (pv 0) T.cl_House T.me_House_set_far (ok_House_set_far T) (hr.mono (by decide)) (b_House_set_far T) (fun σ => passAt tk σ) (pa_cons (pv 1) (pa_cons (pv 2) (pa_cons (pv 3) pa_nil))))))) (HdsA.named (i := 5) (ts := (fun xa xcls xd => (tAsg (tTup (tCons (tC (.str "NoName")) (tCons (tXfU K xa xcls xd "name" (tVar 5)) tNil))) (gName 4)))) sc_l_far_set.nd rfl rfl ⟨rfl, by decide, .inl T.gc_NoName⟩ (fun xa oe xcls xd pn xhz xhf => (pss_one (ps_set (i := 4) sc_l_far_set.nd rfl (Or.inl rfl) (pe_tup (pa_cons pe_str (pa_cons (pe_xfU xhz xhf (pv 5)) pa_nil)))))) (HdsA.named (i := 5) (ts := (fun xa xcls xd => (tAsg (tTup (tCons (tC (.str "Lack")) (tCons (tXfU K xa xcls xd "name" (tVar 5)) tNil))) (gName 4)))) sc_l_far_set.nd rfl rfl ⟨rfl, by decide, .inl T.gc_Lack⟩ (fun xa oe xcls xd pn xhz xhf => (pss_one (ps_set (i := 4) sc_l_far_set.nd rfl (Or.inl rfl) (pe_tup (pa_cons pe_str (pa_cons (pe_xfU xhz xhf (pv 5)) pa_nil)))))) HdsA.nil)))
      (pss_one (ps_ret (pv 4)))))
theorem b_l_label (T : Tx K mg) : Binds K T.fd_l_label ["_law_deck_here"] [] := T.F_l_label.bindsN fun _ _ _ _ _ _ us hl => match us, hl with | [_], _ => rfl
theorem ok_l_label (T : Tx K mg) : FnOk P HasW.w K mg base CX0 3 (He.fAd K ("_law_label", none)) T.fd_l_label ["_law_deck_here"] (sp_l_label K) := by
  refine T.F_l_label.ok sc_l_label (fun vs H Q E h => len_l_label h) (fun cdv A outer s H vs Q E hr h => ⟨t_l_label K, PSs.nox ?_, pure_l_label h⟩)
  exact (pss_cons (ps_if (pt_cmpR op_gt (pe_call (ok_l_draw T) (hr.mono (by decide)) (by rfl) T.g_l_draw T.F_l_draw.kp (b_l_draw T) .nil pass0 (pa_cons (pv 0) (pa_cons pe_int pa_nil))) pe_int (nomark _)) (pss_one (ps_ret (pe_ix ix_seq pe_str (pe_call (ok_l_draw T) (hr.mono (by decide)) (by rfl) T.g_l_draw T.F_l_draw.kp (b_l_draw T) .nil pass0 (pa_cons (pv 0) (pa_cons pe_int pa_nil))) (fun _ _ => rfl)))) pss_nil)
      (pss_cons (ps_set (i := 1) sc_l_label.nd rfl (Or.inr rfl) pe_str)
      (pss_one (ps_ret (pe_join pe_str (pe_lc (own := [("_law_k", 2)]) (g := (gName 2)) (tt := tYes) (te := (tOp (rIx K) (tVar 1) (tCall (sp_l_draw K) [] E0 (tCons (tVar 0) (tCons (tC (.int 26)) tNil))))) rfl sc_l_label.nd (pi_range1 (by rfl) T.z_range (pa_cons (pe_op op_add pe_int (pe_call (ok_l_draw T) (hr.mono (by decide)) (by rfl) T.g_l_draw T.F_l_draw.kp (b_l_draw T) .nil pass0 (pa_cons (pv 0) (pa_cons pe_int pa_nil)))) pa_nil)) (blkOk_by (own := [("_law_k", 2)]) (N := N_l_label) (sc := defScope s_l_label) (by decide +kernel)) (fun _ _ _ _ _ => (pg_name (i := 2) sc_l_label.nd rfl (Or.inl rfl))) (fun _ _ _ _ _ => pts_nil) (fun _ _ _ _ _ => (pe_ix ix_seq (pv 1) (pe_call (ok_l_draw T) (hr.mono (by decide)) (by rfl) T.g_l_draw T.F_l_draw.kp (b_l_draw T) .nil pass0 (pa_cons (pv 0) (pa_cons pe_int pa_nil))) (fun _ _ => rfl)))))))))
theorem b_l_name55 (T : Tx K mg) : Binds K T.fd_l_name55 ["_law_deck_here", "_law_things"] [] := T.F_l_name55.bindsN fun _ _ _ _ _ _ us hl => match us, hl with | [_, _], _ => rfl
theorem ok_l_name55 (T : Tx K mg) : FnOk P HasW.w K mg base CX0 3 (He.fAd K ("_law_name", none)) T.fd_l_name55 ["_law_deck_here", "_law_things"] (sp_l_name55 K) := by
  refine T.F_l_name55.ok sc_l_name55 (fun vs H Q E h => len_l_name55 h) (fun cdv A outer s H vs Q E hr h => ⟨t_l_name55 K, PSs.nox ?_, pure_l_name55 h⟩)
  exact (pss_cons (ps_set (i := 2) sc_l_name55.nd rfl (Or.inl rfl) (pe_call (ok_l_draw T) (hr.mono (by decide)) (by rfl) T.g_l_draw T.F_l_draw.kp (b_l_draw T) .nil pass0 (pa_cons (pv 0) (pa_cons pe_int pa_nil))))
      (pss_cons (ps_if (pt_cmpR op_eq (pv 2) pe_int (nomark _)) (pss_one (ps_ret (pe_op op_add (pe_callB call_len (by rfl) T.z_len PySem.boot_len (pa_cons (pv 1) pa_nil)) (pe_op op_mul (pe_call (ok_l_draw T) (hr.mono (by decide)) (by rfl) T.g_l_draw T.F_l_draw.kp (b_l_draw T) .nil pass0 (pa_cons (pv 0) (pa_cons (pe_op op_pow pe_int pe_int) pa_nil))) (pe_call (ok_l_draw T) (hr.mono (by decide)) (by rfl) T.g_l_draw T.F_l_draw.kp (b_l_draw T) .nil pass0 (pa_cons (pv 0) (pa_cons pe_int pa_nil))))))) pss_nil)
      (pss_cons (ps_if (pt_cmpR op_eq (pv 2) pe_int (nomark _)) (pss_one (ps_ret (pe_op op_sub (pe_un un_neg pe_int) (pe_call (ok_l_draw T) (hr.mono (by decide)) (by rfl) T.g_l_draw T.F_l_draw.kp (b_l_draw T) .nil pass0 (pa_cons (pv 0) (pa_cons (pe_op op_pow pe_int pe_int) pa_nil)))))) pss_nil)
      (pss_one (ps_ret (pe_call (ok_l_draw T) (hr.mono (by decide)) (by rfl) T.g_l_draw T.F_l_draw.kp (b_l_draw T) .nil pass0 (pa_cons (pv 0) (pa_cons (pe_callB call_len (by rfl) T.z_len PySem.boot_len (pa_cons (pv 1) pa_nil)) pa_nil))))))))
theorem b_l_int (T : Tx K mg) : Binds K T.fd_l_int ["_law_thing"] [] := T.F_l_int.bindsN fun _ _ _ _ _ _ us hl => match us, hl with | [_], _ => rfl
theorem ok_l_int (T : Tx K mg) : FnOk P HasW.w K mg base CX0 1 (He.fAd K ("_law_int", none)) T.fd_l_int ["_law_thing"] (sp_l_int K) := by
  refine T.F_l_int.ok sc_l_int (fun vs H Q E h => len_l_int h) (fun cdv A outer s H vs Q E hr h => ⟨t_l_int K, PSs.nox ?_, pure_l_int h⟩)
  exact (pss_one (ps_ret (pe_and (pe_callB call_isi (by rfl) T.z_isinstance (by decide +kernel) (pa_cons (pv 0) (pa_cons (pe_bltn (v := .ty "int") (by rfl) T.z_int (by decide +kernel) rfl) pa_nil))) (pe_one (pe_not (pe_callB call_isi (by rfl) T.z_isinstance (by decide +kernel) (pa_cons (pv 0) (pa_cons (pe_bltn (v := .ty "bool") (by rfl) T.z_bool (by decide +kernel) rfl) pa_nil))))))))
theorem b_l_same (T : Tx K mg) : Binds K T.fd_l_same ["_law_found", "_law_due"] [] := T.F_l_same.bindsN fun _ _ _ _ _ _ us hl => match us, hl with | [_, _], _ => rfl
theorem ok_same2N (T : Tx K mg) : ∀ n : Nat, FnOk P HasW.w K mg base CX0 (n + 2) (He.fAd K ("_law_same", none)) T.fd_l_same ["_law_found", "_law_due"] (sp_same2N K n)
  | 0 => T.F_l_same.ok sc_l_same (fun vs H Q E h => len_same2N h) (fun cdv A outer s H vs Q E hr h => by
      obtain ⟨_, _, _, h, _⟩ := h
      exact h.elim)
  | n + 1 => by
    have G : FnOk P HasW.w K mg base CX0 (n + 2) (He.fAd K ("_law_same", none)) T.fd_l_same ["_law_found", "_law_due"] (sp_same2N K n) := ok_same2N T n
    refine T.F_l_same.ok sc_l_same (fun vs H Q E h => len_same2N h) (fun cdv A outer s H vs Q E hr h => ⟨t_l_same2 K n, PSs.nox ?_, pure_l_same2 h⟩)
    exact (pss_cons (ps_if (pt_val (pe_callB call_isiT (by rfl) T.z_isinstance (by decide +kernel) (pa_cons (pv 1) (pa_cons (pe_tup (pa_cons (pe_bltn (v := .ty "tuple") (by rfl) T.z_tuple (by decide +kernel) rfl) (pa_cons (pe_bltn (v := .ty "list") (by rfl) T.z_list (by decide +kernel) rfl) pa_nil))) pa_nil)))) (pss_cons (ps_if (PW.pt (pw_or (pt_cmpR op_ne (pe_callB call_isi (by rfl) T.z_isinstance (by decide +kernel) (pa_cons (pv 1) (pa_cons (pe_bltn (v := .ty "tuple") (by rfl) T.z_tuple (by decide +kernel) rfl) pa_nil))) (pe_callB call_isi (by rfl) T.z_isinstance (by decide +kernel) (pa_cons (pv 0) (pa_cons (pe_bltn (v := .ty "tuple") (by rfl) T.z_tuple (by decide +kernel) rfl) pa_nil))) (nomark _)) (pw_or1 (pt_cmpR op_ne (pe_callB call_isi (by rfl) T.z_isinstance (by decide +kernel) (pa_cons (pv 1) (pa_cons (pe_bltn (v := .ty "list") (by rfl) T.z_list (by decide +kernel) rfl) pa_nil))) (pe_callB call_isi (by rfl) T.z_isinstance (by decide +kernel) (pa_cons (pv 0) (pa_cons (pe_bltn (v := .ty "list") (by rfl) T.z_list (by decide +kernel) rfl) pa_nil))) (nomark _))))) (pss_one (ps_ret pe_bl)) pss_nil)
      (pss_cons (ps_if (pt_cmpR op_ne (pe_callB call_len (by rfl) T.z_len PySem.boot_len (pa_cons (pv 0) pa_nil)) (pe_callB call_len (by rfl) T.z_len PySem.boot_len (pa_cons (pv 1) pa_nil)) (nomark _)) (pss_one (ps_ret pe_bl)) pss_nil)
      (pss_cons (ps_for PassesOwn.never rfl (pi_range1 (by rfl) T.z_range (pa_cons (pe_callB call_len (by rfl) T.z_len PySem.boot_len (pa_cons (pv 1) pa_nil)) pa_nil)) (pg_name (i := 2) sc_l_same.nd rfl (Or.inl rfl)) (pss_one (ps_if (pt_not (pt_val (pe_call G hr (by rfl) T.g_l_same T.F_l_same.kp (b_l_same T) .nil pass0 (pa_cons (pe_ix ix_seq (pv 0) (pv 2) (fun _ _ => rfl)) (pa_cons (pe_ix ix_seq (pv 1) (pv 2) (fun _ _ => rfl)) pa_nil))))) (pss_one (ps_ret pe_bl)) pss_nil)))
      (pss_one (ps_ret pe_bl))))) pss_nil)
      (pss_cons (ps_if (pt_val (pe_callB call_isi (by rfl) T.z_isinstance (by decide +kernel) (pa_cons (pv 1) (pa_cons (pe_bltn (v := .ty "dict") (by rfl) T.z_dict (by decide +kernel) rfl) pa_nil)))) (pss_one ps_never) pss_nil)
      (pss_cons (ps_if (pt_val (pe_callB call_isi (by rfl) T.z_isinstance (by decide +kernel) (pa_cons (pv 1) (pa_cons (pe_bltn (v := .ty "bool") (by rfl) T.z_bool (by decide +kernel) rfl) pa_nil)))) (pss_one (ps_ret (pe_and (pe_callB call_isi (by rfl) T.z_isinstance (by decide +kernel) (pa_cons (pv 0) (pa_cons (pe_bltn (v := .ty "bool") (by rfl) T.z_bool (by decide +kernel) rfl) pa_nil))) (pe_one (pe_cmpR op_eq (pv 0) (pv 1) (nomark _)))))) pss_nil)
      (pss_cons (ps_if (pt_val (pe_callB call_isi (by rfl) T.z_isinstance (by decide +kernel) (pa_cons (pv 1) (pa_cons (pe_bltn (v := .ty "int") (by rfl) T.z_int (by decide +kernel) rfl) pa_nil)))) (pss_one (ps_ret (pe_and (pe_call (ok_l_int T) (hr.mono (by omega)) (by rfl) T.g_l_int T.F_l_int.kp (b_l_int T) .nil pass0 (pa_cons (pv 0) pa_nil)) (pe_one (pe_cmpR op_eq (pv 0) (pv 1) (nomark _)))))) pss_nil)
      (pss_cons (ps_if (pt_val (pe_callB call_isi (by rfl) T.z_isinstance (by decide +kernel) (pa_cons (pv 1) (pa_cons (pe_bltn (v := .ty "str") (by rfl) T.z_str (by decide +kernel) rfl) pa_nil)))) (pss_one (ps_ret (pe_and (pe_callB call_isi (by rfl) T.z_isinstance (by decide +kernel) (pa_cons (pv 0) (pa_cons (pe_bltn (v := .ty "str") (by rfl) T.z_str (by decide +kernel) rfl) pa_nil))) (pe_one (pe_cmpR op_eq (pv 0) (pv 1) (nomark _)))))) pss_nil)
      (pss_one (ps_ret (pe_and (pe_cmpR op_isN (pv 1) pe_non (nomark _)) (pe_one (pe_cmpR op_isN (pv 0) pe_non (nomark _)))))))))))
theorem ok_l_same2 (T : Tx K mg) : FnOk P HasW.w K mg base CX0 8 (He.fAd K ("_law_same", none)) T.fd_l_same ["_law_found", "_law_due"] (sp_l_same2 K) := ok_same2N T 6
theorem b_l_is_version (T : Tx K mg) : Binds K T.fd_l_is_version ["_law_things", "_law_name_here"] [] := T.F_l_is_version.bindsN fun _ _ _ _ _ _ us hl => match us, hl with | [_, _], _ => rfl
theorem ok_l_is_version (T : Tx K mg) : FnOk P HasW.w K mg base CX0 1 (He.fAd K ("_law_is_version", none)) T.fd_l_is_version ["_law_things", "_law_name_here"] (sp_l_is_version K) := by
  refine T.F_l_is_version.ok sc_l_is_version (fun vs H Q E h => len_l_is_version h) (fun cdv A outer s H vs Q E hr h => ⟨t_l_is_version K, PSs.nox ?_, pure_l_is_version h⟩)
  exact (pss_one (ps_ret (pe_and (pe_cmpR op_le pe_int (pv 1) (nomark _)) (pe_and (pe_cmpR op_lt (pv 1) (pe_callB call_len (by rfl) T.z_len PySem.boot_len (pa_cons (pv 0) pa_nil)) (nomark _)) (pe_one (pe_cmpR op_eq (pe_ix ix_seq (pe_ix ix_seq (pv 0) (pv 1) (fun _ _ => rfl)) pe_int (fun _ _ => rfl)) pe_str (nomark _)))))))
theorem b_l_version_due (T : Tx K mg) : Binds K T.fd_l_version_due ["_law_things", "_law_here_here", "_law_version"] [] := T.F_l_version_due.bindsN fun _ _ _ _ _ _ us hl => match us, hl with | [_, _, _], _ => rfl
theorem ok_l_version_due (T : Tx K mg) : FnOk P HasW.w K mg base CX0 2 (He.fAd K ("_law_version_due", none)) T.fd_l_version_due ["_law_things", "_law_here_here", "_law_version"] (sp_l_version_due K) := by
  refine T.F_l_version_due.ok sc_l_version_due (fun vs H Q E h => len_l_version_due h) (fun cdv A outer s H vs Q E hr h => ⟨t_l_version_due K, PSs.nox ?_, pure_l_version_due h⟩)
  exact (pss_cons (ps_if (pt_cmpR op_isN (pv 2) pe_non (nomark _)) (pss_one (ps_ret (pe_tup pa_nil))) pss_nil)
      (pss_cons (ps_if (pt_not (pt_val (pe_call (ok_l_is_version T) (hr.mono (by decide)) (by rfl) T.g_l_is_version T.F_l_is_version.kp (b_l_is_version T) .nil pass0 (pa_cons (pv 0) (pa_cons (pv 2) pa_nil))))) (pss_one (ps_ret (pe_tup (pa_cons pe_str (pa_cons (pv 2) pa_nil))))) pss_nil)
      (pss_cons (ps_if (pt_cmp (pc_dnotin (hu_of hr) (pv 2) (pv 1))) (pss_one (ps_ret (pe_tup (pa_cons pe_str (pa_cons (pv 2) pa_nil))))) pss_nil)
      (pss_one (ps_ret (pe_tup pa_nil))))))
theorem b_l_far_deed (T : Tx K mg) : Binds K T.fd_l_far_deed ["_law_deck_here", "_law_house_here", "_law_things", "_law_here_here", "_law_far"] [] := T.F_l_far_deed.bindsN fun _ _ _ _ _ _ us hl => match us, hl with | [_, _, _, _, _], _ => rfl
theorem ok_l_far_deed (T : Tx K mg) : FnOk P HasW.w K mg base CX0 9 (He.fAd K ("_law_far_deed", none)) T.fd_l_far_deed ["_law_deck_here", "_law_house_here", "_law_things", "_law_here_here", "_law_far"] (sp_l_far_deed K) := by
  refine T.F_l_far_deed.ok sc_l_far_deed (fun vs H Q E h => len_l_far_deed h) (fun cdv A outer s H vs Q E hr h => ⟨t_l_far_deed K, PSs.nox ?_, pure_l_far_deed h⟩)
  exact (pss_cons (ps_set (i := 5) sc_l_far_deed.nd rfl (Or.inl rfl) (pe_ix ix_seq (pe_lst (pa_cons pe_str (pa_cons pe_str (pa_cons (pe_call (ok_l_label T) (hr.mono (by decide)) (by rfl) T.g_l_label T.F_l_label.kp (b_l_label T) .nil pass0 (pa_cons (pv 0) pa_nil)) pa_nil)))) (pe_call (ok_l_draw T) (hr.mono (by decide)) (by rfl) T.g_l_draw T.F_l_draw.kp (b_l_draw T) .nil pass0 (pa_cons (pv 0) (pa_cons pe_int pa_nil))) (fun _ _ => rfl)))
      (pss_cons (ps_set (i := 6) sc_l_far_deed.nd rfl (Or.inl rfl) (pe_ix ix_seq (pe_lst (pa_cons pe_str (pa_cons pe_str (pa_cons (pe_call (ok_l_label T) (hr.mono (by decide)) (by rfl) T.g_l_label T.F_l_label.kp (b_l_label T) .nil pass0 (pa_cons (pv 0) pa_nil)) pa_nil)))) (pe_call (ok_l_draw T) (hr.mono (by decide)) (by rfl) T.g_l_draw T.F_l_draw.kp (b_l_draw T) .nil pass0 (pa_cons (pv 0) (pa_cons pe_int pa_nil))) (fun _ _ => rfl)))
      (pss_cons (ps_set (i := 7) sc_l_far_deed.nd rfl (Or.inl rfl) (pe_call (ok_l_name55 T) (hr.mono (by decide)) (by rfl) T.g_l_name55 T.F_l_name55.kp (b_l_name55 T) .nil pass0 (pa_cons (pv 0) (pa_cons (pv 2) pa_nil))))
      (pss_cons (ps_if (pt_cmpR op_eq (pe_call (ok_l_draw T) (hr.mono (by decide)) (by rfl) T.g_l_draw T.F_l_draw.kp (b_l_draw T) .nil pass0 (pa_cons (pv 0) (pa_cons pe_int pa_nil))) pe_int (nomark _)) (pss_one (ps_set (i := 7) sc_l_far_deed.nd rfl (Or.inl rfl) pe_non)) pss_nil)
      (pss_cons (ps_set (i := 8) sc_l_far_deed.nd rfl (Or.inl rfl) (pe_call (ok_l_version_due T) (hr.mono (by decide)) (by rfl) T.g_l_version_due T.F_l_version_due.kp (b_l_version_due T) .nil pass0 (pa_cons (pv 2) (pa_cons (pv 3) (pa_cons (pv 7) pa_nil)))))
      (pss_cons (ps_if (PW.pt (pw_and (pt_cmpR (op_eqD hr.units) (pv 8) (pe_tup pa_nil) (nomark _)) (pw_and1 (pt_cmpR op_notN (pv 7) pe_non (nomark _))))) (pss_one (ps_dput (hu_of hr) (pv 4) (pe_tup (pa_cons (pv 5) (pa_cons (pv 6) pa_nil))) (pv 7) rfl)) (pss_one (ps_if (PW.pt (pw_and (pt_cmpR (op_eqD hr.units) (pv 8) (pe_tup pa_nil) (nomark _)) (pw_and1 (pt_cmp (pc_din (hu_of hr) (pe_tup (pa_cons (pv 5) (pa_cons (pv 6) pa_nil))) (pv 4)))))) (pss_one (ps_expr (pe_bm PySem.F.plainAttrs_dict PySem.F.slot_dict_pop PySem.F.type_dict_pop (mt_popTA (hu_of hr)) (pv 4) (pa_cons (pe_tup (pa_cons (pv 5) (pa_cons (pv 6) pa_nil))) pa_nil)))) pss_nil)))
      (pss_one (ps_ret (pe_call (ok_l_same2 T) (hr.mono (by decide)) (by rfl) T.g_l_same T.F_l_same.kp (b_l_same T) .nil pass0 (pa_cons (pe_call (ok_l_far_set T) (hr.mono (by decide)) (by rfl) T.g_l_far_set T.F_l_far_set.kp (b_l_far_set T) .nil pass0 (pa_cons (pv 1) (pa_cons (pv 5) (pa_cons (pv 6) (pa_cons (pv 7) pa_nil))))) (pa_cons (pv 8) pa_nil)))))))))))
theorem b_l_here55 (T : Tx K mg) : Binds K T.fd_l_here55 ["_law_names"] [] := T.F_l_here55.bindsN fun _ _ _ _ _ _ us hl => match us, hl with | [_], _ => rfl
theorem ok_l_here55 (T : Tx K mg) : FnOk P HasW.w K mg base CX0 1 (He.fAd K ("_law_here", none)) T.fd_l_here55 ["_law_names"] (sp_l_here55 K) := by
  refine T.F_l_here55.ok sc_l_here55 (fun vs H Q E h => len_l_here55 h) (fun cdv A outer s H vs Q E hr h => ⟨t_l_here55 K, PSs.nox ?_, pure_l_here55 h⟩)
  exact (pss_cons (ps_set (i := 1) sc_l_here55.nd rfl (Or.inl rfl) pe_dnewK)
      (pss_cons (ps_for PassesOwn.never rfl (pi_list (pv 0)) (pg_name (i := 2) sc_l_here55.nd rfl (Or.inl rfl)) (pss_one (ps_dput (hu_of hr) (pv 1) (pv 2) pe_bl rfl)))
      (pss_one (ps_ret (pv 1)))))
theorem b_Store_initH (T : Tx K mg) : Binds K T.fd_Store_initH ["self", "book"] [] := T.F_Store_initH.bindsN fun _ _ _ _ _ _ us hl => match us, hl with | [_, _], _ => rfl
theorem ok_Store_initH (T : Tx K mg) : FnOk P HasW.w K mg base CX0 1 (He.fAd K ("Store", some "__init__")) T.fd_Store_initH ["self", "book"] (sp_Store_initH K) := by
  refine T.F_Store_initH.ok sc_Store_initH (fun vs H Q E h => len_Store_initH h) (fun cdv A outer s H vs Q E hr h => ⟨t_Store_initH K, PSs.nox ?_, pure_Store_initH h⟩)
  exact (pss_cons (ps_fld (pv 0) (pv 1) rfl)
      (pss_cons (ps_fld (pv 0) pe_dnewK rfl)
      (pss_one (ps_fld (pv 0) pe_int rfl))))
theorem b_House_initF (T : Tx K mg) : Binds K T.fd_House_initF ["self", "book"] [] := T.F_House_initF.bindsN fun _ _ _ _ _ _ us hl => match us, hl with | [_, _], _ => rfl
theorem ok_House_initF (T : Tx K mg) : FnOk P HasW.w K mg base CX0 2 (He.fAd K ("House", some "__init__")) T.fd_House_initF ["self", "book"] (sp_House_initF K) := by
  refine T.F_House_initF.ok sc_House_initF (fun vs H Q E h => len_House_initF h) (fun cdv A outer s H vs Q E hr h => ⟨t_House_initF K, PSs.nox ?_, pure_House_initF h⟩)
  exact (pss_cons (ps_expr (pe_clsm (by rfl) T.gc_Store T.cg_Store_init (ok_Store_initH T) (hr.mono (by decide)) (b_Store_initH T) .nil pass0 (pa_cons (pv 0) (pa_cons (pv 1) pa_nil))))
      (pss_cons (ps_fld (pv 0) pe_dnewK rfl)
      (pss_cons (ps_fld (pv 0) (pe_lst pa_nil) rfl)
      (pss_cons (ps_fld (pv 0) pe_dnewT rfl)
      (pss_one (ps_fld (pv 0) (pe_lst pa_nil) rfl))))))
theorem b_l_house55 (T : Tx K mg) : Binds K T.fd_l_house55 ["_law_book_here", "_law_held"] [] := T.F_l_house55.bindsN fun _ _ _ _ _ _ us hl => match us, hl with | [_, _], _ => rfl
theorem ok_l_house55 (T : Tx K mg) : FnOk P HasW.w K mg base CX0 4 (He.fAd K ("_law_house", none)) T.fd_l_house55 ["_law_book_here", "_law_held"] (sp_l_house55 K) := by
  refine T.F_l_house55.ok sc_l_house55 (fun vs H Q E h => len_l_house55 h) (fun cdv A outer s H vs Q E hr h => ⟨t_l_house55 K, PSs.nox ?_, pure_l_house55 h⟩)
  exact (pss_cons (ps_set (i := 2) sc_l_house55.nd rfl (Or.inl rfl) (pe_make T.mk_House (ok_House_initF T) (hr.mono (by decide)) (by rfl) T.gc_House (b_House_initF T) .nil pass0 (pa_cons (pv 0) pa_nil)))
      (pss_cons (ps_for PassesOwn.never rfl (pi_list (pv 1)) (pg_name (i := 3) sc_l_house55.nd rfl (Or.inl rfl)) (pss_one (ps_expr (pe_meth (pv 2) T.cl_House T.mi_House_put (ok_House_put T) (hr.mono (by decide)) (b_House_put T) .nil pass0 (pa_cons (pv 3) pa_nil)))))
      (pss_one (ps_ret (pv 2)))))
theorem b_Pin_let_go (T : Tx K mg) : Binds K T.fd_Pin_let_go ["self"] [] := T.F_Pin_let_go.bindsN fun _ _ _ _ _ _ us hl => match us, hl with | [_], _ => rfl
theorem ok_Pin_let_go (T : Tx K mg) : FnOk P HasW.w K mg base CX0 1 (He.fAd K ("Pin", some "let_go")) T.fd_Pin_let_go ["self"] (sp_Pin_let_go K) := by
  refine T.F_Pin_let_go.ok sc_Pin_let_go (fun vs H Q E h => len_Pin_let_go h) (fun cdv A outer s H vs Q E hr h => ⟨t_Pin_let_go K, PSs.nox ?_, pure_Pin_let_go h⟩)
  exact (pss_cons (ps_fld (pv 0) pe_dnewK rfl)
      (pss_one (ps_fld (pv 0) pe_bl rfl)))
theorem b_check_held (T : Tx K mg) : Binds K T.fd_check_held ["house", "names"] [] := T.F_check_held.bindsN fun _ _ _ _ _ _ us hl => match us, hl with | [_, _], _ => rfl
theorem ok_check_held (T : Tx K mg) : FnOk P HasW.w K mg base (L2.CX P HasW.w) 3 (He.fAd K ("check_held", none)) T.fd_check_held ["house", "names"] (sp_check_held K) := by
  refine T.F_check_held.ok (CX := L2.CX P HasW.w) sc_check_held (fun vs H Q E h => len_check_held h) (fun cdv A outer s H vs Q E hr h => ⟨t_check_held K E, ?_, pure_check_held h⟩)
  exact (pss_cons (ps_for (passes_of rfl) rfl (pi_or (pi_list (pv 1)) (pi_tup (pv 1))) (pg_name (i := 2) sc_check_held.nd rfl (Or.inl rfl)) (pss_one (ps_if (pt_not (pt_val (pe_meth (pe_fld (pv 0) rfl) T.cl_Book T.me_Book_is_name (ok_Book_is_name T) (hr.mono (by decide)) (b_Book_is_name T) .nil pass0 (pa_cons (pv 2) pa_nil)))) (pss_one (ps_raise rfl (takes_of rfl rfl rfl rfl) (pmk_oex T.oex_NoName T.ini_NoName T.tin_NoName (ok_NoName_init T) (hr.mono (by decide)) (b_NoName_init T) .nil pass0 (by rfl) T.gc_NoName (pa_cons (pv 2) pa_nil)))) pss_nil)))
      (pss_one (ps_for (passes_of rfl) rfl (pi_or (pi_list (pv 1)) (pi_tup (pv 1))) (pg_name (i := 2) sc_check_held.nd rfl (Or.inl rfl)) (pss_one (ps_if (pt_not (pt_val (pe_meth (pv 0) T.cl_House T.mi_House_holds (ok_House_holds T) (hr.mono (by decide)) (b_House_holds T) .nil pass0 (pa_cons (pv 2) pa_nil)))) (pss_one (ps_raise rfl (takes_of rfl rfl rfl rfl) (pmk_oex T.oex_Lack T.ini_Lack T.tin_Lack (ok_Lack_init T) (hr.mono (by decide)) (b_Lack_init T) .nil pass0 (by rfl) T.gc_Lack (pa_cons (pv 2) pa_nil)))) pss_nil)))))
theorem b_Pin_add (T : Tx K mg) : Binds K T.fd_Pin_add ["self", "name"] [] := T.F_Pin_add.bindsN fun _ _ _ _ _ _ us hl => match us, hl with | [_, _], _ => rfl
theorem ok_Pin_add (T : Tx K mg) : FnOk P HasW.w K mg base (L2.CX P HasW.w) 4 (He.fAd K ("Pin", some "add")) T.fd_Pin_add ["self", "name"] (sp_Pin_add K) := by
  refine T.F_Pin_add.ok (CX := L2.CX P HasW.w) sc_Pin_add (fun vs H Q E h => len_Pin_add h) (fun cdv A outer s H vs Q E hr h => ⟨t_Pin_add K E, ?_, pure_Pin_add h⟩)
  exact (pss_cons (ps_if (pt_val (pe_fld (pv 0) rfl)) (pss_one (ps_raise rfl (takes_of rfl rfl rfl rfl) (pmk_own PySem.F.excBase_ValueError T.x_LetGo.1 T.gc_LetGo T.x_LetGo.2.1 (raises_own T.x_LetGo.2.2.1 T.x_LetGo.2.2.2) (by exact rfl)))) pss_nil)
      (pss_cons (ps_expr (pe_callS (ok_check_held T) (hr.mono (by decide)) (by rfl) T.g_check_held T.F_check_held.kp (b_check_held T) (fun σ => passAt (W := fun cls d _ H' => E cls d H') (takes_of rfl rfl rfl rfl) σ) (pa_cons (pe_fld (pv 0) rfl) (pa_cons (pe_tup (pa_cons (pv 1) pa_nil)) pa_nil))))
      (pss_one (ps_dput (hu_of hr) (pe_fld (pv 0) rfl) (pv 1) pe_bl rfl))))
theorem b_l_added (T : Tx K mg) : Binds K T.fd_l_added ["_law_one", "_law_name_here"] [] := T.F_l_added.bindsN fun _ _ _ _ _ _ us hl => match us, hl with | [_, _], _ => rfl
theorem ok_l_added (T : Tx K mg) : FnOk P HasW.w K mg base CX0 5 (He.fAd K ("_law_added", none)) T.fd_l_added ["_law_one", "_law_name_here"] (sp_l_added K) := by
  refine T.F_l_added.ok sc_l_added (fun vs H Q E h => len_l_added h) (fun cdv A outer s H vs Q E hr h => ⟨t_l_added K, PSs.nox ?_, pure_l_added h⟩)
  exact (pss_cons (ps_set (i := 2) sc_l_added.nd rfl (Or.inl rfl) (pe_tup pa_nil))
      (pss_cons (ps_try_list (tb := fun W => (tDrop (tMethX (He.ga K "Pin") "add" (sp_Pin_add K) (WE W) (tVar 0) (tCons (tVar 1) tNil)))) (l := [(.ref (He.ga K "NoName"), some 3, (fun xa xcls xd => (tAsg (tTup (tCons (tC (.str "NoName")) (tCons (tXfU K xa xcls xd "name" (tVar 3)) tNil))) (gName 2)))), (.ref (He.ga K "Lack"), some 3, (fun xa xcls xd => (tAsg (tTup (tCons (tC (.str "Lack")) (tCons (tXfU K xa xcls xd "name" (tVar 3)) tNil))) (gName 2)))), (.ref (He.ga K "HouseError"), some 3, (fun xa xcls xd => (tSeq (tAsg (tTup (tCons (tC (.str "other")) tNil)) (gName 2))
    (tIfS (tAnd (tB (tCB (rIsU K xa xcls xd) (tCons (tVar 3) (tCons (tC (.ref (He.ga K "LetGo"))) tNil)))) (tB (tCB (rIsU K xa xcls xd) (tCons (tVar 3) (tCons (tC (.ty "ValueError")) tNil))))) (tAsg (tTup (tCons (tC (.str "LetGo")) tNil)) (gName 2)) tNext))))]) rfl rfl (fun W pn xe tk _ => (pss_one (ps_expr (pe_methX (pv 0) T.cl_Pin T.me_Pin_add (ok_Pin_add T) (hr.mono (by decide)) (b_Pin_add T) (fun σ => passAt tk σ) (pa_cons (pv 1) pa_nil))))) (HdsA.named (i := 3) (ts := (fun xa xcls xd => (tAsg (tTup (tCons (tC (.str "NoName")) (tCons (tXfU K xa xcls xd "name" (tVar 3)) tNil))) (gName 2)))) sc_l_added.nd rfl rfl ⟨rfl, by decide, .inl T.gc_NoName⟩ (fun xa oe xcls xd pn xhz xhf => (pss_one (ps_set (i := 2) sc_l_added.nd rfl (Or.inl rfl) (pe_tup (pa_cons pe_str (pa_cons (pe_xfU xhz xhf (pv 3)) pa_nil)))))) (HdsA.named (i := 3) (ts := (fun xa xcls xd => (tAsg (tTup (tCons (tC (.str "Lack")) (tCons (tXfU K xa xcls xd "name" (tVar 3)) tNil))) (gName 2)))) sc_l_added.nd rfl rfl ⟨rfl, by decide, .inl T.gc_Lack⟩ (fun xa oe xcls xd pn xhz xhf => (pss_one (ps_set (i := 2) sc_l_added.nd rfl (Or.inl rfl) (pe_tup (pa_cons pe_str (pa_cons (pe_xfU xhz xhf (pv 3)) pa_nil)))))) (HdsA.named (i := 3) (ts := (fun xa xcls xd => (tSeq (tAsg (tTup (tCons (tC (.str "other")) tNil)) (gName 2))
    (tIfS (tAnd (tB (tCB (rIsU K xa xcls xd) (tCons (tVar 3) (tCons (tC (.ref (He.ga K "LetGo"))) tNil)))) (tB (tCB (rIsU K xa xcls xd) (tCons (tVar 3) (tCons (tC (.ty "ValueError")) tNil))))) (tAsg (tTup (tCons (tC (.str "LetGo")) tNil)) (gName 2)) tNext)))) sc_l_added.nd rfl rfl ⟨rfl, by decide, .inl T.gc_HouseError⟩ (fun xa oe xcls xd pn xhz xhf => (pss_cons (ps_set (i := 2) sc_l_added.nd rfl (Or.inl rfl) (pe_tup (pa_cons pe_str pa_nil)))
      (pss_one (ps_if (PW.pt (pw_and (pt_val (pe_callB (call_isU xhz xhf) (by rfl) T.z_isinstance (by decide +kernel) (pa_cons (pv 3) (pa_cons (pe_glob (v := .ref (He.ga K "LetGo")) (by rfl) T.gc_LetGo rfl) pa_nil)))) (pw_and1 (pt_val (pe_callB (call_isU xhz xhf) (by rfl) T.z_isinstance (by decide +kernel) (pa_cons (pv 3) (pa_cons (pe_bltn (v := .ty "ValueError") (by rfl) T.z_ValueError (by decide +kernel) rfl) pa_nil))))))) (pss_one (ps_set (i := 2) sc_l_added.nd rfl (Or.inl rfl) (pe_tup (pa_cons pe_str pa_nil)))) pss_nil)))) HdsA.nil))))
      (pss_one (ps_ret (pv 2)))))
theorem b_l_names_due (T : Tx K mg) : Binds K T.fd_l_names_due ["_law_things", "_law_here_here", "_law_names"] [] := T.F_l_names_due.bindsN fun _ _ _ _ _ _ us hl => match us, hl with | [_, _, _], _ => rfl
theorem ok_l_names_due (T : Tx K mg) : FnOk P HasW.w K mg base CX0 1 (He.fAd K ("_law_names_due", none)) T.fd_l_names_due ["_law_things", "_law_here_here", "_law_names"] (sp_l_names_due K) := by
  refine T.F_l_names_due.ok sc_l_names_due (fun vs H Q E h => len_l_names_due h) (fun cdv A outer s H vs Q E hr h => ⟨t_l_names_due K, PSs.nox ?_, pure_l_names_due h⟩)
  exact (pss_cons (ps_for PassesOwn.never rfl (pi_list (pv 2)) (pg_name (i := 3) sc_l_names_due.nd rfl (Or.inl rfl)) (pss_one (ps_if (PW.pt (pw_or (pt_cmpR op_lt (pv 3) pe_int (nomark _)) (pw_or1 (pt_cmpR op_ge (pv 3) (pe_callB call_len (by rfl) T.z_len PySem.boot_len (pa_cons (pv 0) pa_nil)) (nomark _))))) (pss_one (ps_ret (pe_tup (pa_cons pe_str (pa_cons (pv 3) pa_nil))))) pss_nil)))
      (pss_cons (ps_for PassesOwn.never rfl (pi_list (pv 2)) (pg_name (i := 3) sc_l_names_due.nd rfl (Or.inl rfl)) (pss_one (ps_if (pt_cmp (pc_dnotin (hu_of hr) (pv 3) (pv 1))) (pss_one (ps_ret (pe_tup (pa_cons pe_str (pa_cons (pv 3) pa_nil))))) pss_nil)))
      (pss_one (ps_ret (pe_tup pa_nil)))))
theorem b_Pin_init (T : Tx K mg) : Binds K T.fd_Pin_init ["self", "house", "names"] [] := T.F_Pin_init.bindsN fun _ _ _ _ _ _ us hl => match us, hl with | [_, _, _], _ => rfl
theorem ok_Pin_init (T : Tx K mg) : FnOk P HasW.w K mg base (L2.CX P HasW.w) 4 (He.fAd K ("Pin", some "__init__")) T.fd_Pin_init ["self", "house", "names"] (sp_Pin_init K) := by
  refine T.F_Pin_init.ok (CX := L2.CX P HasW.w) sc_Pin_init (fun vs H Q E h => len_Pin_init h) (fun cdv A outer s H vs Q E hr h => ⟨t_Pin_init K E, ?_, pure_Pin_init h⟩)
  exact (pss_cons (ps_expr (pe_callS (ok_check_held T) (hr.mono (by decide)) (by rfl) T.g_check_held T.F_check_held.kp (b_check_held T) (fun σ => passAt (W := fun cls d _ H' => E cls d H') (takes_of rfl rfl rfl rfl) σ) (pa_cons (pv 1) (pa_cons (pv 2) pa_nil))))
      (pss_cons (ps_fld (pv 0) (pv 1) rfl)
      (pss_cons (ps_fld (pv 0) (pe_dc (own := [("name", 3)]) (g := (gName 3)) (tt := tYes) (tk := (tVar 3)) (tv := (tC (.bl true))) rfl sc_Pin_init.nd (pi_or (pi_list (pv 2)) (pi_tup (pv 2))) (blkOk_by (own := [("name", 3)]) (N := N_Pin_init) (sc := defScope s_Pin_init) (by decide +kernel)) (fun _ _ _ _ _ => (pg_name (i := 3) sc_Pin_init.nd rfl (Or.inl rfl))) (fun _ _ _ _ _ => pts_nil) (fun _ _ _ _ _ => (pv 3)) (fun _ _ _ _ _ => pe_bl)) rfl)
      (pss_one (ps_fld (pv 0) pe_bl rfl)))))
theorem b_House_pin (T : Tx K mg) : Binds K T.fd_House_pin ["self", "names"] [] := T.F_House_pin.bindsN fun _ _ _ _ _ _ us hl => match us, hl with | [_, _], _ => rfl
theorem ok_House_pin (T : Tx K mg) : FnOk P HasW.w K mg base (L2.CX P HasW.w) 6 (He.fAd K ("House", some "pin")) T.fd_House_pin ["self", "names"] (sp_House_pin K) := by
  refine T.F_House_pin.ok (CX := L2.CX P HasW.w) sc_House_pin (fun vs H Q E h => len_House_pin h) (fun cdv A outer s H vs Q E hr h => ⟨t_House_pin K E, ?_, pure_House_pin h⟩)
  exact (pss_cons (ps_set (i := 2) sc_House_pin.nd rfl (Or.inl rfl) (pe_make T.mk_Pin (ok_Pin_init T) (hr.mono (by decide)) (by rfl) T.gc_Pin (b_Pin_init T) .nil (passes_call (W := fun cls d _ H' => E cls d H') (takes_of rfl rfl rfl rfl) (fun _ _ _ _ h => h)) (pa_cons (pv 0) (pa_cons (pv 1) pa_nil))))
      (pss_cons (ps_fld (pv 0) (pe_op op_cat (pe_lc (own := [("pin", 3)]) (g := (gName 3)) (tt := (tNot (tB (tFld K (tVar 3) "is_let_go")))) (te := (tVar 3)) rfl sc_House_pin.nd (pi_list (pe_fld (pv 0) rfl)) (blkOk_by (own := [("pin", 3)]) (N := N_House_pin) (sc := defScope s_House_pin) (by decide +kernel)) (fun _ _ _ _ _ => (pg_name (i := 3) sc_House_pin.nd rfl (Or.inl rfl))) (fun _ _ _ _ _ => (pts_one (pt_not (pt_val (pe_fld (pv 3) rfl))))) (fun _ _ _ _ _ => (pv 3))) (pe_lst (pa_cons (pv 2) pa_nil))) rfl)
      (pss_one (ps_ret (pv 2)))))
theorem b_l_pinned (T : Tx K mg) : Binds K T.fd_l_pinned ["_law_house_here", "_law_pins", "_law_names"] [] := T.F_l_pinned.bindsN fun _ _ _ _ _ _ us hl => match us, hl with | [_, _, _], _ => rfl
theorem ok_l_pinned (T : Tx K mg) : FnOk P HasW.w K mg base CX0 7 (He.fAd K ("_law_pinned", none)) T.fd_l_pinned ["_law_house_here", "_law_pins", "_law_names"] (sp_l_pinned K) := by
  refine T.F_l_pinned.ok sc_l_pinned (fun vs H Q E h => len_l_pinned h) (fun cdv A outer s H vs Q E hr h => ⟨t_l_pinned K, PSs.nox ?_, pure_l_pinned h⟩)
  exact (pss_cons (ps_set (i := 3) sc_l_pinned.nd rfl (Or.inl rfl) (pe_tup pa_nil))
      (pss_cons (ps_try_list (tb := fun W => (tDrop (tBM K "list" rAppend (tVar 1) (tCons (tMethX (He.ga K "House") "pin" (sp_House_pin K) (WE W) (tVar 0) (tCons (tVar 2) tNil)) tNil)))) (l := [(.ref (He.ga K "NoName"), some 4, (fun xa xcls xd => (tAsg (tTup (tCons (tC (.str "NoName")) (tCons (tXfU K xa xcls xd "name" (tVar 4)) tNil))) (gName 3)))), (.ref (He.ga K "Lack"), some 4, (fun xa xcls xd => (tAsg (tTup (tCons (tC (.str "Lack")) (tCons (tXfU K xa xcls xd "name" (tVar 4)) tNil))) (gName 3))))]) rfl rfl (fun W pn xe tk _ => (pss_one (ps_expr (pe_bm PySem.F.plainAttrs_list PySem.F.slot_list_append PySem.F.type_list_append mt_append (pv 1) (pa_cons (pe_methX (pv 0) T.cl_House T.me_House_pin (ok_House_pin T) (hr.mono (by decide)) (b_House_pin T) (fun σ => passAt tk σ) (pa_cons (pv 2) pa_nil)) pa_nil))))) (HdsA.named (i := 4) (ts := (fun xa xcls xd => (tAsg (tTup (tCons (tC (.str "NoName")) (tCons (tXfU K xa xcls xd "name" (tVar 4)) tNil))) (gName 3)))) sc_l_pinned.nd rfl rfl ⟨rfl, by decide, .inl T.gc_NoName⟩ (fun xa oe xcls xd pn xhz xhf => (pss_one (ps_set (i := 3) sc_l_pinned.nd rfl (Or.inl rfl) (pe_tup (pa_cons pe_str (pa_cons (pe_xfU xhz xhf (pv 4)) pa_nil)))))) (HdsA.named (i := 4) (ts := (fun xa xcls xd => (tAsg (tTup (tCons (tC (.str "Lack")) (tCons (tXfU K xa xcls xd "name" (tVar 4)) tNil))) (gName 3)))) sc_l_pinned.nd rfl rfl ⟨rfl, by decide, .inl T.gc_Lack⟩ (fun xa oe xcls xd pn xhz xhf => (pss_one (ps_set (i := 3) sc_l_pinned.nd rfl (Or.inl rfl) (pe_tup (pa_cons pe_str (pa_cons (pe_xfU xhz xhf (pv 4)) pa_nil)))))) HdsA.nil)))
      (pss_one (ps_ret (pv 3)))))
theorem b_l_pin_deed (T : Tx K mg) : Binds K T.fd_l_pin_deed ["_law_deck_here", "_law_house_here", "_law_things", "_law_here_here", "_law_pins", "_law_ons"] [] := T.F_l_pin_deed.bindsN fun _ _ _ _ _ _ us hl => match us, hl with | [_, _, _, _, _, _], _ => rfl
theorem ok_l_pin_deed (T : Tx K mg) : FnOk P HasW.w K mg base CX0 9 (He.fAd K ("_law_pin_deed", none)) T.fd_l_pin_deed ["_law_deck_here", "_law_house_here", "_law_things", "_law_here_here", "_law_pins", "_law_ons"] (sp_l_pin_deed K) := by
  refine T.F_l_pin_deed.ok sc_l_pin_deed (fun vs H Q E h => len_l_pin_deed h) (fun cdv A outer s H vs Q E hr h => ⟨t_l_pin_deed K, PSs.nox ?_, pure_l_pin_deed h⟩)
  exact (pss_cons (ps_set (i := 6) sc_l_pin_deed.nd rfl (Or.inl rfl) (pe_call (ok_l_draw T) (hr.mono (by decide)) (by rfl) T.g_l_draw T.F_l_draw.kp (b_l_draw T) .nil pass0 (pa_cons (pv 0) (pa_cons pe_int pa_nil))))
      (pss_cons (ps_if (PW.pt (pw_or (pt_cmpR op_eq (pv 6) pe_int (nomark _)) (pw_or1 (pt_cmpR op_eq (pe_callB call_len (by rfl) T.z_len PySem.boot_len (pa_cons (pv 4) pa_nil)) pe_int (nomark _))))) (pss_cons (ps_setLc (i := 7) (own := [("_law_k", 9)]) (g := (gName 9)) (tt := tYes) (te := (tCall (sp_l_name55 K) [] E0 (tCons (tVar 0) (tCons (tVar 2) tNil)))) rfl sc_l_pin_deed.nd rfl rfl (sw_true rfl rfl rfl (by decide +kernel)) (pi_range1 (by rfl) T.z_range (pa_cons (pe_call (ok_l_draw T) (hr.mono (by decide)) (by rfl) T.g_l_draw T.F_l_draw.kp (b_l_draw T) .nil pass0 (pa_cons (pv 0) (pa_cons pe_int pa_nil))) pa_nil)) (blkOk_by (own := [("_law_k", 9)]) (N := N_l_pin_deed) (sc := defScope s_l_pin_deed) (by decide +kernel)) (fun _ _ _ _ _ => (pg_name (i := 9) sc_l_pin_deed.nd rfl (Or.inl rfl))) (fun _ _ _ _ _ => pts_nil) (fun _ _ _ _ _ => (pe_call (ok_l_name55 T) (hr.mono (by decide)) (by rfl) T.g_l_name55 T.F_l_name55.kp (b_l_name55 T) .nil pass0 (pa_cons (pv 0) (pa_cons (pv 2) pa_nil)))))
      (pss_cons (ps_set (i := 8) sc_l_pin_deed.nd rfl (Or.inl rfl) (pe_call (ok_l_names_due T) (hr.mono (by decide)) (by rfl) T.g_l_names_due T.F_l_names_due.kp (b_l_names_due T) .nil pass0 (pa_cons (pv 2) (pa_cons (pv 3) (pa_cons (pv 7) pa_nil)))))
      (pss_cons (ps_if (pt_cmpR (op_eqD hr.units) (pv 8) (pe_tup pa_nil) (nomark _)) (pss_one (ps_expr (pe_bm PySem.F.plainAttrs_list PySem.F.slot_list_append PySem.F.type_list_append mt_append (pv 5) (pa_cons (pe_lst (pa_cons (pe_call (ok_l_here55 T) (hr.mono (by decide)) (by rfl) T.g_l_here55 T.F_l_here55.kp (b_l_here55 T) .nil pass0 (pa_cons (pv 7) pa_nil)) (pa_cons pe_bl pa_nil))) pa_nil)))) pss_nil)
      (pss_one (ps_ret (pe_call (ok_l_same2 T) (hr.mono (by decide)) (by rfl) T.g_l_same T.F_l_same.kp (b_l_same T) .nil pass0 (pa_cons (pe_call (ok_l_pinned T) (hr.mono (by decide)) (by rfl) T.g_l_pinned T.F_l_pinned.kp (b_l_pinned T) .nil pass0 (pa_cons (pv 1) (pa_cons (pv 4) (pa_cons (pe_callTy call_tuple_of (by rfl) T.z_tuple (by decide +kernel) (pa_cons (pv 7) pa_nil)) pa_nil)))) (pa_cons (pv 8) pa_nil)))))))) pss_nil)
      (pss_cons (ps_set (i := 10) sc_l_pin_deed.nd rfl (Or.inl rfl) (pe_call (ok_l_draw T) (hr.mono (by decide)) (by rfl) T.g_l_draw T.F_l_draw.kp (b_l_draw T) .nil pass0 (pa_cons (pv 0) (pa_cons (pe_callB call_len (by rfl) T.z_len PySem.boot_len (pa_cons (pv 4) pa_nil)) pa_nil))))
      (pss_cons (ps_if (pt_cmpR op_eq (pv 6) pe_int (nomark _)) (pss_cons (ps_expr (pe_meth0 (pe_ix ix_seq (pv 4) (pv 10) (fun _ _ => rfl)) T.cl_Pin T.me_Pin_let_go (ok_Pin_let_go T) (hr.mono (by decide)) (b_Pin_let_go T) .nil pass0))
      (pss_cons (ps_asg (pe_lst (pa_cons pe_dnewK (pa_cons pe_bl pa_nil))) (pg_sub (pv 5) (pv 10) set_list))
      (pss_one (ps_ret pe_bl)))) pss_nil)
      (pss_cons (ps_set (i := 11) sc_l_pin_deed.nd rfl (Or.inl rfl) (pe_call (ok_l_name55 T) (hr.mono (by decide)) (by rfl) T.g_l_name55 T.F_l_name55.kp (b_l_name55 T) .nil pass0 (pa_cons (pv 0) (pa_cons (pv 2) pa_nil))))
      (pss_cons (ps_set (i := 8) sc_l_pin_deed.nd rfl (Or.inl rfl) (pe_call (ok_l_names_due T) (hr.mono (by decide)) (by rfl) T.g_l_names_due T.F_l_names_due.kp (b_l_names_due T) .nil pass0 (pa_cons (pv 2) (pa_cons (pv 3) (pa_cons (pe_lst (pa_cons (pv 11) pa_nil)) pa_nil)))))
      (pss_cons (ps_if (pt_not (pt_val (pe_ix ix_seq (pe_ix ix_seq (pv 5) (pv 10) (fun _ _ => rfl)) pe_int (fun _ _ => rfl)))) (pss_one (ps_set (i := 8) sc_l_pin_deed.nd rfl (Or.inl rfl) (pe_tup (pa_cons pe_str pa_nil)))) pss_nil)
      (pss_cons (ps_if (pt_cmpR (op_eqD hr.units) (pv 8) (pe_tup pa_nil) (nomark _)) (pss_one (ps_dput (hu_of hr) (pe_ix ix_seq (pe_ix ix_seq (pv 5) (pv 10) (fun _ _ => rfl)) pe_int (fun _ _ => rfl)) (pv 11) pe_bl rfl)) pss_nil)
      (pss_one (ps_ret (pe_call (ok_l_same2 T) (hr.mono (by decide)) (by rfl) T.g_l_same T.F_l_same.kp (b_l_same T) .nil pass0 (pa_cons (pe_call (ok_l_added T) (hr.mono (by decide)) (by rfl) T.g_l_added T.F_l_added.kp (b_l_added T) .nil pass0 (pa_cons (pe_ix ix_seq (pv 4) (pv 10) (fun _ _ => rfl)) (pa_cons (pv 11) pa_nil))) (pa_cons (pv 8) pa_nil)))))))))))))
theorem b_House_far (T : Tx K mg) : Binds K T.fd_House_far ["self"] [] := T.F_House_far.bindsN fun _ _ _ _ _ _ us hl => match us, hl with | [_], _ => rfl
theorem ok_House_far (T : Tx K mg) : FnOk P HasW.w K mg base CX0 1 (He.fAd K ("House", some "far")) T.fd_House_far ["self"] (sp_House_far K) := by
  refine T.F_House_far.ok sc_House_far (fun vs H Q E h => len_House_far h) (fun cdv A outer s H vs Q E hr h => ⟨t_House_far K, PSs.nox ?_, pure_House_far h⟩)
  exact (pss_one (ps_ret (pe_lc (own := [("label", 1), ("mark", 2)]) (g := (gTup K 2 (gCons (gName 1) (gCons (gName 2) gNil)))) (tt := tYes) (te := (tTup (tCons (tVar 1) (tCons (tVar 2) (tCons (tDGet (tFld K (tVar 0) "far_standing") (tTup (tCons (tVar 1) (tCons (tVar 2) tNil)))) tNil))))) rfl sc_House_far.nd (pi_list (pe_callB (cr_sortedPP rfl hr.units) (by rfl) T.z_sorted (by decide +kernel) (pa_cons (pe_fld (pv 0) rfl) pa_nil))) (blkOk_by (own := [("label", 1), ("mark", 2)]) (N := N_House_far) (sc := defScope s_House_far) (by decide +kernel)) (fun _ _ _ _ _ => (pg_tup rfl (pgs_cons (pg_name (i := 1) sc_House_far.nd rfl (Or.inl rfl)) (pgs_cons (pg_name (i := 2) sc_House_far.nd rfl (Or.inl rfl)) pgs_nil)))) (fun _ _ _ _ _ => pts_nil) (fun _ _ _ _ _ => (pe_tup (pa_cons (pv 1) (pa_cons (pv 2) (pa_cons (pe_dget (hu_of hr) (pe_fld (pv 0) rfl) (pe_tup (pa_cons (pv 1) (pa_cons (pv 2) pa_nil))) (fun _ _ => rfl)) pa_nil))))))))
theorem b_Pin_names (T : Tx K mg) : Binds K T.fd_Pin_names ["self"] [] := T.F_Pin_names.bindsN fun _ _ _ _ _ _ us hl => match us, hl with | [_], _ => rfl
theorem ok_Pin_names (T : Tx K mg) : FnOk P HasW.w K mg base CX0 1 (He.fAd K ("Pin", some "names")) T.fd_Pin_names ["self"] (sp_Pin_names K) := by
  refine T.F_Pin_names.ok sc_Pin_names (fun vs H Q E h => len_Pin_names h) (fun cdv A outer s H vs Q E hr h => ⟨t_Pin_names K, PSs.nox ?_, pure_Pin_names h⟩)
  exact (pss_one (ps_ret (pe_callB (cr_sortedK rfl) (by rfl) T.z_sorted (by decide +kernel) (pa_cons (pe_fld (pv 0) rfl) pa_nil))))
theorem b_House_roots (T : Tx K mg) : Binds K T.fd_House_roots ["self"] [] := T.F_House_roots.bindsN fun _ _ _ _ _ _ us hl => match us, hl with | [_], _ => rfl
theorem ok_House_roots (T : Tx K mg) : FnOk P HasW.w K mg base CX0 2 (He.fAd K ("House", some "roots")) T.fd_House_roots ["self"] (sp_House_roots K) := by
  refine T.F_House_roots.ok sc_House_roots (fun vs H Q E h => len_House_roots h) (fun cdv A outer s H vs Q E hr h => ⟨t_House_roots K, PSs.nox ?_, pure_House_roots h⟩)
  exact (pss_cons (ps_lock (ps_setLc (i := 1) (own := [("mark", 2)]) (g := (gName 2)) (tt := tYes) (te := (tDGet (tFld K (tVar 0) "standing") (tVar 2))) rfl sc_House_roots.nd rfl rfl (sw_true rfl rfl rfl (by decide +kernel)) (pi_keys (pe_fld (pv 0) rfl)) (blkOk_by (own := [("mark", 2)]) (N := N_House_roots) (sc := defScope s_House_roots) (by decide +kernel)) (fun _ _ _ _ _ => (pg_name (i := 2) sc_House_roots.nd rfl (Or.inl rfl))) (fun _ _ _ _ _ => pts_nil) (fun _ _ _ _ _ => (pe_dget (hu_of hr) (pe_fld (pv 0) rfl) (pv 2) (fun _ _ => rfl)))))
      (pss_cons (ps_expr (pe_bm PySem.F.plainAttrs_list PySem.F.slot_list_extend PySem.F.type_list_extend mt_extendA (pv 1) (pa_cons (pe_lock (pe_lc (own := [("pair", 3)]) (g := (gName 3)) (tt := tYes) (te := (tDGet (tFld K (tVar 0) "far_standing") (tVar 3))) rfl sc_House_roots.nd (pi_keys (pe_fld (pv 0) rfl)) (blkOk_by (own := [("pair", 3)]) (N := N_House_roots) (sc := defScope s_House_roots) (by decide +kernel)) (fun _ _ _ _ _ => (pg_name (i := 3) sc_House_roots.nd rfl (Or.inl rfl))) (fun _ _ _ _ _ => pts_nil) (fun _ _ _ _ _ => (pe_dget (hu_of hr) (pe_fld (pv 0) rfl) (pv 3) (fun _ _ => rfl))))) pa_nil)))
      (pss_cons (ps_expr (pe_bm PySem.F.plainAttrs_list PySem.F.slot_list_extend PySem.F.type_list_extend mt_extendA (pv 1) (pa_cons (pe_lc2 (own := [("pin", 4), ("name", 5)]) (vs1 := [5]) (g := (gName 4)) (tt := tYes) (g1 := (gName 5)) (tt1 := tYes) (te := (tVar 5)) rfl sc_House_roots.nd (pi_list (pe_fld (pv 0) rfl)) (blkOk_by (own := [("pin", 4), ("name", 5)]) (N := N_House_roots) (sc := defScope s_House_roots) (by decide +kernel)) (by decide) (fun _ _ _ _ _ => (pg_name (i := 4) sc_House_roots.nd rfl (Or.inl rfl))) (fun _ _ _ _ _ => pts_nil) (fun _ _ _ _ _ => (pi_list (pe_meth0 (pv 4) T.cl_Pin T.me_Pin_names (ok_Pin_names T) (hr.mono (by decide)) (b_Pin_names T) .nil pass0))) (fun _ _ _ _ _ => (pg_name (i := 5) sc_House_roots.nd rfl (Or.inl rfl))) (fun _ _ _ _ _ => pts_nil) (fun _ _ _ _ _ => (pv 5))) pa_nil)))
      (pss_one (ps_ret (pe_sortSetA rfl (by rfl) T.z_sorted (by rfl) T.z_set (pv 1)))))))
theorem b_Pin_len (T : Tx K mg) : Binds K T.fd_Pin_len ["self"] [] := T.F_Pin_len.bindsN fun _ _ _ _ _ _ us hl => match us, hl with | [_], _ => rfl
theorem ok_Pin_len (T : Tx K mg) : FnOk P HasW.w K mg base CX0 1 (He.fAd K ("Pin", some "__len__")) T.fd_Pin_len ["self"] (sp_Pin_len K) := by
  refine T.F_Pin_len.ok sc_Pin_len (fun vs H Q E h => len_Pin_len h) (fun cdv A outer s H vs Q E hr h => ⟨t_Pin_len K, PSs.nox ?_, pure_Pin_len h⟩)
  exact (pss_one (ps_ret (pe_callB call_lenD (by rfl) T.z_len (by decide +kernel) (pa_cons (pe_fld (pv 0) rfl) pa_nil))))
theorem b_l_roots55 (T : Tx K mg) : Binds K T.fd_l_roots55 ["_law_far", "_law_ons"] [] := T.F_l_roots55.bindsN fun _ _ _ _ _ _ us hl => match us, hl with | [_, _], _ => rfl
theorem ok_l_roots55 (T : Tx K mg) : FnOk P HasW.w K mg base CX0 1 (He.fAd K ("_law_roots", none)) T.fd_l_roots55 ["_law_far", "_law_ons"] (sp_l_roots55 K) := by
  refine T.F_l_roots55.ok sc_l_roots55 (fun vs H Q E h => len_l_roots55 h) (fun cdv A outer s H vs Q E hr h => ⟨t_l_roots55 K, PSs.nox ?_, pure_l_roots55 h⟩)
  exact (pss_cons (ps_set (i := 2) sc_l_roots55.nd rfl (Or.inl rfl) pe_dnewK)
      (pss_cons (ps_lock (ps_for PassesOwn.never rfl (pi_keys (pv 0)) (pg_name (i := 3) sc_l_roots55.nd rfl (Or.inl rfl)) (pss_one (ps_dput (hu_of hr) (pv 2) (pe_dget (hu_of hr) (pv 0) (pv 3) (fun _ _ => rfl)) pe_bl rfl))))
      (pss_cons (ps_for PassesOwn.never rfl (pi_list (pv 1)) (pg_name (i := 4) sc_l_roots55.nd rfl (Or.inl rfl)) (pss_one (ps_lock (ps_for PassesOwn.never rfl (pi_keys (pe_ix ix_seq (pv 4) pe_int (fun _ _ => rfl))) (pg_name (i := 5) sc_l_roots55.nd rfl (Or.inl rfl)) (pss_one (ps_dput (hu_of hr) (pv 2) (pv 5) pe_bl rfl))))))
      (pss_one (ps_ret (pe_callB (cr_sortedK rfl) (by rfl) T.z_sorted (by decide +kernel) (pa_cons (pv 2) pa_nil)))))))
theorem b_l_pins_right (T : Tx K mg) : Binds K T.fd_l_pins_right ["_law_deck_here", "_law_house_here", "_law_pins", "_law_ons", "_law_far"] [] := T.F_l_pins_right.bindsN fun _ _ _ _ _ _ us hl => match us, hl with | [_, _, _, _, _], _ => rfl
theorem ok_l_pins_right (T : Tx K mg) : FnOk P HasW.w K mg base CX0 9 (He.fAd K ("_law_pins_right", none)) T.fd_l_pins_right ["_law_deck_here", "_law_house_here", "_law_pins", "_law_ons", "_law_far"] (sp_l_pins_right K) := by
  refine T.F_l_pins_right.ok sc_l_pins_right (fun vs H Q E h => len_l_pins_right h) (fun cdv A outer s H vs Q E hr h => ⟨t_l_pins_right K, PSs.nox ?_, pure_l_pins_right h⟩)
  exact (pss_cons (ps_set (i := 5) sc_l_pins_right.nd rfl (Or.inl rfl) (pe_call (ok_l_draw T) (hr.mono (by decide)) (by rfl) T.g_l_draw T.F_l_draw.kp (b_l_draw T) .nil pass0 (pa_cons (pv 0) (pa_cons pe_int pa_nil))))
      (pss_cons (ps_if (PW.pt (pw_and (pt_cmpR op_eq (pv 5) pe_int (nomark _)) (pw_and1 (pt_not (pt_val (pe_call (ok_l_same2 T) (hr.mono (by decide)) (by rfl) T.g_l_same T.F_l_same.kp (b_l_same T) .nil pass0 (pa_cons (pe_meth0 (pv 1) T.cl_House T.me_House_roots (ok_House_roots T) (hr.mono (by decide)) (b_House_roots T) .nil pass0) (pa_cons (pe_call (ok_l_roots55 T) (hr.mono (by decide)) (by rfl) T.g_l_roots55 T.F_l_roots55.kp (b_l_roots55 T) .nil pass0 (pa_cons (pv 4) (pa_cons (pv 3) pa_nil))) pa_nil)))))))) (pss_one (ps_ret pe_bl)) pss_nil)
      (pss_cons (ps_for PassesOwn.never rfl (pi_range1 (by rfl) T.z_range (pa_cons (pe_callB call_len (by rfl) T.z_len PySem.boot_len (pa_cons (pv 3) pa_nil)) pa_nil)) (pg_name (i := 6) sc_l_pins_right.nd rfl (Or.inl rfl)) (pss_cons (ps_set (i := 7) sc_l_pins_right.nd rfl (Or.inl rfl) (pe_callB (cr_sortedK rfl) (by rfl) T.z_sorted (by decide +kernel) (pa_cons (pe_ix ix_seq (pe_ix ix_seq (pv 3) (pv 6) (fun _ _ => rfl)) pe_int (fun _ _ => rfl)) pa_nil)))
      (pss_cons (ps_if (PW.pt (pw_or (pt_not (pt_val (pe_call (ok_l_same2 T) (hr.mono (by decide)) (by rfl) T.g_l_same T.F_l_same.kp (b_l_same T) .nil pass0 (pa_cons (pe_meth0 (pe_ix ix_seq (pv 2) (pv 6) (fun _ _ => rfl)) T.cl_Pin T.me_Pin_names (ok_Pin_names T) (hr.mono (by decide)) (b_Pin_names T) .nil pass0) (pa_cons (pv 7) pa_nil))))) (pw_or1 (pt_not (pt_val (pe_call (ok_l_same2 T) (hr.mono (by decide)) (by rfl) T.g_l_same T.F_l_same.kp (b_l_same T) .nil pass0 (pa_cons (pe_callB (call_lenC (ok_Pin_len T) T.me_Pin_len (hr.mono (by decide)) (b_Pin_len T) pass0) (by rfl) T.z_len PySem.boot_len (pa_cons (pe_ix ix_seq (pv 2) (pv 6) (fun _ _ => rfl)) pa_nil)) (pa_cons (pe_callB call_len (by rfl) T.z_len PySem.boot_len (pa_cons (pv 7) pa_nil)) pa_nil)))))))) (pss_one (ps_ret pe_bl)) pss_nil)
      (pss_one (ps_expr (pe_bm PySem.F.plainAttrs_list PySem.F.slot_list_append PySem.F.type_list_append mt_append (pe_meth0 (pe_ix ix_seq (pv 2) (pv 6) (fun _ _ => rfl)) T.cl_Pin T.me_Pin_names (ok_Pin_names T) (hr.mono (by decide)) (b_Pin_names T) .nil pass0) (pa_cons pe_int pa_nil)))))))
      (pss_cons (ps_expr (pe_bm0 PySem.F.plainAttrs_list PySem.F.slot_list_clear PySem.F.type_list_clear mt_clear (pe_meth0 (pv 1) T.cl_House T.me_House_far (ok_House_far T) (hr.mono (by decide)) (b_House_far T) .nil pass0)))
      (pss_cons (ps_expr (pe_bm PySem.F.plainAttrs_list PySem.F.slot_list_append PySem.F.type_list_append mt_append (pe_meth0 (pv 1) T.cl_House T.me_House_roots (ok_House_roots T) (hr.mono (by decide)) (b_House_roots T) .nil pass0) (pa_cons pe_int pa_nil)))
      (pss_cons (ps_setLc (i := 8) (own := [("_law_key", 9)]) (g := (gName 9)) (tt := tYes) (te := (tTup (tCons (tOp (rIx K) (tVar 9) (tC (.int 0))) (tCons (tOp (rIx K) (tVar 9) (tC (.int 1))) (tCons (tDGet (tVar 4) (tVar 9)) tNil))))) rfl sc_l_pins_right.nd rfl rfl (sw_true rfl rfl rfl (by decide +kernel)) (pi_list (pe_callB (cr_sortedPP rfl hr.units) (by rfl) T.z_sorted (by decide +kernel) (pa_cons (pv 4) pa_nil))) (blkOk_by (own := [("_law_key", 9)]) (N := N_l_pins_right) (sc := defScope s_l_pins_right) (by decide +kernel)) (fun _ _ _ _ _ => (pg_name (i := 9) sc_l_pins_right.nd rfl (Or.inl rfl))) (fun _ _ _ _ _ => pts_nil) (fun _ _ _ _ _ => (pe_tup (pa_cons (pe_ix ix_seq (pv 9) pe_int (fun _ _ => rfl)) (pa_cons (pe_ix ix_seq (pv 9) pe_int (fun _ _ => rfl)) (pa_cons (pe_dget (hu_of hr) (pv 4) (pv 9) (fun _ _ => rfl)) pa_nil))))))
      (pss_one (ps_ret (pe_and (pe_call (ok_l_same2 T) (hr.mono (by decide)) (by rfl) T.g_l_same T.F_l_same.kp (b_l_same T) .nil pass0 (pa_cons (pe_meth0 (pv 1) T.cl_House T.me_House_far (ok_House_far T) (hr.mono (by decide)) (b_House_far T) .nil pass0) (pa_cons (pv 8) pa_nil))) (pe_one (pe_call (ok_l_same2 T) (hr.mono (by decide)) (by rfl) T.g_l_same T.F_l_same.kp (b_l_same T) .nil pass0 (pa_cons (pe_meth0 (pv 1) T.cl_House T.me_House_roots (ok_House_roots T) (hr.mono (by decide)) (b_House_roots T) .nil pass0) (pa_cons (pe_call (ok_l_roots55 T) (hr.mono (by decide)) (by rfl) T.g_l_roots55 T.F_l_roots55.kp (b_l_roots55 T) .nil pass0 (pa_cons (pv 4) (pa_cons (pv 3) pa_nil))) pa_nil)))))))))))))
theorem b_l_give (T : Tx K mg) : Binds K T.fd_l_give ["_law_things", "_law_content"] [] := T.F_l_give.bindsN fun _ _ _ _ _ _ us hl => match us, hl with | [_, _], _ => rfl
theorem ok_l_give (T : Tx K mg) : FnOk P HasW.w K mg base CX0 1 (He.fAd K ("_law_give", none)) T.fd_l_give ["_law_things", "_law_content"] (sp_l_give K) := by
  refine T.F_l_give.ok sc_l_give (fun vs H Q E h => len_l_give h) (fun cdv A outer s H vs Q E hr h => ⟨t_l_give K, PSs.nox ?_, pure_l_give h⟩)
  exact (pss_cons (ps_if (pt_cmpR (op_inD (units65b hr)) (pv 1) (pv 0) (by rfl)) (pss_one (ps_ret (pe_bm PySem.F.plainAttrs_list PySem.F.slot_list_index PySem.F.type_list_index (mt_indexD (units65b hr)) (pv 0) (pa_cons (pv 1) pa_nil)))) pss_nil)
      (pss_cons (ps_expr (pe_bm PySem.F.plainAttrs_list PySem.F.slot_list_append PySem.F.type_list_append mt_append (pv 0) (pa_cons (pv 1) pa_nil)))
      (pss_one (ps_ret (pe_op op_sub (pe_callB call_len (by rfl) T.z_len PySem.boot_len (pa_cons (pv 0) pa_nil)) pe_int)))))
theorem b_l_some (T : Tx K mg) : Binds K T.fd_l_some ["_law_deck_here", "_law_names", "_law_count"] [] := T.F_l_some.bindsN fun _ _ _ _ _ _ us hl => match us, hl with | [_, _, _], _ => rfl
theorem ok_l_some (T : Tx K mg) : FnOk P HasW.w K mg base CX0 3 (He.fAd K ("_law_some", none)) T.fd_l_some ["_law_deck_here", "_law_names", "_law_count"] (sp_l_some K) := by
  refine T.F_l_some.ok sc_l_some (fun vs H Q E h => len_l_some h) (fun cdv A outer s H vs Q E hr h => ⟨t_l_some K, PSs.nox ?_, pure_l_some h⟩)
  exact (pss_cons (ps_set (i := 3) sc_l_some.nd rfl (Or.inl rfl) (pe_lst pa_nil))
      (pss_cons (ps_for PassesOwn.never rfl (pi_range1 (by rfl) T.z_range (pa_cons (pe_callB (call_min2 rfl) (by rfl) T.z_min (by decide +kernel) (pa_cons (pv 2) (pa_cons (pe_callB call_len (by rfl) T.z_len PySem.boot_len (pa_cons (pv 1) pa_nil)) pa_nil))) pa_nil)) (pg_name (i := 4) sc_l_some.nd rfl (Or.inl rfl)) (pss_one (ps_expr (pe_bm PySem.F.plainAttrs_list PySem.F.slot_list_append PySem.F.type_list_append mt_append (pv 3) (pa_cons (pe_ix ix_seq (pv 1) (pe_call (ok_l_draw T) (hr.mono (by decide)) (by rfl) T.g_l_draw T.F_l_draw.kp (b_l_draw T) .nil pass0 (pa_cons (pv 0) (pa_cons (pe_callB call_len (by rfl) T.z_len PySem.boot_len (pa_cons (pv 1) pa_nil)) pa_nil))) (fun _ _ => rfl)) pa_nil)))))
      (pss_one (ps_ret (pe_callTy call_tuple_of (by rfl) T.z_tuple (by decide +kernel) (pa_cons (pe_sortSet rfl (by rfl) T.z_sorted (by rfl) T.z_set (pv 3)) pa_nil))))))
theorem b_l_scene (T : Tx K mg) : Binds K T.fd_l_scene ["_law_deck_here", "_law_most"] [] := T.F_l_scene.bindsN fun _ _ _ _ _ _ us hl => match us, hl with | [_, _], _ => rfl
theorem ok_l_scene (T : Tx K mg) : FnOk P HasW.w K mg base CX0 4 (He.fAd K ("_law_scene", none)) T.fd_l_scene ["_law_deck_here", "_law_most"] (sp_l_scene K) := by
  refine T.F_l_scene.ok sc_l_scene (fun vs H Q E h => len_l_scene h) (fun cdv A outer s H vs Q E hr h => ⟨t_l_scene K, PSs.nox ?_, pure_l_scene h⟩)
  exact (pss_cons (ps_set (i := 2) sc_l_scene.nd rfl (Or.inl rfl) (pe_call (ok_l_draw T) (hr.mono (by decide)) (by rfl) T.g_l_draw T.F_l_draw.kp (b_l_draw T) .nil pass0 (pa_cons (pv 0) (pa_cons pe_int pa_nil))))
      (pss_cons (ps_set (i := 3) sc_l_scene.nd rfl (Or.inr rfl) (pe_lst (pa_cons (pe_tup (pa_cons pe_str (pa_cons (pe_tup pa_nil) pa_nil))) (pa_cons (pe_tup (pa_cons pe_str (pa_cons (pe_tup (pa_cons (pe_tup (pa_cons pe_str (pa_cons pe_int pa_nil))) pa_nil)) pa_nil))) pa_nil))))
      (pss_cons (ps_for PassesOwn.never rfl (pi_range1 (by rfl) T.z_range (pa_cons (pe_op op_add pe_int (pe_call (ok_l_draw T) (hr.mono (by decide)) (by rfl) T.g_l_draw T.F_l_draw.kp (b_l_draw T) .nil pass0 (pa_cons (pv 0) (pa_cons (pv 1) pa_nil)))) pa_nil)) (pg_name (i := 4) sc_l_scene.nd rfl (Or.inl rfl)) (pss_cons (ps_set (i := 5) sc_l_scene.nd rfl (Or.inl rfl) (pe_call (ok_l_some T) (hr.mono (by decide)) (by rfl) T.g_l_some T.F_l_some.kp (b_l_some T) .nil pass0 (pa_cons (pv 0) (pa_cons (pe_listRg rfl (by rfl) T.z_list (prg_2 (by rfl) T.z_range pe_int (pe_callB call_len (by rfl) T.z_len PySem.boot_len (pa_cons (pv 3) pa_nil)))) (pa_cons (pe_call (ok_l_draw T) (hr.mono (by decide)) (by rfl) T.g_l_draw T.F_l_draw.kp (b_l_draw T) .nil pass0 (pa_cons (pv 0) (pa_cons pe_int pa_nil))) pa_nil)))))
      (pss_one (ps_expr (pe_call (ok_l_give T) (hr.mono (by decide)) (by rfl) T.g_l_give T.F_l_give.kp (b_l_give T) .nil pass0 (pa_cons (pv 3) (pa_cons (pe_tup (pa_cons pe_str (pa_cons (pv 5) (pa_cons pe_int (pa_cons (pe_call (ok_l_draw T) (hr.mono (by decide)) (by rfl) T.g_l_draw T.F_l_draw.kp (b_l_draw T) .nil pass0 (pa_cons (pv 0) (pa_cons (pe_op op_add (pe_op op_pow pe_int pe_int) pe_int) pa_nil))) pa_nil))))) pa_nil)))))))
      (pss_cons (ps_set (i := 6) sc_l_scene.nd rfl (Or.inl rfl) (pe_listRg rfl (by rfl) T.z_list (prg_1 (by rfl) T.z_range (pe_callB call_len (by rfl) T.z_len PySem.boot_len (pa_cons (pv 3) pa_nil)))))
      (pss_cons (ps_if (pt_cmpR op_eq (pv 2) pe_int (nomark _)) (pss_one (ps_setLc (i := 7) (own := [("_law_name_here", 9)]) (g := (gName 9)) (tt := (tTest (tOp rEq (tCall (sp_l_draw K) [] E0 (tCons (tVar 0) (tCons (tC (.int 2)) tNil))) (tC (.int 1))))) (te := (tVar 9)) rfl sc_l_scene.nd rfl rfl (sw_true rfl rfl rfl (by decide +kernel)) (pi_list (pv 6)) (blkOk_by (own := [("_law_name_here", 9)]) (N := N_l_scene) (sc := defScope s_l_scene) (by decide +kernel)) (fun _ _ _ _ _ => (pg_name (i := 9) sc_l_scene.nd rfl (Or.inl rfl))) (fun _ _ _ _ _ => (pts_one (pt_cmpR op_eq (pe_call (ok_l_draw T) (hr.mono (by decide)) (by rfl) T.g_l_draw T.F_l_draw.kp (b_l_draw T) .nil pass0 (pa_cons (pv 0) (pa_cons pe_int pa_nil))) pe_int (nomark _)))) (fun _ _ _ _ _ => (pv 9)))) (pss_cons (ps_set (i := 8) sc_l_scene.nd rfl (Or.inr rfl) (pe_lc (own := [("_law_k", 4)]) (g := (gName 4)) (tt := tYes) (te := (tCall (sp_l_draw K) [] E0 (tCons (tVar 0) (tCons (tOp rMulI (tC (.int 2)) (tCB (fLen K) (tCons (tVar 3) tNil))) tNil)))) rfl sc_l_scene.nd (pi_range1 (by rfl) T.z_range (pa_cons (pe_call (ok_l_draw T) (hr.mono (by decide)) (by rfl) T.g_l_draw T.F_l_draw.kp (b_l_draw T) .nil pass0 (pa_cons (pv 0) (pa_cons pe_int pa_nil))) pa_nil)) (blkOk_by (own := [("_law_k", 4)]) (N := N_l_scene) (sc := defScope s_l_scene) (by decide +kernel)) (fun _ _ _ _ _ => (pg_name (i := 4) sc_l_scene.nd rfl (Or.inl rfl))) (fun _ _ _ _ _ => pts_nil) (fun _ _ _ _ _ => (pe_call (ok_l_draw T) (hr.mono (by decide)) (by rfl) T.g_l_draw T.F_l_draw.kp (b_l_draw T) .nil pass0 (pa_cons (pv 0) (pa_cons (pe_op op_mul pe_int (pe_callB call_len (by rfl) T.z_len PySem.boot_len (pa_cons (pv 3) pa_nil))) pa_nil))))))
      (pss_one (ps_setLc (i := 7) (own := [("_law_name_here", 9)]) (g := (gName 9)) (tt := (tTest (tOp (rIn K true) (tVar 9) (tVar 8)))) (te := (tVar 9)) rfl sc_l_scene.nd rfl rfl (sw_true rfl rfl rfl (by decide +kernel)) (pi_list (pv 6)) (blkOk_by (own := [("_law_name_here", 9)]) (N := N_l_scene) (sc := defScope s_l_scene) (by decide +kernel)) (fun _ _ _ _ _ => (pg_name (i := 9) sc_l_scene.nd rfl (Or.inl rfl))) (fun _ _ _ _ _ => (pts_one (pt_cmpR op_notIn_seq (pv 9) (pv 8) (by rfl)))) (fun _ _ _ _ _ => (pv 9))))))
      (pss_cons (ps_expr (pe_bm PySem.F.plainAttrs_list PySem.F.slot_list_append PySem.F.type_list_append mt_append (pv 7) (pa_cons (pe_op op_add pe_int (pe_call (ok_l_draw T) (hr.mono (by decide)) (by rfl) T.g_l_draw T.F_l_draw.kp (b_l_draw T) .nil pass0 (pa_cons (pv 0) (pa_cons (pe_op op_sub (pe_callB call_len (by rfl) T.z_len PySem.boot_len (pa_cons (pv 3) pa_nil)) pe_int) pa_nil)))) pa_nil)))
      (pss_one (ps_ret (pe_tup (pa_cons (pv 3) (pa_cons (pe_sortSet rfl (by rfl) T.z_sorted (by rfl) T.z_set (pv 7)) pa_nil)))))))))))
theorem ok_law (T : Tx K mg) : FnOk P HasW.w K mg base CX0 10 (He.fAd K ("law", none)) T.fd_law ["_law_script"] (sp_law K) := by
  refine T.F_law.ok sc_law (fun vs H Q E h => len_law h) (fun cdv A outer s H vs Q E hr h => ⟨t_law K, PSs.nox ?_, pure_law T.k55 h⟩)
  exact (pss_cons (ps_set (i := 1) sc_law.nd rfl (Or.inl rfl) (pe_call (ok_l_deck T) (hr.mono (by decide)) (by rfl) T.g_l_deck T.F_l_deck.kp (b_l_deck T) .nil pass0 (pa_cons (pv 0) pa_nil)))
      (pss_cons (ps_asg (pe_call (ok_l_scene T) (hr.mono (by decide)) (by rfl) T.g_l_scene T.F_l_scene.kp (b_l_scene T) .nil pass0 (pa_cons (pv 1) (pa_cons pe_int pa_nil))) (pg_tup rfl (pgs_cons (pg_name (i := 2) sc_law.nd rfl (Or.inl rfl)) (pgs_cons (pg_name (i := 3) sc_law.nd rfl (Or.inl rfl)) pgs_nil))))
      (pss_cons (ps_set (i := 4) sc_law.nd rfl (Or.inl rfl) (pe_call (ok_l_here55 T) (hr.mono (by decide)) (by rfl) T.g_l_here55 T.F_l_here55.kp (b_l_here55 T) .nil pass0 (pa_cons (pv 3) pa_nil)))
      (pss_cons (ps_set (i := 5) sc_law.nd rfl (Or.inl rfl) (pe_call (ok_l_house55 T) (hr.mono (by decide)) (by rfl) T.g_l_house55 T.F_l_house55.kp (b_l_house55 T) .nil pass0 (pa_cons (pe_call (ok_l_book T) (hr.mono (by decide)) (by rfl) T.g_l_book T.F_l_book.kp (b_l_book T) .nil pass0 (pa_cons (pv 2) pa_nil)) (pa_cons (pv 3) pa_nil))))
      (pss_cons (ps_set (i := 6) sc_law.nd rfl (Or.inl rfl) (pe_lst pa_nil))
      (pss_cons (ps_set (i := 7) sc_law.nd rfl (Or.inl rfl) (pe_lst pa_nil))
      (pss_cons (ps_set (i := 8) sc_law.nd rfl (Or.inl rfl) pe_dnewT)
      (pss_cons (ps_for PassesOwn.never rfl (pi_range1 (by rfl) T.z_range (pa_cons (pe_op op_add pe_int (pe_callB (call_min2 rfl) (by rfl) T.z_min (by decide +kernel) (pa_cons (pe_callB call_len (by rfl) T.z_len PySem.boot_len (pa_cons (pv 0) pa_nil)) (pa_cons pe_int pa_nil)))) pa_nil)) (pg_name (i := 9) sc_law.nd rfl (Or.inl rfl)) (pss_cons (ps_set (i := 10) sc_law.nd rfl (Or.inl rfl) (pe_call (ok_l_draw T) (hr.mono (by decide)) (by rfl) T.g_l_draw T.F_l_draw.kp (b_l_draw T) .nil pass0 (pa_cons (pv 1) (pa_cons pe_int pa_nil))))
      (pss_cons (ps_set (i := 11) sc_law.nd rfl (Or.inl rfl) pe_bl)
      (pss_cons (ps_if (pt_cmpR op_lt (pv 10) pe_int (nomark _)) (pss_one (ps_set (i := 11) sc_law.nd rfl (Or.inl rfl) (pe_call (ok_l_pin_deed T) (hr.mono (by decide)) (by rfl) T.g_l_pin_deed T.F_l_pin_deed.kp (b_l_pin_deed T) .nil pass0 (pa_cons (pv 1) (pa_cons (pv 5) (pa_cons (pv 2) (pa_cons (pv 4) (pa_cons (pv 6) (pa_cons (pv 7) pa_nil))))))))) (pss_one (ps_if (pt_cmpR op_lt (pv 10) pe_int (nomark _)) (pss_one (ps_set (i := 11) sc_law.nd rfl (Or.inl rfl) (pe_call (ok_l_far_deed T) (hr.mono (by decide)) (by rfl) T.g_l_far_deed T.F_l_far_deed.kp (b_l_far_deed T) .nil pass0 (pa_cons (pv 1) (pa_cons (pv 5) (pa_cons (pv 2) (pa_cons (pv 4) (pa_cons (pv 8) pa_nil)))))))) pss_nil)))
      (pss_cons (ps_if (pt_not (pt_val (pv 11))) (pss_one (ps_ret pe_bl)) pss_nil)
      (pss_cons (ps_if (pt_cmpR op_eq (pv 10) pe_int (nomark _)) (pss_cons (ps_set (i := 12) sc_law.nd rfl (Or.inl rfl) (pe_call (ok_l_draw T) (hr.mono (by decide)) (by rfl) T.g_l_draw T.F_l_draw.kp (b_l_draw T) .nil pass0 (pa_cons (pv 1) (pa_cons (pe_callB call_len (by rfl) T.z_len PySem.boot_len (pa_cons (pv 2) pa_nil)) pa_nil))))
      (pss_cons (ps_if (pt_not (pt_val (pe_call (ok_l_same2 T) (hr.mono (by decide)) (by rfl) T.g_l_same T.F_l_same.kp (b_l_same T) .nil pass0 (pa_cons (pe_meth (pv 5) T.cl_House T.mi_House_put (ok_House_put T) (hr.mono (by decide)) (b_House_put T) .nil pass0 (pa_cons (pv 12) pa_nil)) (pa_cons (pe_cmp (pc_dnotin (hu_of hr) (pv 12) (pv 4)) rfl) pa_nil))))) (pss_one (ps_ret pe_bl)) pss_nil)
      (pss_one (ps_dput (hu_of hr) (pv 4) (pv 12) pe_bl rfl)))) pss_nil)
      (pss_one (ps_if (pt_not (pt_val (pe_call (ok_l_pins_right T) (hr.mono (by decide)) (by rfl) T.g_l_pins_right T.F_l_pins_right.kp (b_l_pins_right T) .nil pass0 (pa_cons (pv 1) (pa_cons (pv 5) (pa_cons (pv 6) (pa_cons (pv 7) (pa_cons (pv 8) pa_nil)))))))) (pss_one (ps_ret pe_bl)) pss_nil))))))))
      (pss_one (ps_ret (pe_and (pe_call (ok_l_same2 T) (hr.mono (by decide)) (by rfl) T.g_l_same T.F_l_same.kp (b_l_same T) .nil pass0 (pa_cons (pe_meth0 (pv 5) T.cl_House T.me_House_marks (ok_House_marks T) (hr.mono (by decide)) (b_House_marks T) .nil pass0) (pa_cons (pe_lst pa_nil) pa_nil))) (pe_one (pe_call (ok_l_same2 T) (hr.mono (by decide)) (by rfl) T.g_l_same T.F_l_same.kp (b_l_same T) .nil pass0 (pa_cons (pe_meth0 (pv 5) T.cl_House T.mi_House_held (ok_House_held T) (hr.mono (by decide)) (b_House_held T) .nil pass0) (pa_cons (pe_callB (cr_sortedK rfl) (by rfl) T.z_sorted (by decide +kernel) (pa_cons (pv 4) pa_nil)) pa_nil)))))))))))))))
end
theorem facts {P : Program} {w : World} {K : PySem.W.Frag} {h : Heap} {mg : Str → Option Value} {f : Addr} (X : K.In h) (G : h.Ns mainGlobals mg) (hfa : mg ("law" : Str) = some (.ref f)) (c : He.SaysD fa fn K) (m : Fw.k55B K = true) :
    ∃ fd : FuncData, (∀ (s : Shared) (v : Value), BindsTo s fd ⟨[v], []⟩ [("_law_script", v)]) ∧ ∀ base : Heap, K.In base → base.Ns mainGlobals mg → FnOk P w K mg base CX0 10 f fd ["_law_script"] (sp_law K) := by
  obtain ⟨fd0, F0⟩ := c.def_ 0 (d := d_House_marks) rfl
  obtain ⟨fd1, F1⟩ := c.def_ 1 (d := d_House_held) rfl
  obtain ⟨fd2, F2⟩ := c.def_ 2 (d := d_is_int) rfl
  obtain ⟨fd3, F3⟩ := c.def_ 3 (d := d_Book_is_name) rfl
  obtain ⟨fd4, F4⟩ := c.def_ 4 (d := d_House_put) rfl
  obtain ⟨fd5, F5⟩ := c.def_ 5 (d := d_Book_init) rfl
  obtain ⟨fd6, F6⟩ := c.def_ 6 (d := d_Book_depth) rfl
  obtain ⟨fd7, F7⟩ := c.def_ 7 (d := d_Book_give_next) rfl
  obtain ⟨fd8, F8⟩ := c.def_ 8 (d := d_Book_has_kinds) rfl
  obtain ⟨fd9, F9⟩ := c.def_ 9 (d := d_is_label) rfl
  obtain ⟨fd10, F10⟩ := c.def_ 10 (d := d_is_pair) rfl
  obtain ⟨fd11, F11⟩ := c.def_ 11 (d := d_is_entry) rfl
  obtain ⟨fd12, F12⟩ := c.def_ 12 (d := d_rises) rfl
  obtain ⟨fd13, F13⟩ := c.def_ 13 (d := d_is_entries) rfl
  obtain ⟨fd14, F14⟩ := c.def_ 14 (d := d_is_sign) rfl
  obtain ⟨fd15, F15⟩ := c.def_ 15 (d := d_is_text) rfl
  obtain ⟨fd16, F16⟩ := c.def_ 16 (d := d_is_row) rfl
  obtain ⟨fd17, F17⟩ := c.def_ 17 (d := d_is_rows) rfl
  obtain ⟨fd18, F18⟩ := c.def_ 18 (d := d_is_ints) rfl
  obtain ⟨fd19, F19⟩ := c.def_ 19 (d := d_is_rising) rfl
  obtain ⟨fd20, F20⟩ := c.def_ 20 (d := d_is_stamp) rfl
  obtain ⟨fd21, F21⟩ := c.def_ 21 (d := d_is_version_form) rfl
  obtain ⟨fd22, F22⟩ := c.def_ 22 (d := d_is_content_form) rfl
  obtain ⟨fd23, F23⟩ := c.def_ 23 (d := d_Book_is_content) rfl
  obtain ⟨fd24, F24⟩ := c.def_ 24 (d := d_Book_named) rfl
  obtain ⟨fd25, F25⟩ := c.def_ 25 (d := d_l_book) rfl
  obtain ⟨fd26, F26⟩ := c.def_ 26 (d := d_l_deck) rfl
  obtain ⟨fd27, F27⟩ := c.def_ 27 (d := d_l_mixed) rfl
  obtain ⟨fd28, F28⟩ := c.def_ 28 (d := d_l_draw) rfl
  obtain ⟨fd29, F29⟩ := c.def_ 29 (d := d_Lack_init) rfl
  obtain ⟨fd30, F30⟩ := c.def_ 30 (d := d_House_holds) rfl
  obtain ⟨fd31, F31⟩ := c.def_ 31 (d := d_Book_is_version) rfl
  obtain ⟨fd32, F32⟩ := c.def_ 32 (d := d_NoName_init) rfl
  obtain ⟨fd33, F33⟩ := c.def_ 33 (d := d_check_versionsX) rfl
  obtain ⟨fd34, F34⟩ := c.def_ 34 (d := d_check_held_versionH) rfl
  obtain ⟨fd35, F35⟩ := c.def_ 35 (d := d_House_set_far) rfl
  obtain ⟨fd36, F36⟩ := c.def_ 36 (d := d_l_far_set) rfl
  obtain ⟨fd37, F37⟩ := c.def_ 37 (d := d_l_label) rfl
  obtain ⟨fd38, F38⟩ := c.def_ 38 (d := d_l_name55) rfl
  obtain ⟨fd39, F39⟩ := c.def_ 39 (d := d_l_int) rfl
  obtain ⟨fd40, F40⟩ := c.def_ 40 (d := d_l_same) rfl
  obtain ⟨fd41, F41⟩ := c.def_ 41 (d := d_l_is_version) rfl
  obtain ⟨fd42, F42⟩ := c.def_ 42 (d := d_l_version_due) rfl
  obtain ⟨fd43, F43⟩ := c.def_ 43 (d := d_l_far_deed) rfl
  obtain ⟨fd44, F44⟩ := c.def_ 44 (d := d_l_here55) rfl
  obtain ⟨fd45, F45⟩ := c.def_ 45 (d := d_Store_initH) rfl
  obtain ⟨fd46, F46⟩ := c.def_ 46 (d := d_House_initF) rfl
  obtain ⟨fd47, F47⟩ := c.def_ 47 (d := d_l_house55) rfl
  obtain ⟨fd48, F48⟩ := c.def_ 48 (d := d_Pin_let_go) rfl
  obtain ⟨fd49, F49⟩ := c.def_ 49 (d := d_check_held) rfl
  obtain ⟨fd50, F50⟩ := c.def_ 50 (d := d_Pin_add) rfl
  obtain ⟨fd51, F51⟩ := c.def_ 51 (d := d_l_added) rfl
  obtain ⟨fd52, F52⟩ := c.def_ 52 (d := d_l_names_due) rfl
  obtain ⟨fd53, F53⟩ := c.def_ 53 (d := d_Pin_init) rfl
  obtain ⟨fd54, F54⟩ := c.def_ 54 (d := d_House_pin) rfl
  obtain ⟨fd55, F55⟩ := c.def_ 55 (d := d_l_pinned) rfl
  obtain ⟨fd56, F56⟩ := c.def_ 56 (d := d_l_pin_deed) rfl
  obtain ⟨fd57, F57⟩ := c.def_ 57 (d := d_House_far) rfl
  obtain ⟨fd58, F58⟩ := c.def_ 58 (d := d_Pin_names) rfl
  obtain ⟨fd59, F59⟩ := c.def_ 59 (d := d_House_roots) rfl
  obtain ⟨fd60, F60⟩ := c.def_ 60 (d := d_Pin_len) rfl
  obtain ⟨fd61, F61⟩ := c.def_ 61 (d := d_l_roots55) rfl
  obtain ⟨fd62, F62⟩ := c.def_ 62 (d := d_l_pins_right) rfl
  obtain ⟨fd63, F63⟩ := c.def_ 63 (d := d_l_give) rfl
  obtain ⟨fd64, F64⟩ := c.def_ 64 (d := d_l_some) rfl
  obtain ⟨fd65, F65⟩ := c.def_ 65 (d := d_l_scene) rfl
  obtain ⟨fd66, F66⟩ := c.def_ 66 (d := d_law) rfl
  letI : HasW := ⟨w⟩
  have e := hfa.symm.trans (He.glo_ok X G (c.fact 41 (f := .glo "law") rfl))
  cases e
  have b := FunD.bindsA (ps := ["_law_script"]) F66 fun _ _ _ _ _ _ us hl => match us, hl with | [_], _ => rfl
  exact ⟨fd66, fun s v => b s [v] rfl, fun base _ _ => ok_law (⟨fd0, F0, fd1, F1, fd2, F2, (He.glo_ok X G (c.fact 0 (f := .glo "is_int") rfl)), fd3, F3, fd4, F4, fd5, F5, fd6, F6, fd7, F7, fd8, F8, fd9, F9, (He.glo_ok X G (c.fact 1 (f := .glo "is_label") rfl)), fd10, F10, (He.glo_ok X G (c.fact 2 (f := .glo "is_pair") rfl)), fd11, F11, (He.glo_ok X G (c.fact 3 (f := .glo "is_entry") rfl)), fd12, F12, (He.glo_ok X G (c.fact 4 (f := .glo "rises") rfl)), fd13, F13, (He.glo_ok X G (c.fact 5 (f := .glo "is_entries") rfl)), fd14, F14, (He.glo_ok X G (c.fact 6 (f := .glo "is_sign") rfl)), fd15, F15, (He.glo_ok X G (c.fact 7 (f := .glo "is_text") rfl)), fd16, F16, (He.glo_ok X G (c.fact 8 (f := .glo "is_row") rfl)), fd17, F17, (He.glo_ok X G (c.fact 9 (f := .glo "is_rows") rfl)), fd18, F18, (He.glo_ok X G (c.fact 10 (f := .glo "is_ints") rfl)), fd19, F19, (He.glo_ok X G (c.fact 11 (f := .glo "is_rising") rfl)), fd20, F20, (He.glo_ok X G (c.fact 12 (f := .glo "is_stamp") rfl)), fd21, F21, (He.glo_ok X G (c.fact 13 (f := .glo "is_version_form") rfl)), fd22, F22, (He.glo_ok X G (c.fact 14 (f := .glo "is_content_form") rfl)), fd23, F23, fd24, F24, fd25, F25, (He.glo_ok X G (c.fact 15 (f := .glo "_law_book") rfl)), fd26, F26, (He.glo_ok X G (c.fact 16 (f := .glo "_law_deck") rfl)), fd27, F27, (He.glo_ok X G (c.fact 17 (f := .glo "_law_mixed") rfl)), fd28, F28, (He.glo_ok X G (c.fact 18 (f := .glo "_law_draw") rfl)), fd29, F29, fd30, F30, fd31, F31, fd32, F32, fd33, F33, (He.glo_ok X G (c.fact 19 (f := .glo "check_versions") rfl)), fd34, F34, (He.glo_ok X G (c.fact 20 (f := .glo "check_held_version") rfl)), fd35, F35, fd36, F36, (He.glo_ok X G (c.fact 21 (f := .glo "_law_far_set") rfl)), fd37, F37, (He.glo_ok X G (c.fact 22 (f := .glo "_law_label") rfl)), fd38, F38, (He.glo_ok X G (c.fact 23 (f := .glo "_law_name") rfl)), fd39, F39, (He.glo_ok X G (c.fact 24 (f := .glo "_law_int") rfl)), fd40, F40, (He.glo_ok X G (c.fact 25 (f := .glo "_law_same") rfl)), fd41, F41, (He.glo_ok X G (c.fact 26 (f := .glo "_law_is_version") rfl)), fd42, F42, (He.glo_ok X G (c.fact 27 (f := .glo "_law_version_due") rfl)), fd43, F43, (He.glo_ok X G (c.fact 28 (f := .glo "_law_far_deed") rfl)), fd44, F44, (He.glo_ok X G (c.fact 29 (f := .glo "_law_here") rfl)), fd45, F45, fd46, F46, fd47, F47, (He.glo_ok X G (c.fact 30 (f := .glo "_law_house") rfl)), fd48, F48, fd49, F49, (He.glo_ok X G (c.fact 31 (f := .glo "check_held") rfl)), fd50, F50, fd51, F51, (He.glo_ok X G (c.fact 32 (f := .glo "_law_added") rfl)), fd52, F52, (He.glo_ok X G (c.fact 33 (f := .glo "_law_names_due") rfl)), fd53, F53, fd54, F54, fd55, F55, (He.glo_ok X G (c.fact 34 (f := .glo "_law_pinned") rfl)), fd56, F56, (He.glo_ok X G (c.fact 35 (f := .glo "_law_pin_deed") rfl)), fd57, F57, fd58, F58, fd59, F59, fd60, F60, fd61, F61, (He.glo_ok X G (c.fact 36 (f := .glo "_law_roots") rfl)), fd62, F62, (He.glo_ok X G (c.fact 37 (f := .glo "_law_pins_right") rfl)), fd63, F63, (He.glo_ok X G (c.fact 38 (f := .glo "_law_give") rfl)), fd64, F64, (He.glo_ok X G (c.fact 39 (f := .glo "_law_some") rfl)), fd65, F65, (He.glo_ok X G (c.fact 40 (f := .glo "_law_scene") rfl)), fd66, F66, (He.free_ok X G (c.fact 42 (f := .free "ValueError") rfl)), (He.free_ok X G (c.fact 43 (f := .free "all") rfl)), (He.free_ok X G (c.fact 44 (f := .free "bool") rfl)), (He.free_ok X G (c.fact 45 (f := .free "dict") rfl)), (He.free_ok X G (c.fact 46 (f := .free "int") rfl)), (He.free_ok X G (c.fact 47 (f := .free "isinstance") rfl)), (He.free_ok X G (c.fact 48 (f := .free "len") rfl)), (He.free_ok X G (c.fact 49 (f := .free "list") rfl)), (He.free_ok X G (c.fact 50 (f := .free "max") rfl)), (He.free_ok X G (c.fact 51 (f := .free "min") rfl)), (He.free_ok X G (c.fact 52 (f := .free "ord") rfl)), (He.free_ok X G (c.fact 53 (f := .free "range") rfl)), (He.free_ok X G (c.fact 54 (f := .free "set") rfl)), (He.free_ok X G (c.fact 55 (f := .free "sorted") rfl)), (He.free_ok X G (c.fact 56 (f := .free "str") rfl)), (He.free_ok X G (c.fact 57 (f := .free "tuple") rfl)), (He.free_ok X G (c.fact 58 (f := .free "zip") rfl)), (He.int_ok X G (c.fact 59 (f := .int "ALL" 400) rfl)), (He.int_ok X G (c.fact 60 (f := .int "BARRED_SIGN" 37) rfl)), (He.int_ok X G (c.fact 61 (f := .int "DEEPEST" 8) rfl)), (He.int_ok X G (c.fact 62 (f := .int "LAST_STAMP" 1000000000000000000) rfl)), (He.int_ok X G (c.fact 63 (f := .int "LONGEST_LABEL" 8) rfl)), (He.int_ok X G (c.fact 64 (f := .int "MOST" 400) rfl)), (He.int_ok X G (c.fact 65 (f := .int "MOST_ENTRIES" 20) rfl)), (He.int_ok X G (c.fact 66 (f := .int "MOST_PARENTS" 4) rfl)), (He.int_ok X G (c.fact 67 (f := .int "MOST_ROWS" 40) rfl)), (He.int_ok X G (c.fact 68 (f := .int "MOST_SIGNS" 40) rfl)), (He.glo_ok X G (c.fact 69 (f := .glo "Book") rfl)), (He.glo_ok X G (c.fact 70 (f := .glo "Store") rfl)), (He.glo_ok X G (c.fact 71 (f := .glo "House") rfl)), (He.glo_ok X G (c.fact 72 (f := .glo "Pin") rfl)), (He.glo_ok X G (c.fact 73 (f := .glo "HouseError") rfl)), (He.glo_ok X G (c.fact 74 (f := .glo "NoName") rfl)), (He.glo_ok X G (c.fact 75 (f := .glo "Lack") rfl)), (He.glo_ok X G (c.fact 76 (f := .glo "LetGo") rfl)), (He.exc_ok (c.fact 77 (f := .exc "LetGo") rfl)), (He.cls_ok (c.fact 78 (f := .cls "House") rfl)), (He.noat_ok (c.fact 79 (f := .noat "House" "book") rfl)), (He.noat_ok (c.fact 80 (f := .noat "House" "inside") rfl)), (He.noat_ok (c.fact 81 (f := .noat "House" "many_changes") rfl)), (He.noat_ok (c.fact 82 (f := .noat "House" "standing") rfl)), (He.noat_ok (c.fact 83 (f := .noat "House" "last_moves") rfl)), (He.noat_ok (c.fact 84 (f := .noat "House" "far_standing") rfl)), (He.noat_ok (c.fact 85 (f := .noat "House" "pinned") rfl)), (He.meth_ok (c.fact 86 (f := .meth "House" "marks") rfl)), (He.meth_ok (c.fact 87 (f := .meth "House" "set_far") rfl)), (He.meth_ok (c.fact 88 (f := .meth "House" "pin") rfl)), (He.meth_ok (c.fact 89 (f := .meth "House" "far") rfl)), (He.meth_ok (c.fact 90 (f := .meth "House" "roots") rfl)), (He.mkr_ok (c.fact 91 (f := .mkr "House") rfl)), (He.cls_ok (c.fact 92 (f := .cls "Store") rfl)), (He.meth_ok (c.fact 93 (f := .meth "Store" "held") rfl)), (He.meth_ok (c.fact 94 (f := .meth "Store" "put") rfl)), (He.meth_ok (c.fact 95 (f := .meth "Store" "holds") rfl)), (He.mkr_ok (c.fact 96 (f := .mkr "Store") rfl)), (He.cls_ok (c.fact 97 (f := .cls "Book") rfl)), (He.noat_ok (c.fact 98 (f := .noat "Book" "contents") rfl)), (He.noat_ok (c.fact 99 (f := .noat "Book" "depths") rfl)), (He.noat_ok (c.fact 100 (f := .noat "Book" "given") rfl)), (He.meth_ok (c.fact 101 (f := .meth "Book" "is_name") rfl)), (He.meth_ok (c.fact 102 (f := .meth "Book" "depth") rfl)), (He.meth_ok (c.fact 103 (f := .meth "Book" "give_next") rfl)), (He.meth_ok (c.fact 104 (f := .meth "Book" "has_kinds") rfl)), (He.meth_ok (c.fact 105 (f := .meth "Book" "is_content") rfl)), (He.meth_ok (c.fact 106 (f := .meth "Book" "named") rfl)), (He.meth_ok (c.fact 107 (f := .meth "Book" "is_version") rfl)), (He.mkr_ok (c.fact 108 (f := .mkr "Book") rfl)), (He.cls_ok (c.fact 109 (f := .cls "Pin") rfl)), (He.noat_ok (c.fact 110 (f := .noat "Pin" "home") rfl)), (He.noat_ok (c.fact 111 (f := .noat "Pin" "inside") rfl)), (He.noat_ok (c.fact 112 (f := .noat "Pin" "is_let_go") rfl)), (He.meth_ok (c.fact 113 (f := .meth "Pin" "let_go") rfl)), (He.meth_ok (c.fact 114 (f := .meth "Pin" "add") rfl)), (He.meth_ok (c.fact 115 (f := .meth "Pin" "names") rfl)), (He.meth_ok (c.fact 116 (f := .meth "Pin" "__len__") rfl)), (He.mkr_ok (c.fact 117 (f := .mkr "Pin") rfl)), (Fw.k55_of m)⟩ : Tx K mg)⟩
end K55
open PySem PySem.W PySem.Calls PyProof.Rows
set_option maxRecDepth 100000 in
set_option maxHeartbeats 0 in
theorem PySem.Challenge.cw_fewasks_k55_pins_and_far_marks_holds : PySem.Challenge.rw_fewasks_k55_pins_and_far_marks.Holds := by
  w_on; o_law
  refine SegH.head_segs (r := OpenLaw.row PySem.Challenge.rw_fewasks_k55_pins_and_far_marks) (q := view (OpenLaw.row PySem.Challenge.rw_fewasks_k55_pins_and_far_marks).prog [73]) (H := K55.hk) (loose := K55.loose) (d := HandSHeadRun.topDef (OpenLaw.row PySem.Challenge.rw_fewasks_k55_pins_and_far_marks).prog 73) (kwd := [])
    (by kernel_rfl) (fun s => by kernel_rfl) K55.boot_n K55.boot_a K55.tops (by kernel_rfl) (by kernel_rfl) (by kernel_rfl) (by rfl) (by first | assumption | decide +kernel) (by decide +kernel) ⟨rfl, rfl, rfl, rfl, rfl, by decide +kernel⟩ ?hw ?hc
  case hw => w_witness2
  case hc =>
    refine L2.walk_ofE (l := PySem.Challenge.rw_fewasks_k55_pins_and_far_marks) (n := 63) (k := 10) (x := "_law_script") (CX := L2.CX0) rfl (by decide) (by kernel_rfl) ⟨rfl, by decide, by decide⟩ ?F (fun _ _ _ _ z => z)
    intro w mg fa h Y G hmg0
    obtain ⟨K, KX, c, m⟩ := Y
    have hmg : mg ("law" : PySem.Str) = some (.ref fa) := by
      have e : (HandSHeadRun.topDef (OpenLaw.row PySem.Challenge.rw_fewasks_k55_pins_and_far_marks).prog 73).name = ("law" : PySem.Str) := by kernel_rfl
      rw [← e]
      exact hmg0
    obtain ⟨fd, hb, hF⟩ := K55.facts (P := (PySem.Challenge.rw_fewasks_k55_pins_and_far_marks).prog) (w := w) KX G hmg c m
    exact ⟨K, fd, Fw.sp_law K, KX, hb, fun H a ns hl _ hS => ⟨a, ns, rfl, hS, hl, fun _ => rfl⟩, hF⟩
