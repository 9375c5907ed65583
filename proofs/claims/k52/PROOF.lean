import PyProof.Rows.All
import Wide.All
import OpenK.AllK
import Wide.FinOn
import KE.KStateDown
import HandS.ForMost
import HandS.IsInst
import HandS.Conv
import HandS.Wide
import HandS.WideBits
import HandS.SortInts
import HandS.DictComp
import HandS.Zip
import HandS.Rev
import HandS.Flow
import HandS.Steps
import HandS.Defaults
import HandS.Head0
import HandS.Head1
import HandS.Head2
import HandS.HeadEnd
import HandS.HeadHook1
import HandS.HeadHook2
import HandS.Walk
import HandS.Text
import HandS.TupAny
import KE.KeyNested
import HandS.Dict
import HandS.ExcOwn
import HandS.Call
import KE.DatumOrd
import HandS.SortKw
import HandS.DeepEq
import HandS.Strs
import HandS.TupSets
import HandS.DictTup
import KE.SortData
import HandS.Deep
import HandS.ExcValue
import KE.KDictSum
import HandS.AnyAll
import KE.KCallOwn
import HandS.More
import HandS.ExcInit
import HandS.ClsMeth
import HandS.TupLe
import HandS.SetFor
import HandS.DictEq
import HandS.ListEq
import HandS.TupMul
import HandS.Style
import PySem.Challenge.RW_fewasks_k52_whole_ways
set_option Elab.async false
set_option linter.all false
set_option maxRecDepth 100000
set_option maxHeartbeats 4000000
namespace Fw
open PySem L2 RZ RT
/-! ### readings by name -/
abbrev rAddI : R2 := rI0 fun i j => .int (i + j)
abbrev rSubI : R2 := rI0 fun i j => .int (i - j)
abbrev rMulI : R2 := rI CMul fun i j => .int (i * j)
abbrev rDivI : R2 := rI CDivW fun i j => .int (i / j)
abbrev rModI : R2 := rI (fun _ j => 0 < j) fun i j => .int (i % j)
abbrev rPowI : R2 := rI CPow fun i j => .int (i ^ j.toNat)
abbrev rLtI : R2 := rI0 fun i j => .bl (decide (i < j))
abbrev rLeI : R2 := rI0 fun i j => .bl (decide (i ≤ j))
abbrev rGtI : R2 := rI0 fun i j => .bl (decide (j < i))
abbrev rGeI : R2 := rI0 fun i j => .bl (decide (j ≤ i))
abbrev rNegI : V → Hp → VK → Prop := rU fun i => .int (-i)
abbrev fIsN : R2 := fun x y H Q => y = .non ∧ Q (.bl (decide (x = .non))) H
abbrev fNotN : R2 := fun x y H Q => y = .non ∧ Q (.bl (!decide (x = .non))) H
def fLen (K : PySem.W.Frag) : List V → Hp → VK → Prop := fun xs H Q => ∃ x n, xs = [x] ∧ LenV K x H n ∧ Q (.int n) H
def fListOf (K : PySem.W.Frag) : List V → Hp → VK → Prop := fun xs H Q => ∃ p ys, xs = [.ref p] ∧ (SqL K H p ys ∨ SqT K H p ys) ∧ ∀ l, H l = none → Q (.ref l) (upd H l (.lst ys))
def fTupleOf (K : PySem.W.Frag) : List V → Hp → VK → Prop := fun xs H Q => ∃ p ys, xs = [.ref p] ∧ ((SqL K H p ys ∧ ∀ l, H l = none → Q (.ref l) (upd H l (.tup ys))) ∨ (SqT K H p ys ∧ Q (.ref p) H))
def fMin2 : List V → Hp → VK → Prop := fun xs H Q => ∃ i j, xs = [.int i, .int j] ∧ Q (.int (if j < i then j else i)) H
def fMax2 : List V → Hp → VK → Prop := fun xs H Q => ∃ i j, xs = [.int i, .int j] ∧ Q (.int (if j > i then j else i)) H
/-! ### steps -/
section
variable {K : PySem.W.Frag} {H : Hp} {p : Addr} {xs : List V} {i : Int} {v : V} {Q : VK}
theorem ixL (h : H p = some (.lst xs)) (ha : atI xs i = some v) (q : Q v H) : rIx K (.ref p) (.int i) H Q := .inl ⟨p, xs, i, v, rfl, rfl, .inl (.inl h), ha, q⟩
theorem ixT (h : H p = some (.tup xs)) (ha : atI xs i = some v) (q : Q v H) : rIx K (.ref p) (.int i) H Q := .inr (.inl ⟨p, xs, i, v, rfl, rfl, .inl (.inl h), ha, q⟩)
theorem lenL {σ : L2.St} (h : H p = some (.lst xs)) (q : Q (.int xs.length) H) : tNil σ H fun ys H2 => fLen K (.ref p :: ys) H2 Q := ⟨_, _, rfl, .inl ⟨xs, .inl (.inl h), rfl⟩, q⟩
theorem lenT {σ : L2.St} (h : H p = some (.tup xs)) (q : Q (.int xs.length) H) : tNil σ H fun ys H2 => fLen K (.ref p :: ys) H2 Q := ⟨_, _, rfl, .inr ⟨xs, .inl (.inl h), rfl⟩, q⟩
theorem sqL (h : H p = some (.lst xs)) : SqL K H p xs := .inl (.inl h)
theorem sqT (h : H p = some (.tup xs)) : SqT K H p xs := .inl (.inl h)
end
theorem updS {H : Hp} {a : Addr} {o : HO} : upd H a o a = some o := upd_same
theorem updN {H : Hp} {a b : Addr} {o : HO} {r : Option HO} (n : b ≠ a) (h : H b = r) : upd H a o b = r := by rw [upd_ne n]; exact h
theorem small100 {m : Int} (h : m.natAbs ≤ 1000000000000000000) : m.natAbs < 2 ^ 100 := Nat.lt_of_le_of_lt h (by decide)
/-- the number in a slot, as a measure -/
def slotN (k : Nat) (σ : L2.St) : Nat := match σ[k]? with
  | some (some (V.int n)) => n.toNat
  | _ => 0
theorem getLastD_of {l : List V} (h : l ≠ []) : l.getLastD .non = l.getLast h := by
  rw [List.getLastD_eq_getLast?, List.getLast?_eq_getLast h]
  rfl
theorem pow18 : (10 : Int) ^ (18 : Int).toNat = 1000000000000000000 := by decide
/-! ### the deck of a law -/
/-- the deck at D: the cells at c, the turn at most t -/
def Dk (c D : Addr) (ns : List Int) (t : Nat) (H : Hp) : Prop := c ≠ D ∧ H c = some (.lst (ns.map V.int)) ∧ ns.length ≤ 63 ∧
  ∃ i n u : Int, H D = some (.lst [.ref c, .int i, .int n, .int u]) ∧ 0 ≤ i ∧ i ≤ ns.length ∧ 0 ≤ n ∧ 0 ≤ u ∧ u ≤ t
def sp_l_deck (K : PySem.W.Frag) : Sp := fun vs H Q _ => ∃ (a : Addr) (ns : List Int), vs = [.ref a] ∧ SqL K H a (ns.map V.int) ∧ ns.length ≤ 63 ∧
  ∀ c D H', Same H H' → H c = none → H D = none → Dk c D ns 0 H' → Q (.ref D) H'
def sp_l_mixed (_ : PySem.W.Frag) : Sp := fun vs H Q _ => ∃ (c t : Int), vs = [.int c, .int t] ∧ 0 ≤ t ∧ t ≤ 1000000000 ∧ ∀ v : Int, Q (.int v) H
def sp_l_draw (_ : PySem.W.Frag) : Sp := fun vs H Q _ => ∃ (c D : Addr) (ns : List Int) (t : Nat) (m : Int), vs = [.ref D, .int m] ∧ Dk c D ns t H ∧ t < 1000000000 ∧ 0 < m ∧ m.natAbs < 2 ^ 100 ∧
  ∀ (v : Int) (H' : Hp), 0 ≤ v → v < m → Dk c D ns (t + 1) H' → (∀ b, b ≠ D → H' b = H b) → Q (.int v) H'
def sp_l_int (_ : PySem.W.Frag) : Sp := fun vs H Q _ => ∃ i : Int, vs = [.int i] ∧ Q (.bl true) H
abbrev N_l_deck : List Str := ["_law_script"]
def t_l_deck (K : PySem.W.Frag) : TS := (tRet (tLst (tCons (tCB (fListOf K) (tCons (tVar 0) tNil)) (tCons (tC (.int 0)) (tCons (tC (.int 0)) (tCons (tC (.int 0)) tNil))))))
abbrev N_l_mixed : List Str := ["_law_cell", "_law_turn"]
def t_l_mixed (K : PySem.W.Frag) : TS := (tRet (tOp rModI (tOp rPowI (tOp rAddI (tOp rAddI (tOp rModI (tVar 0) (tC (.int 2147483629))) (tOp rMulI (tVar 1) (tC (.int 1000003)))) (tC (.int 17))) (tC (.int 5))) (tC (.int 2147483647))))
abbrev N_l_draw : List Str := ["_law_deck_here", "_law_many", "_law_cells", "_law_found", "_law_number"]
def t_l_draw_in (K : PySem.W.Frag) : TS := (tSeq (tIfS (tTest (tOp rLtI (tOp (rIx K) (tVar 2) (tOp rSubI (tOp (rIx K) (tVar 0) (tC (.int 1))) (tC (.int 1)))) (tOp rPowI (tC (.int 10)) (tC (.int 18))))) (tRet (tOp rModI (tCall (sp_l_mixed K) [] E0 (tCons (tOp (rIx K) (tVar 2) (tOp rSubI (tOp (rIx K) (tVar 0) (tC (.int 1))) (tC (.int 1)))) (tCons (tOp (rIx K) (tVar 0) (tC (.int 3))) tNil))) (tVar 1))) tNext)
    (tAsg (tOp (rIx K) (tVar 2) (tOp rSubI (tOp (rIx K) (tVar 0) (tC (.int 1))) (tC (.int 1)))) (gSub (tVar 0) (tC (.int 2)) rSetL)))
def t_l_draw_last (K : PySem.W.Frag) : TS := (tRet (tOp rModI (tCall (sp_l_mixed K) [] E0 (tCons (tVar 4) (tCons (tOp (rIx K) (tVar 0) (tC (.int 3))) tNil))) (tVar 1)))
def t_l_draw_rest (K : PySem.W.Frag) : TS := (tSeq (tIfS (tTest (tOp rGtI (tOp (rIx K) (tVar 0) (tC (.int 2))) (tC (.int 0)))) (tSeq (tAsg (tOp rModI (tOp (rIx K) (tVar 0) (tC (.int 2))) (tVar 1)) (gName 3))
    (tSeq (tAsg (tOp rDivI (tOp (rIx K) (tVar 0) (tC (.int 2))) (tVar 1)) (gSub (tVar 0) (tC (.int 2)) rSetL))
    (tRet (tVar 3)))) tNext)
    (tSeq (tAsg (tOp rMulI (tOp (rIx K) (tVar 0) (tC (.int 3))) (tC (.int 48271))) (gName 4))
    (tSeq (tIfS (tTest (tOp rGtI (tCB (fLen K) (tCons (tVar 2) tNil)) (tC (.int 0)))) (tAsg (tOp rAddI (tVar 4) (tOp rModI (tOp (rIx K) (tVar 2) (tOp rModI (tOp rMulI (tOp (rIx K) (tVar 0) (tC (.int 3))) (tC (.int 7))) (tCB (fLen K) (tCons (tVar 2) tNil)))) (tC (.int 2147483629)))) (gName 4)) tNext)
    (t_l_draw_last K))))
def t_l_draw_mid (K : PySem.W.Frag) : TS := (tSeq (tIfS (tAnd (tTest (tOp rEq (tOp (rIx K) (tVar 0) (tC (.int 2))) (tC (.int 0)))) (tTest (tOp rLtI (tOp (rIx K) (tVar 0) (tC (.int 1))) (tCB (fLen K) (tCons (tVar 2) tNil))))) (tSeq (tAsg (tOp rAddI (tOp (rIx K) (tVar 0) (tC (.int 1))) (tC (.int 1))) (gSub (tVar 0) (tC (.int 1)) rSetL))
    (t_l_draw_in K)) tNext)
    (t_l_draw_rest K))
def t_l_draw (K : PySem.W.Frag) : TS := (tSeq (tAsg (tOp (rIx K) (tVar 0) (tC (.int 0))) (gName 2))
    (tSeq (tAsg (tOp rAddI (tOp (rIx K) (tVar 0) (tC (.int 3))) (tC (.int 1))) (gSub (tVar 0) (tC (.int 3)) rSetL))
    (t_l_draw_mid K)))
abbrev N_l_int : List Str := ["_law_thing"]
def t_l_int (K : PySem.W.Frag) : TS := (tRet (tAndV (tCB (rIsi K) (tCons (tVar 0) (tCons (tC (.ty "int")) tNil))) (tNotV (tCB (rIsi K) (tCons (tVar 0) (tCons (tC (.ty "bool")) tNil))))))
theorem pure_l_deck {K : PySem.W.Frag} {vs : List V} {H : Hp} {Q : VK} {E : XK} (h : sp_l_deck K vs H Q E) : t_l_deck K { nx := fun _ H' => Q .non H', rt := Q } (start N_l_deck vs) H := by
  obtain ⟨a, ns, rfl, hS, hl, k⟩ := h
  refine ⟨_, rfl, a, _, rfl, .inl hS, fun c nc => ⟨by show (4 : Nat) ≤ sizeLine; decide, fun D nD => ?_⟩⟩
  have ncD : c ≠ D := fun e => by rw [← e, updS] at nD; cases nD
  have nD0 : H D = none := by rw [upd_ne ncD.symm] at nD; exact nD
  refine k c D _ (fun b o e => updN (ne_of_none e nD0) (updN (ne_of_none e nc) e)) nc nD0 ⟨ncD, updN ncD updS, hl, 0, 0, 0, updS, Int.le_refl _, by omega, Int.le_refl _, Int.le_refl _, Int.le_refl _⟩
theorem pure_l_mixed {K : PySem.W.Frag} {vs : List V} {H : Hp} {Q : VK} {E : XK} (h : sp_l_mixed K vs H Q E) : t_l_mixed K { nx := fun _ H' => Q .non H', rt := Q } (start N_l_mixed vs) H := by
  obtain ⟨c, t, rfl, h0, h1, k⟩ := h
  refine ⟨_, rfl, _, _, rfl, rfl, (by show (0 : Int) < 2147483629; decide), _, rfl, _, _, rfl, rfl, .inr ⟨by decide, by decide⟩, _, _, rfl, rfl, _, _, rfl, rfl, _, _, rfl, rfl, ⟨by decide, by decide, ?_⟩, _, _, rfl, rfl, (by show (0 : Int) < 2147483647; decide), k _⟩
  have := Int.emod_nonneg c (show (2147483629 : Int) ≠ 0 by decide)
  have := Int.emod_lt_of_pos c (show (0 : Int) < 2147483629 by decide)
  omega
theorem pure_l_int {K : PySem.W.Frag} {vs : List V} {H : Hp} {Q : VK} {E : XK} (h : sp_l_int K vs H Q E) : t_l_int K { nx := fun _ H' => Q .non H', rt := Q } (start N_l_int vs) H := by
  obtain ⟨i, rfl, k⟩ := h
  refine ⟨_, rfl, _, _, _, _, true, rfl, .ty _, .base (.int i), kit_ty (by decide +kernel), _, rfl, iteT ?_⟩
  refine ⟨_, rfl, _, _, _, _, false, rfl, .ty _, .base (.int i), kit_ty (by decide +kernel), _, rfl, k⟩
theorem pure_l_draw {K : PySem.W.Frag} {vs : List V} {H : Hp} {Q : VK} {E : XK} (h : sp_l_draw K vs H Q E) : t_l_draw K { nx := fun _ H' => Q .non H', rt := Q } (start N_l_draw vs) H := by
  obtain ⟨c, D, ns, t, m, rfl, ⟨ncD, hc, hl, i, n, u, hD, i0, i1, n0, u0, u1⟩, ht, m0, m1, k⟩ := h
  have cells : ∀ {j : Int}, 0 ≤ j → j < ns.length → ∃ z : Int, atI (ns.map V.int) j = some (.int z) := fun {j} h0 h1 => by
    obtain ⟨q, rfl⟩ := Int.eq_ofNat_of_zero_le h0
    have hq : q < ns.length := by omega
    exact ⟨ns[q], atI_nat (by rw [List.getElem?_map, List.getElem?_eq_getElem hq]; rfl)⟩
  -- the rest, from any i and n
  have rest : ∀ (i n : Int) (H2 : Hp) (z3 z4 : Option V), 0 ≤ i → i ≤ ns.length → 0 ≤ n → H2 D = some (.lst [.ref c, .int i, .int n, .int (u + 1)]) → H2 c = some (.lst (ns.map V.int)) → (∀ b, b ≠ D → H2 b = H b) →
      t_l_draw_rest K { nx := fun _ H' => Q .non H', rt := Q } [some (.ref D), some (.int m), some (.ref c), z3, z4] H2 := by
    intro i n H2 z3 z4 i0 i1 n0 hD2 hc2 fr2
    have mod0 : ∀ x : Int, 0 ≤ x % m := fun x => Int.emod_nonneg x (by omega)
    have mod1 : ∀ x : Int, x % m < m := fun x => Int.emod_lt_of_pos x m0
    refine ⟨_, rfl, ixL hD2 rfl ⟨_, _, rfl, rfl, _, rfl, ite2 (fun e => ?_) (fun e => ?_)⟩⟩
    · have hn : 0 < n := of_decide_eq_true e
      refine ⟨_, rfl, ixL hD2 rfl ⟨_, rfl, _, _, rfl, rfl, m0, ?_⟩⟩
      refine ⟨_, rfl, ixL hD2 rfl ⟨_, rfl, _, _, rfl, rfl, wide_div m0 m1 (by decide) (by decide), _, rfl, D, _, _, 2, rfl, rfl, hD2, rfl, ?_⟩⟩
      refine ⟨_, rfl, k _ _ (mod0 n) (mod1 n) ⟨ncD, updN ncD hc2, hl, i, n / m, u + 1, updS, i0, i1, Int.ediv_nonneg n0 (by omega), by omega, by omega⟩ fun b nb => (upd_ne nb).trans (fr2 b nb)⟩
    · refine ⟨_, rfl, ixL hD2 rfl ⟨_, _, rfl, rfl, .inr ⟨by decide, by decide⟩, ?_⟩⟩
      have last : ∀ (y : Int), t_l_draw_last K { nx := fun _ H' => Q .non H', rt := Q } [some (.ref D), some (.int m), some (.ref c), z3, some (.int y)] H2 := fun y => by
        refine ⟨_, rfl, _, rfl, ixL hD2 rfl ⟨y, u + 1, rfl, by omega, by omega, fun v => ?_⟩⟩
        refine ⟨_, rfl, _, _, rfl, rfl, m0, k _ _ (mod0 v) (mod1 v) ⟨ncD, hc2, hl, i, n, u + 1, hD2, i0, i1, n0, by omega, by omega⟩ fr2⟩
      refine ⟨_, rfl, lenL hc2 ⟨_, _, rfl, rfl, _, rfl, ite2 (fun e => ?_) (fun e => ?_)⟩⟩
      · have hn : 0 < ns.length := by
          have q : (0 : Int) < (ns.map V.int).length := of_decide_eq_true e
          rw [List.length_map] at q
          omega
        have hlen : ((ns.map V.int).length : Int) = ns.length := by rw [List.length_map]
        obtain ⟨z, hz⟩ := cells (j := (u + 1) * 7 % ((ns.map V.int).length : Int)) (Int.emod_nonneg _ (by omega)) (by rw [hlen]; exact Int.emod_lt_of_pos _ (by omega))
        refine ⟨_, rfl, _, rfl, _, rfl, ixL hD2 rfl ⟨_, _, rfl, rfl, .inr ⟨by decide, by decide⟩, _, rfl, lenL hc2 ⟨_, _, rfl, rfl, (by show (0 : Int) < ((ns.map V.int).length : Int); omega), ixL hc2 hz ⟨_, _, rfl, rfl, (by show (0 : Int) < 2147483629; decide), _, _, rfl, rfl, ?_⟩⟩⟩⟩
        exact last _
      · exact last _
  have mid : ∀ (H1 : Hp) (z3 z4 : Option V), H1 D = some (.lst [.ref c, .int i, .int n, .int (u + 1)]) → H1 c = some (.lst (ns.map V.int)) → (∀ b, b ≠ D → H1 b = H b) →
      t_l_draw_mid K { nx := fun _ H' => Q .non H', rt := Q } [some (.ref D), some (.int m), some (.ref c), z3, z4] H1 := by
    intro H1 z3 z4 hD1 hc1 fr1
    refine ⟨_, rfl, ixL hD1 rfl ⟨rfl, _, rfl, ?_⟩⟩
    refine ite2 (fun e => ?_) (fun e => iteF (rest i n H1 _ _ i0 i1 n0 hD1 hc1 fr1))
    refine ⟨_, rfl, ixL hD1 rfl ⟨_, rfl, lenL hc1 ⟨_, _, rfl, rfl, _, rfl, ite2 (fun e2 => ?_) (fun e2 => rest i n H1 _ _ i0 i1 n0 hD1 hc1 fr1)⟩⟩⟩
    have hi : i < ns.length := by
      have q : i < ((ns.map V.int).length : Int) := of_decide_eq_true e2
      rw [List.length_map] at q
      exact q
    obtain ⟨z, hz⟩ := cells i0 hi
    have ei : i + 1 - 1 = i := by omega
    have inn : ∀ (H2 : Hp), H2 D = some (.lst [.ref c, .int (i + 1), .int n, .int (u + 1)]) → H2 c = some (.lst (ns.map V.int)) → (∀ b, b ≠ D → H2 b = H b) →
        t_l_draw_in K { nx := t_l_draw_rest K { nx := fun _ H' => Q .non H', rt := Q }, rt := Q } [some (.ref D), some (.int m), some (.ref c), z3, z4] H2 := by
      intro H2 hD2 hc2 fr2
      refine ⟨_, rfl, _, rfl, ixL hD2 rfl ⟨_, _, rfl, rfl, ixL hc2 (by rw [ei]; exact hz) ⟨_, _, rfl, rfl, ⟨by decide, by decide, by decide⟩, _, _, rfl, rfl, _, rfl, ite2 (fun e3 => ?_) (fun e3 => ?_)⟩⟩⟩
      · refine ⟨_, rfl, _, rfl, ixL hD2 rfl ⟨_, _, rfl, rfl, ixL hc2 (by rw [ei]; exact hz) ⟨_, rfl, ixL hD2 rfl ⟨z, u + 1, rfl, by omega, by omega, fun v => ?_⟩⟩⟩⟩
        refine ⟨_, rfl, _, _, rfl, rfl, m0, k _ _ (Int.emod_nonneg v (by omega)) (Int.emod_lt_of_pos v m0) ⟨ncD, hc2, hl, i + 1, n, u + 1, hD2, by omega, by omega, n0, by omega, by omega⟩ fr2⟩
      · have hz0 : ¬ z < 1000000000000000000 := fun q => e3 (decide_eq_true (by rw [pow18]; exact q))
        refine ⟨_, rfl, _, rfl, ixL hD2 rfl ⟨_, _, rfl, rfl, ixL hc2 (by rw [ei]; exact hz) ⟨_, rfl, D, _, _, 2, rfl, rfl, hD2, rfl, ?_⟩⟩⟩
        exact rest (i + 1) z _ _ _ (by omega) (by omega) (by omega) updS (updN ncD hc2) fun b nb => updN nb (fr2 b nb)
    refine ⟨_, rfl, ixL hD1 rfl ⟨_, _, rfl, rfl, _, rfl, D, _, _, 1, rfl, rfl, hD1, rfl, ?_⟩⟩
    exact inn _ updS (updN ncD hc1) fun b nb => updN nb (fr1 b nb)
  -- cells = deck[0]; deck[3] = deck[3] + 1
  refine ⟨_, rfl, ixL hD rfl ?_⟩
  refine ⟨_, rfl, ixL hD rfl ⟨_, _, rfl, rfl, _, rfl, D, _, _, 3, rfl, rfl, hD, rfl, ?_⟩⟩
  exact mid _ _ _ updS (updN ncD hc) fun b nb => upd_ne nb
/-! ### the same data, kind for kind -/
/-- two values of the same data, at most n deep -/
def SameV (H : Hp) : Nat → V → V → Prop
  | 0, _, _ => False
  | n + 1, x, y => (x = y ∧ (x = .non ∨ (∃ i, x = .int i) ∨ (∃ b, x = .bl b) ∨ ∃ z, x = .str z)) ∨
    ∃ p q xs ys, x = .ref p ∧ y = .ref q ∧ ((H p = some (.lst xs) ∧ H q = some (.lst ys)) ∨ (H p = some (.tup xs) ∧ H q = some (.tup ys))) ∧ xs.length = ys.length ∧ xs.length ≤ 100000 ∧
      ∀ (i : Nat) (a b : V), xs[i]? = some a → ys[i]? = some b → SameV H n a b
theorem SameV.int {H : Hp} {n : Nat} {i j : Int} (e : i = j) : SameV H (n + 1) (.int i) (.int j) := Or.inl ⟨by rw [e], .inr (.inl ⟨i, rfl⟩)⟩
theorem SameV.bl {H : Hp} {n : Nat} {i j : Bool} (e : i = j) : SameV H (n + 1) (.bl i) (.bl j) := Or.inl ⟨by rw [e], .inr (.inr (.inl ⟨i, rfl⟩))⟩
theorem SameV.tup {H : Hp} {n : Nat} {p q : Addr} {xs ys : List V} (h1 : H p = some (.tup xs)) (h2 : H q = some (.tup ys)) (hl : xs.length = ys.length) (hz : xs.length ≤ 100000) (h : ∀ (i : Nat) (a b : V), xs[i]? = some a → ys[i]? = some b → SameV H n a b) : SameV H (n + 1) (.ref p) (.ref q) :=
  Or.inr ⟨p, q, xs, ys, rfl, rfl, .inr ⟨h1, h2⟩, hl, hz, h⟩
theorem SameV.lst {H : Hp} {n : Nat} {p q : Addr} {xs ys : List V} (h1 : H p = some (.lst xs)) (h2 : H q = some (.lst ys)) (hl : xs.length = ys.length) (hz : xs.length ≤ 100000) (h : ∀ (i : Nat) (a b : V), xs[i]? = some a → ys[i]? = some b → SameV H n a b) : SameV H (n + 1) (.ref p) (.ref q) :=
  Or.inr ⟨p, q, xs, ys, rfl, rfl, .inl ⟨h1, h2⟩, hl, hz, h⟩
theorem SameV.ints {H : Hp} {n : Nat} {ns : List Int} : ∀ (i : Nat) (a b : V), (ns.map V.int)[i]? = some a → (ns.map V.int)[i]? = some b → SameV H (n + 1) a b := fun i a b h1 h2 => by
  have e : a = b := Option.some.inj (h1.symm.trans h2)
  rw [List.getElem?_map] at h1
  cases q : ns[i]? with
  | none => rw [q] at h1; cases h1
  | some z => rw [q] at h1; exact Or.inl ⟨e, .inr (.inl ⟨z, (Option.some.inj h1).symm⟩)⟩
def sp_sameN (_ : PySem.W.Frag) (n : Nat) : Sp := fun vs H Q _ => ∃ x y, vs = [x, y] ∧ SameV H n x y ∧ Q (.bl true) H
abbrev sp_l_same (K : PySem.W.Frag) : Sp := sp_sameN K 6
abbrev N_l_same : List Str := ["_law_found", "_law_due", "_law_k"]
def t_l_same_loop (K : PySem.W.Frag) (n : Nat) : TS := (tSeq (tIfS (tTest (tOp rNe (tCB (fLen K) (tCons (tVar 0) tNil)) (tCB (fLen K) (tCons (tVar 1) tNil)))) (tRet (tC (.bl false))) tNext)
    (tSeq (tFor (iRng1 (tCons (tCB (fLen K) (tCons (tVar 1) tNil)) tNil)) (gName 2) (tIfS (tNot (tB (tCall (sp_sameN K n) [] E0 (tCons (tOp (rIx K) (tVar 0) (tVar 2)) (tCons (tOp (rIx K) (tVar 1) (tVar 2)) tNil))))) (tRet (tC (.bl false))) tNext))
    (tRet (tC (.bl true)))))
def t_l_same_tail (K : PySem.W.Frag) (n : Nat) : TS := (tSeq (tIfS (tB (tCB (rIsi K) (tCons (tVar 1) (tCons (tC (.ty "bool")) tNil)))) (tRet (tAndV (tCB (rIsi K) (tCons (tVar 0) (tCons (tC (.ty "bool")) tNil))) (tOp rEq (tVar 0) (tVar 1)))) tNext)
    (tSeq (tIfS (tB (tCB (rIsi K) (tCons (tVar 1) (tCons (tC (.ty "int")) tNil)))) (tRet (tAndV (tCall (sp_l_int K) [] E0 (tCons (tVar 0) tNil)) (tOp rEq (tVar 0) (tVar 1)))) tNext)
    (tSeq (tIfS (tB (tCB (rIsi K) (tCons (tVar 1) (tCons (tC (.ty "str")) tNil)))) (tRet (tAndV (tCB (rIsi K) (tCons (tVar 0) (tCons (tC (.ty "str")) tNil))) (tOp rEq (tVar 0) (tVar 1)))) tNext)
    (tRet (tAndV (tOp fIsN (tVar 1) (tC .non)) (tOp fIsN (tVar 0) (tC .non)))))))
def t_l_same (K : PySem.W.Frag) (n : Nat) : TS := (tSeq (tIfS (tOr (tB (tCB (rIsi K) (tCons (tVar 1) (tCons (tC (.ty "tuple")) tNil)))) (tB (tCB (rIsi K) (tCons (tVar 1) (tCons (tC (.ty "list")) tNil))))) (tSeq (tIfS (tOr (tTest (tOp rNe (tCB (rIsi K) (tCons (tVar 1) (tCons (tC (.ty "tuple")) tNil))) (tCB (rIsi K) (tCons (tVar 0) (tCons (tC (.ty "tuple")) tNil))))) (tTest (tOp rNe (tCB (rIsi K) (tCons (tVar 1) (tCons (tC (.ty "list")) tNil))) (tCB (rIsi K) (tCons (tVar 0) (tCons (tC (.ty "list")) tNil)))))) (tRet (tC (.bl false))) tNext)
    (t_l_same_loop K n)) tNext)
    (t_l_same_tail K n))
section
variable {K : PySem.W.Frag} {H : Hp} {x : V} {Q : VK} {σ : L2.St} {c t : String} {b : Bool}
theorem isi (ty : TyX K H x (.type t)) (k : kitB t c = some b) (q : Q (.bl b) H) : tCons (tC (.ty c)) tNil σ H fun ys H2 => rIsi K (x :: ys) H2 Q := ⟨_, _, _, _, b, rfl, .ty _, ty, kit_ty k, q⟩
end
theorem k_it : kitB "int" "tuple" = some false := by decide +kernel
theorem k_il : kitB "int" "list" = some false := by decide +kernel
theorem k_ib : kitB "int" "bool" = some false := by decide +kernel
theorem k_ii : kitB "int" "int" = some true := by decide +kernel
theorem k_bt : kitB "bool" "tuple" = some false := by decide +kernel
theorem k_bl : kitB "bool" "list" = some false := by decide +kernel
theorem k_bb : kitB "bool" "bool" = some true := by decide +kernel
theorem k_bi : kitB "bool" "int" = some true := by decide +kernel
theorem k_st : kitB "str" "tuple" = some false := by decide +kernel
theorem k_sl : kitB "str" "list" = some false := by decide +kernel
theorem k_sb : kitB "str" "bool" = some false := by decide +kernel
theorem k_si : kitB "str" "int" = some false := by decide +kernel
theorem k_ss : kitB "str" "str" = some true := by decide +kernel
theorem k_nt : kitB "NoneType" "tuple" = some false := by decide +kernel
theorem k_nl : kitB "NoneType" "list" = some false := by decide +kernel
theorem k_nb : kitB "NoneType" "bool" = some false := by decide +kernel
theorem k_ni : kitB "NoneType" "int" = some false := by decide +kernel
theorem k_ns : kitB "NoneType" "str" = some false := by decide +kernel
theorem k_tt : kitB "tuple" "tuple" = some true := by decide +kernel
theorem k_tl : kitB "tuple" "list" = some false := by decide +kernel
theorem k_ti : kitB "tuple" "int" = some false := by decide +kernel
theorem k_tb : kitB "tuple" "bool" = some false := by decide +kernel
theorem k_lt : kitB "list" "tuple" = some false := by decide +kernel
theorem k_ll : kitB "list" "list" = some true := by decide +kernel
theorem k_li : kitB "list" "int" = some false := by decide +kernel
theorem k_lb : kitB "list" "bool" = some false := by decide +kernel
theorem len_le {n : Nat} (h : n ≤ 100000) : -(2 ^ 62 : Int) ≤ (n : Int) ∧ (n : Int) < 2 ^ 62 := by
  have e : (2 : Int) ^ 62 = 4611686018427387904 := by decide
  rw [e]
  omega
theorem pure_l_same {K : PySem.W.Frag} {n : Nat} {vs : List V} {H : Hp} {Q : VK} {E : XK} (h : sp_sameN K (n + 1) vs H Q E) : t_l_same K n { nx := fun _ H' => Q .non H', rt := Q } (start N_l_same vs) H := by
  obtain ⟨x, y, rfl, h, k⟩ := h
  rcases h with ⟨rfl, h⟩ | ⟨p, q, xs, ys, rfl, rfl, h, hl, hz, hs⟩
  · rcases h with rfl | ⟨i, rfl⟩ | ⟨b, rfl⟩ | ⟨z, rfl⟩
    · refine ⟨_, rfl, isi (.base .non) k_nt ⟨_, rfl, iteF ⟨_, rfl, isi (.base .non) k_nl ⟨_, rfl, iteF ?_⟩⟩⟩⟩
      refine ⟨_, rfl, isi (.base .non) k_nb ⟨_, rfl, iteF ?_⟩⟩
      refine ⟨_, rfl, isi (.base .non) k_ni ⟨_, rfl, iteF ?_⟩⟩
      refine ⟨_, rfl, isi (.base .non) k_ns ⟨_, rfl, iteF ?_⟩⟩
      exact ⟨_, rfl, rfl, _, rfl, iteT ⟨_, rfl, rfl, k⟩⟩
    · refine ⟨_, rfl, isi (.base (.int i)) k_it ⟨_, rfl, iteF ⟨_, rfl, isi (.base (.int i)) k_il ⟨_, rfl, iteF ?_⟩⟩⟩⟩
      refine ⟨_, rfl, isi (.base (.int i)) k_ib ⟨_, rfl, iteF ?_⟩⟩
      refine ⟨_, rfl, isi (.base (.int i)) k_ii ⟨_, rfl, iteT ?_⟩⟩
      refine ⟨_, rfl, i, rfl, _, rfl, iteT ⟨_, rfl, _, rfl, rfl, ?_⟩⟩
      rw [decide_eq_true rfl]
      exact k
    · refine ⟨_, rfl, isi (.base (.bl b)) k_bt ⟨_, rfl, iteF ⟨_, rfl, isi (.base (.bl b)) k_bl ⟨_, rfl, iteF ?_⟩⟩⟩⟩
      refine ⟨_, rfl, isi (.base (.bl b)) k_bb ⟨_, rfl, iteT ?_⟩⟩
      refine ⟨_, rfl, isi (.base (.bl b)) k_bb ⟨_, rfl, iteT ⟨_, rfl, _, rfl, rfl, ?_⟩⟩⟩
      rw [decide_eq_true rfl]
      exact k
    · refine ⟨_, rfl, isi (.base (.str z)) k_st ⟨_, rfl, iteF ⟨_, rfl, isi (.base (.str z)) k_sl ⟨_, rfl, iteF ?_⟩⟩⟩⟩
      refine ⟨_, rfl, isi (.base (.str z)) k_sb ⟨_, rfl, iteF ?_⟩⟩
      refine ⟨_, rfl, isi (.base (.str z)) k_si ⟨_, rfl, iteF ?_⟩⟩
      refine ⟨_, rfl, isi (.base (.str z)) k_ss ⟨_, rfl, iteT ?_⟩⟩
      refine ⟨_, rfl, isi (.base (.str z)) k_ss ⟨_, rfl, iteT ⟨_, rfl, _, rfl, rfl, ?_⟩⟩⟩
      rw [decide_eq_true rfl]
      exact k
  · -- the loop over both
    have loop : (∃ o, (H p = some o ∧ (o = .lst xs ∨ o = .tup xs))) → (∃ o, (H q = some o ∧ (o = .lst ys ∨ o = .tup ys))) → ∀ z2 : Option V,
        t_l_same_loop K n { nx := t_l_same_tail K n { nx := fun _ H' => Q .non H', rt := Q }, rt := Q } [some (.ref p), some (.ref q), z2] H := by
      intro hp hq z2
      have hlen : ∀ {r : Addr} {zs : List V} {R : VK} {σ : L2.St}, (∃ o, (H r = some o ∧ (o = .lst zs ∨ o = .tup zs))) → R (.int zs.length) H → tNil σ H fun ws H2 => fLen K (.ref r :: ws) H2 R := by
        rintro r zs R σ ⟨o, h1, rfl | rfl⟩ h2
        · exact lenL h1 h2
        · exact lenT h1 h2
      have hix : ∀ {r : Addr} {zs : List V} {R : VK} {i : Int} {v : V}, (∃ o, (H r = some o ∧ (o = .lst zs ∨ o = .tup zs))) → atI zs i = some v → R v H → rIx K (.ref r) (.int i) H R := by
        rintro r zs R i v ⟨o, h1, rfl | rfl⟩ h2 h3
        · exact ixL h1 h2 h3
        · exact ixT h1 h2 h3
      refine ⟨_, rfl, hlen hp ⟨_, rfl, hlen hq ⟨rfl, _, rfl, ?_⟩⟩⟩
      rw [decide_eq_true (show V.int (xs.length : Int) = V.int (ys.length : Int) by rw [hl])]
      refine iteF ?_
      refine ⟨_, rfl, hlen hq ⟨_, rfl, (len_le (by omega)).1, (len_le (by omega)).2, for_range (lo := 0) (n := ((ys.length : Int)).toNat) (fun i σ H' => H' = H ∧ ∃ z, σ = [some (.ref p), some (.ref q), z]) ⟨rfl, _, rfl⟩ ?_ ?_⟩⟩
      · rintro i σ H' hi ⟨rfl, z, rfl⟩
        have hi1 : i < ys.length := by omega
        have hi2 : i < xs.length := by omega
        have e1 : atI xs (0 + (i : Int)) = some xs[i] := by rw [Int.zero_add]; exact atI_nat (List.getElem?_eq_getElem hi2)
        have e2 : atI ys (0 + (i : Int)) = some ys[i] := by rw [Int.zero_add]; exact atI_nat (List.getElem?_eq_getElem hi1)
        refine ⟨_, rfl, _, rfl, hix hp e1 ⟨_, rfl, _, rfl, hix hq e2 ⟨_, _, rfl, hs i _ _ (List.getElem?_eq_getElem hi2) (List.getElem?_eq_getElem hi1), _, rfl, iteF ?_⟩⟩⟩
        exact ⟨rfl, _, rfl⟩
      · rintro σ H' ⟨rfl, z, rfl⟩
        exact k
    rcases h with ⟨h1, h2⟩ | ⟨h1, h2⟩
    · have t1 : TyX K H (.ref p) (.type "list") := .base (.lst h1)
      have t2 : TyX K H (.ref q) (.type "list") := .base (.lst h2)
      refine ⟨_, rfl, isi t2 k_lt ⟨_, rfl, iteF ⟨_, rfl, isi t2 k_ll ⟨_, rfl, iteT ?_⟩⟩⟩⟩
      refine ⟨_, rfl, isi t2 k_lt ⟨_, rfl, isi t1 k_lt ⟨rfl, _, rfl, iteF ⟨_, rfl, isi t2 k_ll ⟨_, rfl, isi t1 k_ll ⟨rfl, _, rfl, iteF ?_⟩⟩⟩⟩⟩⟩
      exact loop ⟨_, h1, .inl rfl⟩ ⟨_, h2, .inl rfl⟩ _
    · have t1 : TyX K H (.ref p) (.type "tuple") := .base (.tup h1)
      have t2 : TyX K H (.ref q) (.type "tuple") := .base (.tup h2)
      refine ⟨_, rfl, isi t2 k_tt ⟨_, rfl, iteT ?_⟩⟩
      refine ⟨_, rfl, isi t2 k_tt ⟨_, rfl, isi t1 k_tt ⟨rfl, _, rfl, iteF ⟨_, rfl, isi t2 k_tl ⟨_, rfl, isi t1 k_tl ⟨rfl, _, rfl, iteF ?_⟩⟩⟩⟩⟩⟩
      exact loop ⟨_, h1, .inr rfl⟩ ⟨_, h2, .inr rfl⟩ _
def sp_law (K : PySem.W.Frag) : Sp := fun vs H Q _ => ∃ (a : Addr) (ns : List Int), vs = [.ref a] ∧ SqL K H a (ns.map V.int) ∧ ns.length ≤ 63 ∧ ∀ H', Q (.bl true) H'
section
variable {K : PySem.W.Frag} {vs : List V} {H : Hp} {Q : VK} {E : XK}
theorem len_law (h : sp_law K vs H Q E) : vs.length = 1 := by
  obtain ⟨_, _, rfl, _⟩ := h
  rfl
theorem len_l_deck (h : sp_l_deck K vs H Q E) : vs.length = 1 := by
  obtain ⟨_, _, rfl, _⟩ := h
  rfl
theorem len_l_mixed (h : sp_l_mixed K vs H Q E) : vs.length = 2 := by
  obtain ⟨_, _, rfl, _⟩ := h
  rfl
theorem len_l_draw (h : sp_l_draw K vs H Q E) : vs.length = 2 := by
  obtain ⟨_, _, _, _, _, rfl, _⟩ := h
  rfl
theorem len_l_int (h : sp_l_int K vs H Q E) : vs.length = 1 := by
  obtain ⟨_, rfl, _⟩ := h
  rfl
theorem len_sameN {n : Nat} (h : sp_sameN K n vs H Q E) : vs.length = 2 := by
  obtain ⟨_, _, rfl, _⟩ := h
  rfl
end
/-! ### comprehensions whose elements change nothing -/
section
variable {K : PySem.W.Frag} {a : Addr} {xs ys : List V} {g : TG} {tt : TT} {te : TE} {vs : List Nat} {σ : L2.St} {H1 : Hp} {D : Addr} {Qd : Hp → Prop}
/-- [e for x in xs], xs a tuple, ys the values in order -/
theorem lc_mapT (hq : ∀ acc, SqT K (upd H1 D (.lst acc)) a xs) (hl : ys.length = xs.length) (hz : xs.length ≤ 100000)
    (hs : ∀ (i : Nat) (x y : V) (acc : List V) (R : VK), xs[i]? = some x → ys[i]? = some y → R y (upd H1 D (.lst acc)) → g x (wipe σ vs) (upd H1 D (.lst acc)) fun σ2 H2 => wipe σ2 vs = wipe σ vs ∧ tt σ2 H2 fun b H3 => if b = true then te σ2 H3 R else False)
    (hd : Qd (upd H1 D (.lst ys))) (mt : ∀ σ H P P', (∀ b H1, P b H1 → P' b H1) → tt σ H P → tt σ H P') (mg : ∀ v σ H P P', (∀ σ1 H1, P σ1 H1 → P' σ1 H1) → g v σ H P → g v σ H P') :
    ∃ W : Nat → Nat → Hp → Prop, (∃ m, W 0 m (upd H1 D (.lst []))) ∧ ∀ i m H, W i m H →
      ((Itt K a).stop i H ∧ Qd H) ∨ ((Itt K a).go i H ∧ ∃ Nx : Hp → Prop, (∀ H', Nx H' → ∃ m', m' < m ∧ W (i + 1) m' H') ∧ ∀ x H', (Itt K a).yld i H x H' → g x (wipe σ vs) H' fun σ2 H2 => wipe σ2 vs = wipe σ vs ∧ tt σ2 H2 fun b H3 =>
        if b = true then te σ2 H3 fun y H4 => ∃ acc, H4 D = some (.lst acc) ∧ acc.length < sizeLine ∧ Nx (upd H4 D (.lst (acc ++ [y]))) else Nx H3) := by
  refine lc_tup (K := K) (a := a) (xs := xs) (fun i H => H = upd H1 D (.lst (ys.take i))) (by rw [List.take_zero]) (fun i H _ e => by rw [e]; exact hq _) (fun i x H hx e => ?_) (fun H e => by
    rw [e, List.take_of_length_le (by omega)]
    exact hd)
  subst e
  have hi : i < ys.length := by
    have := (List.getElem?_eq_some_iff.mp hx).1
    omega
  refine mg _ _ _ _ _ (fun σ1 H2 q => ⟨q.1, mt _ _ _ _ (fun b H3 q2 => ?_) q.2⟩) (hs i x ys[i] (ys.take i) (fun y H4 => ∃ acc, H4 D = some (.lst acc) ∧ acc.length < sizeLine ∧ upd H4 D (.lst (acc ++ [y])) = upd H1 D (.lst (ys.take (i + 1)))) hx (List.getElem?_eq_getElem hi) ⟨ys.take i, upd_same, Nat.lt_of_le_of_lt (by rw [List.length_take]; omega : (ys.take i).length ≤ 100000) (by decide), by rw [upd_upd, List.take_add_one, List.getElem?_eq_getElem hi]; rfl⟩)
  cases b with
  | true => exact q2
  | false => exact q2.elim
theorem lc_mapL (hq : ∀ acc, SqL K (upd H1 D (.lst acc)) a xs) (hl : ys.length = xs.length) (hz : xs.length ≤ 100000)
    (hs : ∀ (i : Nat) (x y : V) (acc : List V) (R : VK), xs[i]? = some x → ys[i]? = some y → R y (upd H1 D (.lst acc)) → g x (wipe σ vs) (upd H1 D (.lst acc)) fun σ2 H2 => wipe σ2 vs = wipe σ vs ∧ tt σ2 H2 fun b H3 => if b = true then te σ2 H3 R else False)
    (hd : Qd (upd H1 D (.lst ys))) (mt : ∀ σ H P P', (∀ b H1, P b H1 → P' b H1) → tt σ H P → tt σ H P') (mg : ∀ v σ H P P', (∀ σ1 H1, P σ1 H1 → P' σ1 H1) → g v σ H P → g v σ H P') :
    ∃ W : Nat → Nat → Hp → Prop, (∃ m, W 0 m (upd H1 D (.lst []))) ∧ ∀ i m H, W i m H →
      ((Itl K a).stop i H ∧ Qd H) ∨ ((Itl K a).go i H ∧ ∃ Nx : Hp → Prop, (∀ H', Nx H' → ∃ m', m' < m ∧ W (i + 1) m' H') ∧ ∀ x H', (Itl K a).yld i H x H' → g x (wipe σ vs) H' fun σ2 H2 => wipe σ2 vs = wipe σ vs ∧ tt σ2 H2 fun b H3 =>
        if b = true then te σ2 H3 fun y H4 => ∃ acc, H4 D = some (.lst acc) ∧ acc.length < sizeLine ∧ Nx (upd H4 D (.lst (acc ++ [y]))) else Nx H3) := by
  refine lc_list (K := K) (a := a) (xs := xs) (fun i H => H = upd H1 D (.lst (ys.take i))) (by rw [List.take_zero]) (fun i H _ e => by rw [e]; exact hq _) (fun i x H hx e => ?_) (fun H e => by
    rw [e, List.take_of_length_le (by omega)]
    exact hd)
  subst e
  have hi : i < ys.length := by
    have := (List.getElem?_eq_some_iff.mp hx).1
    omega
  refine mg _ _ _ _ _ (fun σ1 H2 q => ⟨q.1, mt _ _ _ _ (fun b H3 q2 => ?_) q.2⟩) (hs i x ys[i] (ys.take i) (fun y H4 => ∃ acc, H4 D = some (.lst acc) ∧ acc.length < sizeLine ∧ upd H4 D (.lst (acc ++ [y])) = upd H1 D (.lst (ys.take (i + 1)))) hx (List.getElem?_eq_getElem hi) ⟨ys.take i, upd_same, Nat.lt_of_le_of_lt (by rw [List.length_take]; omega : (ys.take i).length ≤ 100000) (by decide), by rw [upd_upd, List.take_add_one, List.getElem?_eq_getElem hi]; rfl⟩)
  cases b with
  | true => exact q2
  | false => exact q2.elim
theorem mono_yes : ∀ (σ : L2.St) (H : Hp) (P P' : Bool → Hp → Prop), (∀ b H1, P b H1 → P' b H1) → tYes σ H P → tYes σ H P' := fun _ _ _ _ f h => f _ _ h
theorem mono_gName {k : Nat} : ∀ (v : V) (σ : L2.St) (H : Hp) (P P' : L2.St → Hp → Prop), (∀ σ1 H1, P σ1 H1 → P' σ1 H1) → gName k v σ H P → gName k v σ H P' := fun _ _ _ _ _ f h => f _ _ h
end
end Fw

set_option Elab.async false
set_option linter.all false
set_option maxRecDepth 100000
set_option maxHeartbeats 4000000
namespace Fw
open PySem PySem.Spec PyProof.Rows L2
theorem meets_ext (l b : Addr) (xs ys : Array Value) (n m : Nat) (od : Option Addr) (sl : Array (Option Value)) (short : ¬(!xs.isEmpty && Builtin.List.listTooLong (xs.size + ys.size)) = true) (z1 : xs.size ≤ sizeLine) (z2 : xs.size + ys.size ≤ sizeLine + 1) :
    Meets (Builtin.«list.extend» ⟨[.ref l, .ref b], []⟩) (fun _ R s => s.heap.get? l = some ⟨.type "list", none, .seq xs n, #[]⟩ ∧ s.heap.get? b = some ⟨.type "tuple", od, .seq ys m, sl⟩ ∧ R (.ok (.ret Value.none)) { s with heap := s.heap.update l (Obj.mapSeq fun x => x ++ ys), toks := s.toks }) :=
  .of_wp fun prog w A R s h => by
    obtain ⟨hp, g, d, tk, os⟩ := s
    obtain ⟨hl, hb, h⟩ := h
    have f1 := AutoSeq1.idx_int
    have f2 := AutoSeq1.sub_tuple_tuple
    have f3 := AutoSeq1.sub_list_list
    have f4 := AutoSeq1.sub_tuple_list
    have f5 := AutoSeq1.sub_list_tuple
    have hz' : (xs ++ ys).size ≤ sizeLine + 1 := by rw [Array.size_append]; exact z2
    wp_walk using (wpAny_updateSeq hl rfl (hz := z1) (_hz' := hz')), AutoSeq1.wpAny_loadPart' hl, AutoSeq1.wpAny_loadPart' hb
    exact ⟨_, rfl, h⟩
/-- l.extend(b): b another list, or a tuple -/
def rExtendA (K : PySem.W.Frag) : V → List V → Hp → VK → Prop := fun x vs H Q => ∃ (l b : Addr) (xs ys : List V), x = .ref l ∧ vs = [.ref b] ∧ H l = some (.lst xs) ∧ (H b = some (.lst ys) ∨ H b = some (.tup ys)) ∧ xs.length + ys.length ≤ 100000 ∧ Q .non (upd H l (.lst (xs ++ ys)))
theorem mt_extendA {X : Cx} : MtM X "list.extend" (rExtendA X.K) := by
  intro pins s σ H x vs v us Q inv rx rs rd
  obtain ⟨l, b, xs, ys, rfl, rfl, hl, hb, few, q⟩ := rd
  have few2 : xs.length + ys.length ≤ sizeLine := Nat.le_trans few (by decide)
  rcases hb with hb | hb
  · exact mt_extend pins s σ H _ _ v us Q inv rx rs ⟨l, b, xs, ys, rfl, rfl, hl, hb, few2, q⟩
  · cases rx
    obtain ⟨u, rfl, ru⟩ := rs.one
    cases ru
    obtain ⟨_, its, n, r, e0, e⟩ := inv.lstM hl
    obtain ⟨_, its2, r2, o, e2, c2, m, d2⟩ := (show ObjOk X.prog X.w H s.heap b (.tup ys) from inv.hok b _ hb)
    obtain ⟨oc, od, dt, sl⟩ := o
    simp only at c2 d2
    subst c2 d2
    have l2 := r2.length
    have sz : its.toArray.size + its2.toArray.size ≤ sizeLine := by rw [List.size_toArray, List.size_toArray]; omega
    have lng : ¬ (!its.toArray.isEmpty && Builtin.List.listTooLong (its.toArray.size + its2.toArray.size)) = true := by
      rw [notLongL sz, Bool.and_false]
      exact Bool.false_ne_true
    refine call_meets F.slot_list_extend ⟨_, e, rfl⟩ F.entry_list_extend (F.args_list_extend_2 _ _) (meets_ext l b its.toArray its2.toArray n m od sl lng (by rw [List.size_toArray]; omega) (by omega)) ⟨e, e2, ?_⟩
    refine ⟨.non, _, inv.lset (its' := its ++ its2) hl e (by simp) (r.append r2) ?_, rfl, q⟩
    rw [List.length_append]
    omega
end Fw

set_option Elab.async false
set_option linter.all false
set_option maxRecDepth 100000
set_option maxHeartbeats 4000000
namespace Fw
open PySem L2 RZ RT
theorem Dk.upd {c D q : Addr} {ns : List Int} {t : Nat} {H : Hp} {o : HO} (d : Dk c D ns t H) (h1 : q ≠ c) (h2 : q ≠ D) : Dk c D ns t (L2.upd H q o) := by
  obtain ⟨a, b, e, i, n, u, h, r⟩ := d
  exact ⟨a, updN h1.symm b, e, i, n, u, updN h2.symm h, r⟩
theorem Dk.le {c D : Addr} {ns : List Int} {t t' : Nat} {H : Hp} (d : Dk c D ns t H) (h : t ≤ t') : Dk c D ns t' H := by
  obtain ⟨a, b, e, i, n, u, hh, r1, r2, r3, r4, r5⟩ := d
  exact ⟨a, b, e, i, n, u, hh, r1, r2, r3, r4, by omega⟩
theorem Dk.someD {c D : Addr} {ns : List Int} {t : Nat} {H : Hp} (d : Dk c D ns t H) : ∃ xs, H D = some (.lst xs) := by
  obtain ⟨_, _, _, _, _, _, h, _⟩ := d
  exact ⟨_, h⟩
theorem Dk.someC {c D : Addr} {ns : List Int} {t : Nat} {H : Hp} (d : Dk c D ns t H) : ∃ xs, H c = some (.lst xs) := ⟨_, d.2.1⟩
theorem Dk.neD {c D q : Addr} {ns : List Int} {t : Nat} {H : Hp} (d : Dk c D ns t H) (h : H q = none) : q ≠ D := by
  obtain ⟨xs, e⟩ := d.someD
  exact (ne_of_none e h).symm
theorem Dk.neC {c D q : Addr} {ns : List Int} {t : Nat} {H : Hp} (d : Dk c D ns t H) (h : H q = none) : q ≠ c := by
  obtain ⟨xs, e⟩ := d.someC
  exact (ne_of_none e h).symm
/-- all but the deck stands -/
def Kp (D : Addr) (H H' : Hp) : Prop := ∀ b o, H b = some o → b ≠ D → H' b = some o
theorem Kp.refl (D : Addr) (H : Hp) : Kp D H H := fun _ _ e _ => e
theorem Kp.trans {D : Addr} {H H1 H2 : Hp} (a : Kp D H H1) (b : Kp D H1 H2) : Kp D H H2 := fun x o e n => b x o (a x o e n) n
theorem Kp.fr {D : Addr} {H H' : Hp} (f : ∀ b, b ≠ D → H' b = H b) : Kp D H H' := fun b o e n => by rw [f b n]; exact e
theorem Kp.new {D q : Addr} {H : Hp} {o : HO} (n : H q = none) : Kp D H (L2.upd H q o) := fun b u e _ => updN (ne_of_none e n) e
theorem Kp.of_same {D : Addr} {H H' : Hp} (s : Same H H') : Kp D H H' := fun b o e _ => s b o e
theorem Kp.tup {D : Addr} {H H' : Hp} {c : Addr} {ns : List Int} {t : Nat} (k : Kp D H H') (d : Dk c D ns t H) (a : Addr) (xs : List V) (h : H a = some (.tup xs)) : H' a = some (.tup xs) := by
  obtain ⟨ys, e⟩ := d.someD
  exact k a _ h (ne_of h e (by intro z; cases z))
/-- what was free at first, behind what keeps -/
theorem Kp.free {D q : Addr} {H H' : Hp} (k : Kp D H H') (h : H' q = none) (n : q ≠ D) : H q = none := by
  cases e : H q with
  | none => rfl
  | some o => rw [k q o e n] at h; cases h
end Fw

set_option Elab.async false
set_option linter.all false
set_option maxRecDepth 100000
set_option maxHeartbeats 4000000
namespace Fw
open PySem L2 RZ RT
abbrev rLeS : R2 := fun x y H Q => ∃ i j, x = .str i ∧ y = .str j ∧ Q (.bl (!decide (j.cps.toList < i.cps.toList))) H
abbrev rLtS : R2 := fun x y H Q => ∃ i j, x = .str i ∧ y = .str j ∧ Q (.bl (decide (i.cps.toList < j.cps.toList))) H
def fOrd : List V → Hp → VK → Prop := fun xs H Q => ∃ x, xs = [.str x] ∧ x.length = 1 ∧ Q (.int (x.cps.getD 0 0 : Nat)) H
def fJoin (K : PySem.W.Frag) : V → List V → Hp → VK → Prop := fun x xs H Q => ∃ a p, ∃ ys : List Str, x = .str a ∧ xs = [.ref p] ∧ (SqL K H p (ys.map V.str) ∨ SqT K H p (ys.map V.str)) ∧ (ys.map (·.length)).sum + ys.length * a.length ≤ 16777216 ∧ Q (.str (Txt.join a ys)) H
theorem ixS {K : PySem.W.Frag} {H : Hp} {z : Str} {i : Int} {c : Nat} {Q : VK} (hz : z.length ≤ 1000) (ha : atI z.cps.toList i = some c) (q : Q (.str ⟨#[c]⟩) H) : rIx K (.str z) (.int i) H Q := .inr (.inr ⟨z, i, c, rfl, rfl, Nat.le_trans hz (by decide), ha, q⟩)
theorem lenS {K : PySem.W.Frag} {H : Hp} {z : Str} {Q : VK} {σ : L2.St} (hz : z.length ≤ 1000) (q : Q (.int z.length) H) : tNil σ H fun ys H2 => fLen K (.str z :: ys) H2 Q := ⟨_, _, rfl, ⟨Nat.le_trans hz (by decide), rfl⟩, q⟩
theorem Same.upd {H : Hp} {p : Addr} {o : HO} (n : H p = none) : Same H (upd H p o) := fun b u e => updN (ne_of_none e n) e
theorem Same.updI {H H' : Hp} {p : Addr} {o : HO} (s : Same H H') (n : H p = none) : Same H (L2.upd H' p o) := fun b u e => updN (ne_of_none e n) (s b u e)
/-- a comprehension whose elements may make new things, nothing else -/
theorem lc_grow {J : It} {n : Nat} {G : Hp → Prop} {Y : Nat → Hp → V → Hp → Prop} (w : Walk J n G Y) (hY : ∀ i H x H', Y i H x H' → H' = H) {k : Nat} {te : TE} {vs : List Nat} {σ : L2.St} {H1 : Hp} {D : Addr} {Qd : Hp → Prop} {ys : List V}
    (hD : H1 D = none) (hl : ys.length = n) (hz : n ≤ 100000) (hG : ∀ H', Same H1 H' → G H')
    (hs : ∀ (i : Nat) (x y : V) (H' : Hp) (R : VK), i < n → Y i H' x H' → ys[i]? = some y → Same H1 H' → (∀ H'', Same H' H'' → R y H'') → wipe ((wipe σ vs).set k (some x)) vs = wipe σ vs ∧ te ((wipe σ vs).set k (some x)) H' R)
    (hd : ∀ H', Same H1 H' → H' D = some (.lst ys) → Qd H') :
    ∃ W : Nat → Nat → Hp → Prop, (∃ m, W 0 m (L2.upd H1 D (.lst []))) ∧ ∀ i m H, W i m H →
      (J.stop i H ∧ Qd H) ∨ (J.go i H ∧ ∃ Nx : Hp → Prop, (∀ H', Nx H' → ∃ m', m' < m ∧ W (i + 1) m' H') ∧ ∀ x H', J.yld i H x H' → gName k x (wipe σ vs) H' fun σ2 H2 => wipe σ2 vs = wipe σ vs ∧ tYes σ2 H2 fun b H3 =>
        if b = true then te σ2 H3 fun y H4 => ∃ acc, H4 D = some (.lst acc) ∧ acc.length < sizeLine ∧ Nx (L2.upd H4 D (.lst (acc ++ [y]))) else Nx H3) := by
  refine lc_it w (fun i H => Same H1 H ∧ H D = some (.lst (ys.take i))) ⟨Same.upd hD, updS⟩ (fun i H _ p => hG H p.1) (fun i x H H' hi p hy => ?_) (fun H p => hd H p.1 (by rw [p.2, List.take_of_length_le (by omega)]))
  have e := hY i H x H' hy
  subst e
  have hi2 : i < ys.length := by omega
  obtain ⟨q1, q2⟩ := hs i x ys[i] H' (fun y H4 => ∃ acc, H4 D = some (.lst acc) ∧ acc.length < sizeLine ∧ (Same H1 (L2.upd H4 D (.lst (acc ++ [y]))) ∧ L2.upd H4 D (.lst (acc ++ [y])) D = some (.lst (ys.take (i + 1))))) hi hy (List.getElem?_eq_getElem hi2) p.1 (fun H'' s => ⟨_, s _ _ p.2, Nat.lt_of_le_of_lt (by rw [List.length_take]; omega : (ys.take i).length ≤ 100000) (by decide), Same.updI (Same.trans p.1 s) hD, by rw [updS, List.take_add_one, List.getElem?_eq_getElem hi2]; rfl⟩)
  exact ⟨q1, q2⟩
/-- the same where each element draws: what it gives keeps P -/
theorem lc_deck {J : It} {n : Nat} {Y : Nat → Hp → V → Hp → Prop} (w : Walk J n (fun _ => True) Y) (hY : ∀ i H x H', Y i H x H' → H' = H) {α : Type} (f : α → V) (P : α → Prop) (st : Nat) {k : Nat} {te : TE} {vs : List Nat} {σ : L2.St} {H1 : Hp} {L : Addr} {Qd : Hp → Prop} {c D : Addr} {ns : List Int} {t : Nat}
    (hL : H1 L = none) (dk : Dk c D ns t H1) (hz : n ≤ 100000)
    (hs : ∀ (i : Nat) (x : V) (H' : Hp) (R : VK), i < n → Kp D H1 H' → Dk c D ns (t + st * i) H' → (∀ y H'', P y → Kp D H' H'' → Dk c D ns (t + st * i + st) H'' → R (f y) H'') → wipe ((wipe σ vs).set k (some x)) vs = wipe σ vs ∧ te ((wipe σ vs).set k (some x)) H' R)
    (hd : ∀ (ys : List α) (H' : Hp), ys.length = n → (∀ y ∈ ys, P y) → Kp D H1 H' → Dk c D ns (t + st * n) H' → H' L = some (.lst (ys.map f)) → Qd H') :
    ∃ W : Nat → Nat → Hp → Prop, (∃ m, W 0 m (L2.upd H1 L (.lst []))) ∧ ∀ i m H, W i m H →
      (J.stop i H ∧ Qd H) ∨ (J.go i H ∧ ∃ Nx : Hp → Prop, (∀ H', Nx H' → ∃ m', m' < m ∧ W (i + 1) m' H') ∧ ∀ x H', J.yld i H x H' → gName k x (wipe σ vs) H' fun σ2 H2 => wipe σ2 vs = wipe σ vs ∧ tYes σ2 H2 fun b H3 =>
        if b = true then te σ2 H3 fun y H4 => ∃ acc, H4 L = some (.lst acc) ∧ acc.length < sizeLine ∧ Nx (L2.upd H4 L (.lst (acc ++ [y]))) else Nx H3) := by
  have nLD : L ≠ D := dk.neD hL
  have nLC : L ≠ c := dk.neC hL
  refine lc_it w (fun i H => ∃ ys : List α, ys.length = i ∧ (∀ y ∈ ys, P y) ∧ Kp D H1 H ∧ Dk c D ns (t + st * i) H ∧ H L = some (.lst (ys.map f))) ⟨[], rfl, (fun _ h => by cases h), .new hL, dk.upd nLC nLD, updS⟩ (fun _ _ _ _ => True.intro) ?_ ?_
  · rintro i x H H' hi ⟨ys, hl, hp, kp, dk2, hLs⟩ hy
    have e := hY i H x H' hy
    subst e
    obtain ⟨q1, q2⟩ := hs i x H' (fun y H4 => ∃ acc, H4 L = some (.lst acc) ∧ acc.length < sizeLine ∧ ∃ ys : List α, ys.length = i + 1 ∧ (∀ y ∈ ys, P y) ∧ Kp D H1 (L2.upd H4 L (.lst (acc ++ [y]))) ∧ Dk c D ns (t + st * (i + 1)) (L2.upd H4 L (.lst (acc ++ [y]))) ∧ L2.upd H4 L (.lst (acc ++ [y])) L = some (.lst (ys.map f))) hi kp dk2 (fun y H'' py k2 d2 => by
      refine ⟨_, k2 _ _ hLs nLD, Nat.lt_of_le_of_lt (by rw [List.length_map]; omega : (ys.map f).length ≤ 100000) (by decide), ys ++ [y], by rw [List.length_append, hl]; rfl, fun z hz2 => ?_, fun b o e n => updN (ne_of_none e hL) ((kp.trans k2) b o e n), ?_, by rw [updS, List.map_append]; rfl⟩
      · rcases List.mem_append.mp hz2 with h | h
        · exact hp z h
        · cases List.mem_singleton.mp h
          exact py
      · have e2 : t + st * (i + 1) = t + st * i + st := by rw [Nat.mul_add, Nat.mul_one, Nat.add_assoc]
        rw [e2]
        exact d2.upd nLC nLD)
    exact ⟨q1, q2⟩
  · rintro H ⟨ys, hl, hp, kp, dk2, hLs⟩
    exact hd ys H hl hp kp dk2 hLs
/-! ### the same data, where looking makes new things -/
theorem SameV.mono {H H' : Hp} (s : Same H H') : ∀ {n : Nat} {x y : V}, SameV H n x y → SameV H' n x y
  | 0, _, _, h => h
  | n + 1, x, y, h => by
    rcases h with h | ⟨p, q, xs, ys, rfl, rfl, h, hl, hz, hs⟩
    · exact .inl h
    · refine .inr ⟨p, q, xs, ys, rfl, rfl, h.imp (fun h => ⟨s _ _ h.1, s _ _ h.2⟩) (fun h => ⟨s _ _ h.1, s _ _ h.2⟩), hl, hz, fun i a b h1 h2 => (hs i a b h1 h2).mono s⟩
theorem SameV.strs {H : Hp} {n : Nat} {zs : List Str} : ∀ (i : Nat) (a b : V), (zs.map V.str)[i]? = some a → (zs.map V.str)[i]? = some b → SameV H (n + 1) a b := fun i a b h1 h2 => by
  have e : a = b := Option.some.inj (h1.symm.trans h2)
  rw [List.getElem?_map] at h1
  cases q : zs[i]? with
  | none => rw [q] at h1; cases h1
  | some z => rw [q] at h1; exact Or.inl ⟨e, .inr (.inr (.inr ⟨z, (Option.some.inj h1).symm⟩))⟩
def sp_same2N (_ : PySem.W.Frag) (n : Nat) : Sp := fun vs H Q _ => ∃ x y, vs = [x, y] ∧ SameV H n x y ∧ ∀ H', Same H H' → Q (.bl true) H'
abbrev sp_l_same2 (K : PySem.W.Frag) : Sp := sp_same2N K 6
theorem len_same2N {K : PySem.W.Frag} {vs : List V} {H : Hp} {Q : VK} {E : XK} {n : Nat} (h : sp_same2N K n vs H Q E) : vs.length = 2 := by
  obtain ⟨_, _, rfl, _⟩ := h
  rfl
def t_l_same2_loop (K : PySem.W.Frag) (n : Nat) : TS := (tSeq (tIfS (tTest (tOp rNe (tCB (fLen K) (tCons (tVar 0) tNil)) (tCB (fLen K) (tCons (tVar 1) tNil)))) (tRet (tC (.bl false))) tNext)
    (tSeq (tFor (iRng1 (tCons (tCB (fLen K) (tCons (tVar 1) tNil)) tNil)) (gName 2) (tIfS (tNot (tB (tCall (sp_same2N K n) [] E0 (tCons (tOp (rIx K) (tVar 0) (tVar 2)) (tCons (tOp (rIx K) (tVar 1) (tVar 2)) tNil))))) (tRet (tC (.bl false))) tNext))
    (tRet (tC (.bl true)))))
def t_l_same2_tail (K : PySem.W.Frag) (n : Nat) : TS := (tSeq (tIfS (tB (tCB (rIsi K) (tCons (tVar 1) (tCons (tC (.ty "dict")) tNil)))) tNever tNext)
    (tSeq (tIfS (tB (tCB (rIsi K) (tCons (tVar 1) (tCons (tC (.ty "bool")) tNil)))) (tRet (tAndV (tCB (rIsi K) (tCons (tVar 0) (tCons (tC (.ty "bool")) tNil))) (tOp rEq (tVar 0) (tVar 1)))) tNext)
    (tSeq (tIfS (tB (tCB (rIsi K) (tCons (tVar 1) (tCons (tC (.ty "int")) tNil)))) (tRet (tAndV (tCall (sp_l_int K) [] E0 (tCons (tVar 0) tNil)) (tOp rEq (tVar 0) (tVar 1)))) tNext)
    (tSeq (tIfS (tB (tCB (rIsi K) (tCons (tVar 1) (tCons (tC (.ty "str")) tNil)))) (tRet (tAndV (tCB (rIsi K) (tCons (tVar 0) (tCons (tC (.ty "str")) tNil))) (tOp rEq (tVar 0) (tVar 1)))) tNext)
    (tRet (tAndV (tOp fIsN (tVar 1) (tC .non)) (tOp fIsN (tVar 0) (tC .non))))))))
def t_l_same2 (K : PySem.W.Frag) (n : Nat) : TS := (tSeq (tIfS (tB (tCB (rIsiT K) (tCons (tVar 1) (tCons (tTup (tCons (tC (.ty "tuple")) (tCons (tC (.ty "list")) tNil))) tNil)))) (tSeq (tIfS (tOr (tTest (tOp rNe (tCB (rIsi K) (tCons (tVar 1) (tCons (tC (.ty "tuple")) tNil))) (tCB (rIsi K) (tCons (tVar 0) (tCons (tC (.ty "tuple")) tNil))))) (tTest (tOp rNe (tCB (rIsi K) (tCons (tVar 1) (tCons (tC (.ty "list")) tNil))) (tCB (rIsi K) (tCons (tVar 0) (tCons (tC (.ty "list")) tNil)))))) (tRet (tC (.bl false))) tNext)
    (t_l_same2_loop K n)) tNext)
    (t_l_same2_tail K n))
section
variable {K : PySem.W.Frag} {H : Hp} {x : V} {Q : VK} {σ : L2.St} {t : String} {b : Bool}
/-- isinstance(x, (tuple, list)) -/
theorem isi2 (ty : ∀ H', Same H H' → TyX K H' x (.type t)) {b1 b2 : Bool} (k1 : kitB t "tuple" = some b1) (k2 : kitB t "list" = some b2) (q : ∀ T, H T = none → Q (.bl (b1 || b2)) (upd H T (.tup [.ty "tuple", .ty "list"]))) :
    tCons (tTup (tCons (tC (.ty "tuple")) (tCons (tC (.ty "list")) tNil))) tNil σ H fun ys H2 => rIsiT K (x :: ys) H2 Q := by
  refine ⟨by show (2 : Nat) ≤ sizeLine; decide, fun T nT => ⟨x, T, _, _, [.type "tuple", .type "list"], (b1 || b2), rfl, updS, .cons (.ty _) (.cons (.ty _) .nil), ty _ (Same.upd nT), ?_, q T nT⟩⟩
  refine kitAny_cons (kit_ty k1) (fun e => ?_) (fun e => by rw [e]; rfl)
  subst e
  exact kitAny_cons (kit_ty k2) (fun e => by subst e; exact kitAny_nil) (fun e => by rw [e]; rfl)
end
theorem k_id : kitB "int" "dict" = some false := by decide +kernel
theorem k_bd : kitB "bool" "dict" = some false := by decide +kernel
theorem k_sd : kitB "str" "dict" = some false := by decide +kernel
theorem k_nd : kitB "NoneType" "dict" = some false := by decide +kernel
theorem pure_l_same2 {K : PySem.W.Frag} {n : Nat} {vs : List V} {H : Hp} {Q : VK} {E : XK} (h : sp_same2N K (n + 1) vs H Q E) : t_l_same2 K n { nx := fun _ H' => Q .non H', rt := Q } (start N_l_same vs) H := by
  obtain ⟨x, y, rfl, h, k⟩ := h
  rcases h with ⟨rfl, h⟩ | ⟨p, q, xs, ys, rfl, rfl, h, hl, hz, hs⟩
  · rcases h with rfl | ⟨i, rfl⟩ | ⟨b, rfl⟩ | ⟨z, rfl⟩
    · refine ⟨_, rfl, isi2 (fun _ _ => .base .non) k_nt k_nl fun T nT => ⟨_, rfl, iteF ?_⟩⟩
      refine ⟨_, rfl, isi (.base .non) k_nd ⟨_, rfl, iteF ?_⟩⟩
      refine ⟨_, rfl, isi (.base .non) k_nb ⟨_, rfl, iteF ?_⟩⟩
      refine ⟨_, rfl, isi (.base .non) k_ni ⟨_, rfl, iteF ?_⟩⟩
      refine ⟨_, rfl, isi (.base .non) k_ns ⟨_, rfl, iteF ?_⟩⟩
      exact ⟨_, rfl, rfl, _, rfl, iteT ⟨_, rfl, rfl, k _ (Same.upd nT)⟩⟩
    · refine ⟨_, rfl, isi2 (fun _ _ => .base (.int i)) k_it k_il fun T nT => ⟨_, rfl, iteF ?_⟩⟩
      refine ⟨_, rfl, isi (.base (.int i)) k_id ⟨_, rfl, iteF ?_⟩⟩
      refine ⟨_, rfl, isi (.base (.int i)) k_ib ⟨_, rfl, iteF ?_⟩⟩
      refine ⟨_, rfl, isi (.base (.int i)) k_ii ⟨_, rfl, iteT ?_⟩⟩
      refine ⟨_, rfl, i, rfl, _, rfl, iteT ⟨_, rfl, _, rfl, rfl, ?_⟩⟩
      rw [decide_eq_true rfl]
      exact k _ (Same.upd nT)
    · refine ⟨_, rfl, isi2 (fun _ _ => .base (.bl b)) k_bt k_bl fun T nT => ⟨_, rfl, iteF ?_⟩⟩
      refine ⟨_, rfl, isi (.base (.bl b)) k_bd ⟨_, rfl, iteF ?_⟩⟩
      refine ⟨_, rfl, isi (.base (.bl b)) k_bb ⟨_, rfl, iteT ?_⟩⟩
      refine ⟨_, rfl, isi (.base (.bl b)) k_bb ⟨_, rfl, iteT ⟨_, rfl, _, rfl, rfl, ?_⟩⟩⟩
      rw [decide_eq_true rfl]
      exact k _ (Same.upd nT)
    · refine ⟨_, rfl, isi2 (fun _ _ => .base (.str z)) k_st k_sl fun T nT => ⟨_, rfl, iteF ?_⟩⟩
      refine ⟨_, rfl, isi (.base (.str z)) k_sd ⟨_, rfl, iteF ?_⟩⟩
      refine ⟨_, rfl, isi (.base (.str z)) k_sb ⟨_, rfl, iteF ?_⟩⟩
      refine ⟨_, rfl, isi (.base (.str z)) k_si ⟨_, rfl, iteF ?_⟩⟩
      refine ⟨_, rfl, isi (.base (.str z)) k_ss ⟨_, rfl, iteT ?_⟩⟩
      refine ⟨_, rfl, isi (.base (.str z)) k_ss ⟨_, rfl, iteT ⟨_, rfl, _, rfl, rfl, ?_⟩⟩⟩
      rw [decide_eq_true rfl]
      exact k _ (Same.upd nT)
  · have loop : ∀ H0 : Hp, Same H H0 → (∃ o, (H p = some o ∧ (o = .lst xs ∨ o = .tup xs))) → (∃ o, (H q = some o ∧ (o = .lst ys ∨ o = .tup ys))) → ∀ z2 : Option V,
        t_l_same2_loop K n { nx := t_l_same2_tail K n { nx := fun _ H' => Q .non H', rt := Q }, rt := Q } [some (.ref p), some (.ref q), z2] H0 := by
      intro H0 s0 hp hq z2
      have hlen : ∀ {r : Addr} {zs : List V} {R : VK} {σ : L2.St} {H1 : Hp}, (∃ o, (H r = some o ∧ (o = .lst zs ∨ o = .tup zs))) → Same H H1 → R (.int zs.length) H1 → tNil σ H1 fun ws H2 => fLen K (.ref r :: ws) H2 R := by
        rintro r zs R σ H1 ⟨o, h1, rfl | rfl⟩ s h2
        · exact lenL (s _ _ h1) h2
        · exact lenT (s _ _ h1) h2
      have hix : ∀ {r : Addr} {zs : List V} {R : VK} {i : Int} {v : V} {H1 : Hp}, (∃ o, (H r = some o ∧ (o = .lst zs ∨ o = .tup zs))) → Same H H1 → atI zs i = some v → R v H1 → rIx K (.ref r) (.int i) H1 R := by
        rintro r zs R i v H1 ⟨o, h1, rfl | rfl⟩ s h2 h3
        · exact ixL (s _ _ h1) h2 h3
        · exact ixT (s _ _ h1) h2 h3
      refine ⟨_, rfl, hlen hp s0 ⟨_, rfl, hlen hq s0 ⟨rfl, _, rfl, ?_⟩⟩⟩
      rw [decide_eq_true (show V.int (xs.length : Int) = V.int (ys.length : Int) by rw [hl])]
      refine iteF ?_
      refine ⟨_, rfl, hlen hq s0 ⟨_, rfl, (len_le (by omega)).1, (len_le (by omega)).2, for_range (lo := 0) (n := ((ys.length : Int)).toNat) (fun i σ H' => Same H H' ∧ ∃ z, σ = [some (.ref p), some (.ref q), z]) ⟨s0, _, rfl⟩ ?_ ?_⟩⟩
      · rintro i σ H' hi ⟨s1, z, rfl⟩
        have hi1 : i < ys.length := by omega
        have hi2 : i < xs.length := by omega
        have e1 : atI xs (0 + (i : Int)) = some xs[i] := by rw [Int.zero_add]; exact atI_nat (List.getElem?_eq_getElem hi2)
        have e2 : atI ys (0 + (i : Int)) = some ys[i] := by rw [Int.zero_add]; exact atI_nat (List.getElem?_eq_getElem hi1)
        refine ⟨_, rfl, _, rfl, hix hp s1 e1 ⟨_, rfl, _, rfl, hix hq s1 e2 ⟨_, _, rfl, (hs i _ _ (List.getElem?_eq_getElem hi2) (List.getElem?_eq_getElem hi1)).mono s1, fun H2 s2 => ⟨_, rfl, iteF ?_⟩⟩⟩⟩
        exact ⟨s1.trans s2, _, rfl⟩
      · rintro σ H' ⟨s1, z, rfl⟩
        exact k _ s1
    rcases h with ⟨h1, h2⟩ | ⟨h1, h2⟩
    · have t1 : ∀ H', Same H H' → TyX K H' (.ref p) (.type "list") := fun H' s => .base (.lst (s _ _ h1))
      have t2 : ∀ H', Same H H' → TyX K H' (.ref q) (.type "list") := fun H' s => .base (.lst (s _ _ h2))
      refine ⟨_, rfl, isi2 t2 k_lt k_ll fun T nT => ⟨_, rfl, iteT ?_⟩⟩
      have s0 : Same H (upd H T (.tup [.ty "tuple", .ty "list"])) := Same.upd nT
      refine ⟨_, rfl, isi (t2 _ s0) k_lt ⟨_, rfl, isi (t1 _ s0) k_lt ⟨rfl, _, rfl, iteF ⟨_, rfl, isi (t2 _ s0) k_ll ⟨_, rfl, isi (t1 _ s0) k_ll ⟨rfl, _, rfl, iteF ?_⟩⟩⟩⟩⟩⟩
      exact loop _ s0 ⟨_, h1, .inl rfl⟩ ⟨_, h2, .inl rfl⟩ _
    · have t1 : ∀ H', Same H H' → TyX K H' (.ref p) (.type "tuple") := fun H' s => .base (.tup (s _ _ h1))
      have t2 : ∀ H', Same H H' → TyX K H' (.ref q) (.type "tuple") := fun H' s => .base (.tup (s _ _ h2))
      refine ⟨_, rfl, isi2 t2 k_tt k_tl fun T nT => ⟨_, rfl, iteT ?_⟩⟩
      have s0 : Same H (upd H T (.tup [.ty "tuple", .ty "list"])) := Same.upd nT
      refine ⟨_, rfl, isi (t2 _ s0) k_tt ⟨_, rfl, isi (t1 _ s0) k_tt ⟨rfl, _, rfl, iteF ⟨_, rfl, isi (t2 _ s0) k_tl ⟨_, rfl, isi (t1 _ s0) k_tl ⟨rfl, _, rfl, iteF ?_⟩⟩⟩⟩⟩⟩
      exact loop _ s0 ⟨_, h1, .inr rfl⟩ ⟨_, h2, .inr rfl⟩ _
end Fw

set_option Elab.async false
set_option linter.all false
set_option maxRecDepth 100000
set_option maxHeartbeats 4000000
namespace Fw
open PySem L2 RZ RT
/-! ### rows, pieces, scripts -/
def OkC (c : Nat) : Prop := 32 ≤ c ∧ c ≤ 126 ∧ c ≠ 37
def OkS (z : Str) : Prop := z.cps.size ≤ 40 ∧ ∀ c ∈ z.cps.toList, OkC c
inductive Pc where
  | take (b m : Nat)
  | put (rs : List Str)
def Pc.n : Pc → Nat
  | .take _ m => m
  | .put rs => rs.length
def Pc.ok : Pc → Prop
  | .take _ m => 1 ≤ m
  | .put rs => rs ≠ [] ∧ ∀ z ∈ rs, OkS z
def Pc.fits (L : Nat) : Pc → Prop
  | .take b m => b + m ≤ L
  | .put _ => True
def Pc.mk (bs : List Str) : Pc → List Str
  | .take b m => (bs.drop b).take m
  | .put rs => rs
def Pc.cost (t p : Int) : Pc → Int
  | .take _ _ => t
  | .put rs => p * (rs.length : Int)
def total (ps : List Pc) : Nat := (ps.map Pc.n).sum
def makes (bs : List Str) (ps : List Pc) : List Str := (ps.map (Pc.mk bs)).flatten
def cost (t p : Int) (ps : List Pc) : Int := (ps.map (Pc.cost t p)).sum
structure ScOk (ps : List Pc) : Prop where
  ok : ∀ p ∈ ps, p.ok
  few : total ps ≤ 40
theorem Pc.one {p : Pc} (h : p.ok) : 1 ≤ p.n := by
  cases p with
  | take b m => exact h
  | put rs => exact List.length_pos_iff.mpr h.1
theorem len_le_total : ∀ {ps : List Pc}, (∀ p ∈ ps, p.ok) → ps.length ≤ total ps
  | [], _ => Nat.le_refl _
  | p :: ps, h => by
    have a := len_le_total (ps := ps) fun q hq => h q (List.mem_cons_of_mem _ hq)
    have b := Pc.one (h p (List.mem_cons_self ..))
    show ps.length + 1 ≤ p.n + (ps.map Pc.n).sum
    have e : total ps = (ps.map Pc.n).sum := rfl
    omega
theorem ScOk.len {ps : List Pc} (h : ScOk ps) : ps.length ≤ 40 := Nat.le_trans (len_le_total h.ok) h.few
theorem n_le_total : ∀ {ps : List Pc} {p : Pc}, p ∈ ps → p.n ≤ total ps
  | q :: ps, p, h => by
    have e : total (q :: ps) = q.n + total ps := rfl
    rcases List.mem_cons.mp h with h | h
    · rw [h, e]; omega
    · have := n_le_total h
      omega
theorem mk_len {bs : List Str} {p : Pc} (h : p.fits bs.length) : (p.mk bs).length = p.n := by
  cases p with
  | take b m =>
    show ((bs.drop b).take m).length = m
    have h : b + m ≤ bs.length := h
    rw [List.length_take, List.length_drop]
    omega
  | put rs => rfl
theorem makes_len {bs : List Str} : ∀ {ps : List Pc}, (∀ p ∈ ps, p.fits bs.length) → (makes bs ps).length = total ps
  | [], _ => rfl
  | p :: ps, h => by
    show (p.mk bs ++ makes bs ps).length = p.n + total ps
    rw [List.length_append, mk_len (h p (List.mem_cons_self ..)), makes_len fun q hq => h q (List.mem_cons_of_mem _ hq)]
/-! ### as they stand in the heap -/
def TM (H H' : Hp) : Prop := ∀ (a : Addr) (xs : List V), H a = some (.tup xs) → H' a = some (.tup xs)
theorem TM.of {H H' : Hp} (s : Same H H') : TM H H' := fun a xs h => s _ _ h
theorem TM.trans {H H1 H2 : Hp} (a : TM H H1) (b : TM H1 H2) : TM H H2 := fun x xs h => b _ _ (a _ _ h)
theorem Kp.tm {D : Addr} {H H' : Hp} {c : Addr} {ns : List Int} {t : Nat} (k : Kp D H H') (d : Dk c D ns t H) : TM H H' := fun a xs h => k.tup d a xs h
def RwAt (H : Hp) (a : Addr) (rs : List Str) : Prop := H a = some (.tup (rs.map V.str))
def PcAt (H : Hp) (a : Addr) : Pc → Prop
  | .take b m => H a = some (.tup [.str "take", .int (b : Int), .int (m : Int)])
  | .put rs => ∃ r, H a = some (.tup [.str "put", .ref r]) ∧ RwAt H r rs
theorem PcAt.mono {H H' : Hp} {a : Addr} {p : Pc} (h : PcAt H a p) (s : TM H H') : PcAt H' a p := by
  cases p with
  | take b m => exact s _ _ h
  | put rs =>
    obtain ⟨r, h1, h2⟩ := h
    exact ⟨r, s _ _ h1, s _ _ h2⟩
/-- the pieces at these addresses -/
def PsAt (H : Hp) (as : List Addr) (ps : List Pc) : Prop := as.length = ps.length ∧ ∀ (i : Nat) (a : Addr) (p : Pc), as[i]? = some a → ps[i]? = some p → PcAt H a p
theorem PsAt.mono {H H' : Hp} {as : List Addr} {ps : List Pc} (h : PsAt H as ps) (s : TM H H') : PsAt H' as ps := ⟨h.1, fun i a p h1 h2 => (h.2 i a p h1 h2).mono s⟩
theorem PsAt.nil {H : Hp} : PsAt H [] [] := ⟨rfl, fun i a p h => by cases h⟩
theorem PsAt.snoc {H : Hp} {as : List Addr} {ps : List Pc} {T : Addr} {p : Pc} (h : PsAt H as ps) (hT : PcAt H T p) : PsAt H (as ++ [T]) (ps ++ [p]) := by
  refine ⟨by rw [List.length_append, List.length_append, h.1]; rfl, fun i a m h1 h2 => ?_⟩
  by_cases hi : i < as.length
  · rw [List.getElem?_append_left hi] at h1
    rw [List.getElem?_append_left (by rw [← h.1]; exact hi)] at h2
    exact h.2 i a m h1 h2
  · have hi2 : i < (as ++ [T]).length := (List.getElem?_eq_some_iff.mp h1).1
    rw [List.length_append, List.length_singleton] at hi2
    have e : i = as.length := by omega
    rw [List.getElem?_append_right (by omega), e, Nat.sub_self] at h1
    rw [List.getElem?_append_right (by rw [← h.1]; omega), e, h.1, Nat.sub_self] at h2
    cases Option.some.inj h1
    cases Option.some.inj h2
    exact hT
def ScAt (H : Hp) (s : Addr) (ps : List Pc) : Prop := ∃ as : List Addr, H s = some (.tup (as.map V.ref)) ∧ PsAt H as ps
theorem ScAt.mono {H H' : Hp} {s : Addr} {ps : List Pc} (h : ScAt H s ps) (m : TM H H') : ScAt H' s ps := by
  obtain ⟨as, h1, h2⟩ := h
  exact ⟨as, m _ _ h1, h2.mono m⟩
/-- the i-th value of a script's tuple -/
theorem sc_get {as : List Addr} {ps : List Pc} {H : Hp} {i : Nat} {x : V} (h : PsAt H as ps) (hx : (as.map V.ref)[i]? = some x) : ∃ a p, x = .ref a ∧ as[i]? = some a ∧ ps[i]? = some p ∧ PcAt H a p := by
  rw [List.getElem?_map] at hx
  cases q : as[i]? with
  | none => rw [q] at hx; cases hx
  | some a =>
    rw [q] at hx
    have hi : i < ps.length := by rw [← h.1]; exact (List.getElem?_eq_some_iff.mp q).1
    exact ⟨a, ps[i], (Option.some.inj hx).symm, rfl, List.getElem?_eq_getElem hi, h.2 i a _ q (List.getElem?_eq_getElem hi)⟩
theorem put_take : decide (V.str "put" = V.str "take") = false := decide_eq_false (by intro h; injection h with h; exact absurd h (by decide +kernel))
theorem take_put : decide (V.str "take" = V.str "put") = false := decide_eq_false (by intro h; injection h with h; exact absurd h (by decide +kernel))
/-- the word of a piece, its other parts -/
theorem PcAt.word {K : PySem.W.Frag} {H : Hp} {a : Addr} {p : Pc} {Q : VK} (h : PcAt H a p) (ht : ∀ b m, p = .take b m → Q (.str "take") H) (hp : ∀ rs, p = .put rs → Q (.str "put") H) : rIx K (.ref a) (.int 0) H Q := by
  cases p with
  | take b m => exact ixT h rfl (ht b m rfl)
  | put rs => obtain ⟨r, h1, h2⟩ := h; exact ixT h1 rfl (hp rs rfl)
/-! ### forms of texts -/
def sp_is_sign (_ : PySem.W.Frag) : Sp := fun vs H Q _ => ∃ c : Nat, vs = [.str ⟨#[c]⟩] ∧ OkC c ∧ Q (.bl true) H
def sp_is_text (_ : PySem.W.Frag) : Sp := fun vs H Q _ => ∃ z : Str, vs = [.str z] ∧ OkS z ∧ ∀ H', Same H H' → Q (.bl true) H'
def sp_is_row (_ : PySem.W.Frag) : Sp := fun vs H Q _ => ∃ z : Str, vs = [.str z] ∧ OkS z ∧ ∀ H', Same H H' → Q (.bl true) H'
def sp_is_intI (_ : PySem.W.Frag) : Sp := fun vs H Q _ => ∃ i : Int, vs = [.int i] ∧ Q (.bl true) H
def sp_is_pairT (_ : PySem.W.Frag) : Sp := fun vs H Q _ => ∃ (a : Addr) (x y : V), vs = [.ref a] ∧ H a = some (.tup [x, y]) ∧ Q (.bl true) H
def sp_are_put (_ : PySem.W.Frag) : Sp := fun vs H Q _ => ∃ (a : Addr) (rs : List Str), vs = [.ref a] ∧ RwAt H a rs ∧ rs ≠ [] ∧ rs.length ≤ 1000 ∧ (∀ z ∈ rs, OkS z) ∧ ∀ H', Same H H' → Q (.bl true) H'
def sp_rows_in (_ : PySem.W.Frag) : Sp := fun vs H Q _ => ∃ (a : Addr) (p : Pc), vs = [.ref a] ∧ PcAt H a p ∧ Q (.int (p.n : Int)) H
def sp_is_piece (_ : PySem.W.Frag) : Sp := fun vs H Q _ => ∃ (a : Addr) (p : Pc), vs = [.ref a] ∧ PcAt H a p ∧ p.ok ∧ p.n ≤ 1000 ∧ ∀ H', Same H H' → Q (.bl true) H'
def sp_is_script (_ : PySem.W.Frag) : Sp := fun vs H Q _ => ∃ (a : Addr) (ps : List Pc), vs = [.ref a] ∧ ScAt H a ps ∧ ScOk ps ∧ ∀ H', Same H H' → Q (.bl true) H'
def sp_is_right_over (_ : PySem.W.Frag) : Sp := fun vs H Q _ => ∃ (B a : Addr) (bs : List Str) (ps : List Pc), vs = [.ref B, .ref a] ∧ RwAt H B bs ∧ ScAt H a ps ∧ ScOk ps ∧ (∀ p ∈ ps, p.fits bs.length) ∧ ∀ H', Same H H' → Q (.bl true) H'
def sp_refuse_wrong (_ : PySem.W.Frag) : Sp := fun vs H Q _ => ∃ (B a : Addr) (bs : List Str) (ps : List Pc), vs = [.ref B, .ref a] ∧ RwAt H B bs ∧ ScAt H a ps ∧ ScOk ps ∧ (∀ p ∈ ps, p.fits bs.length) ∧ ∀ H', Same H H' → Q .non H'
def sp_made (_ : PySem.W.Frag) : Sp := fun vs H Q _ => ∃ (B a : Addr) (bs : List Str) (ps : List Pc), vs = [.ref B, .ref a] ∧ RwAt H B bs ∧ ScAt H a ps ∧ ScOk ps ∧ (∀ p ∈ ps, p.fits bs.length) ∧ ∀ (r : Addr) (H' : Hp), Same H H' → RwAt H' r (makes bs ps) → Q (.ref r) H'
abbrev sp_done (K : PySem.W.Frag) : Sp := sp_made K
abbrev sp_l_made (K : PySem.W.Frag) : Sp := sp_made K
def sp_price (_ : PySem.W.Frag) : Sp := fun vs H Q _ => ∃ (a : Addr) (ps : List Pc) (t p : Int), vs = [.ref a, .int t, .int p] ∧ ScAt H a ps ∧ ScOk ps ∧ 0 ≤ t ∧ t ≤ 10000000 ∧ 0 ≤ p ∧ p ≤ 10000000 ∧ ∀ H', Same H H' → Q (.int (cost t p ps)) H'
def sp_l_cost (_ : PySem.W.Frag) : Sp := fun vs H Q _ => ∃ (a : Addr) (ps : List Pc) (t p : Int), vs = [.ref a, .int t, .int p] ∧ ScAt H a ps ∧ ScOk ps ∧ 0 ≤ t ∧ t ≤ 10000000 ∧ 0 ≤ p ∧ p ≤ 10000000 ∧ Q (.int (cost t p ps)) H
section
variable {K : PySem.W.Frag} {vs : List V} {H : Hp} {Q : VK} {E : XK}
theorem len_is_sign (h : sp_is_sign K vs H Q E) : vs.length = 1 := by obtain ⟨_, rfl, _⟩ := h; rfl
theorem len_is_text (h : sp_is_text K vs H Q E) : vs.length = 1 := by obtain ⟨_, rfl, _⟩ := h; rfl
theorem len_is_row (h : sp_is_row K vs H Q E) : vs.length = 1 := by obtain ⟨_, rfl, _⟩ := h; rfl
theorem len_is_intI (h : sp_is_intI K vs H Q E) : vs.length = 1 := by obtain ⟨_, rfl, _⟩ := h; rfl
theorem len_is_pairT (h : sp_is_pairT K vs H Q E) : vs.length = 1 := by obtain ⟨_, _, _, rfl, _⟩ := h; rfl
theorem len_are_put (h : sp_are_put K vs H Q E) : vs.length = 1 := by obtain ⟨_, _, rfl, _⟩ := h; rfl
theorem len_rows_in (h : sp_rows_in K vs H Q E) : vs.length = 1 := by obtain ⟨_, _, rfl, _⟩ := h; rfl
theorem len_is_piece (h : sp_is_piece K vs H Q E) : vs.length = 1 := by obtain ⟨_, _, rfl, _⟩ := h; rfl
theorem len_is_script (h : sp_is_script K vs H Q E) : vs.length = 1 := by obtain ⟨_, _, rfl, _⟩ := h; rfl
theorem len_is_right_over (h : sp_is_right_over K vs H Q E) : vs.length = 2 := by obtain ⟨_, _, _, _, rfl, _⟩ := h; rfl
theorem len_refuse_wrong (h : sp_refuse_wrong K vs H Q E) : vs.length = 2 := by obtain ⟨_, _, _, _, rfl, _⟩ := h; rfl
theorem len_made (h : sp_made K vs H Q E) : vs.length = 2 := by obtain ⟨_, _, _, _, rfl, _⟩ := h; rfl
theorem len_done (h : sp_done K vs H Q E) : vs.length = 2 := len_made h
theorem len_l_made (h : sp_l_made K vs H Q E) : vs.length = 2 := len_made h
theorem len_price (h : sp_price K vs H Q E) : vs.length = 3 := by obtain ⟨_, _, _, _, rfl, _⟩ := h; rfl
theorem len_l_cost (h : sp_l_cost K vs H Q E) : vs.length = 3 := by obtain ⟨_, _, _, _, rfl, _⟩ := h; rfl
end
abbrev N_is_int : List Str := ["thing"]
def t_is_int (K : PySem.W.Frag) : TS := (tRet (tAndV (tCB (rIsi K) (tCons (tVar 0) (tCons (tC (.ty "int")) tNil))) (tNotV (tCB (rIsi K) (tCons (tVar 0) (tCons (tC (.ty "bool")) tNil))))))
abbrev N_is_text : List Str := ["thing", "sign"]
def t_is_text (K : PySem.W.Frag) : TS := (tRet (tAndV (tCB (rIsi K) (tCons (tVar 0) (tCons (tC (.ty "str")) tNil))) (tCB (rAll K) (tCons (tLc (iStr (tVar 0)) (gName 1) tYes (tCall (sp_is_sign K) [] E0 (tCons (tVar 1) tNil)) [1]) tNil))))
abbrev N_is_sign : List Str := ["sign"]
def t_is_sign (K : PySem.W.Frag) : TS := (tRet (tAndV (tChain rLeS rLeS (tC (.str " ")) (tVar 0) (tC (.str "~"))) (tOp rNe (tCB fOrd (tCons (tVar 0) tNil)) (tC (.int 37)))))
abbrev N_is_pair : List Str := ["thing"]
def t_is_pair (K : PySem.W.Frag) : TS := (tRet (tAndV (tCB (rIsi K) (tCons (tVar 0) (tCons (tC (.ty "tuple")) tNil))) (tOp rEq (tCB (fLen K) (tCons (tVar 0) tNil)) (tC (.int 2)))))
abbrev N_is_row : List Str := ["thing"]
def t_is_row (K : PySem.W.Frag) : TS := (tRet (tAndV (tCall (sp_is_text K) [] E0 (tCons (tVar 0) tNil)) (tOp rLeI (tCB (fLen K) (tCons (tVar 0) tNil)) (tC (.int 40)))))
abbrev N_is_script : List Str := ["thing", "piece"]
def t_is_script (K : PySem.W.Frag) : TS := (tSeq (tIfS (tOr (tNot (tB (tCB (rIsi K) (tCons (tVar 0) (tCons (tC (.ty "tuple")) tNil))))) (tNot (tB (tCB (rAll K) (tCons (tLc (iTup K (tVar 0)) (gName 1) tYes (tCall (sp_is_piece K) [] E0 (tCons (tVar 1) tNil)) [1]) tNil))))) (tRet (tC (.bl false))) tNext)
    (tRet (tOp rLeI (tCB (rSum K) (tCons (tLc (iTup K (tVar 0)) (gName 1) tYes (tCall (sp_rows_in K) [] E0 (tCons (tVar 1) tNil)) [1]) tNil)) (tC (.int 40)))))
abbrev N_is_piece : List Str := ["thing"]
def t_is_piece (K : PySem.W.Frag) : TS := (tSeq (tIfS (tOr (tNot (tB (tCB (rIsi K) (tCons (tVar 0) (tCons (tC (.ty "tuple")) tNil))))) (tTest (tOp rEq (tCB (fLen K) (tCons (tVar 0) tNil)) (tC (.int 0))))) (tRet (tC (.bl false))) tNext)
    (tSeq (tIfS (tTest (tOp rEq (tOp (rIx K) (tVar 0) (tC (.int 0))) (tC (.str "take")))) (tRet (tAndV (tOp rEq (tCB (fLen K) (tCons (tVar 0) tNil)) (tC (.int 3))) (tAndV (tCall (sp_is_intI K) [] E0 (tCons (tOp (rIx K) (tVar 0) (tC (.int 1))) tNil)) (tAndV (tCall (sp_is_intI K) [] E0 (tCons (tOp (rIx K) (tVar 0) (tC (.int 2))) tNil)) (tAndV (tOp rGeI (tOp (rIx K) (tVar 0) (tC (.int 1))) (tC (.int 0))) (tOp rGeI (tOp (rIx K) (tVar 0) (tC (.int 2))) (tC (.int 1)))))))) tNext)
    (tRet (tAndV (tOp rEq (tOp (rIx K) (tVar 0) (tC (.int 0))) (tC (.str "put"))) (tAndV (tCall (sp_is_pairT K) [] E0 (tCons (tVar 0) tNil)) (tCall (sp_are_put K) [] E0 (tCons (tOp (rIx K) (tVar 0) (tC (.int 1))) tNil)))))))
abbrev N_are_put : List Str := ["thing", "row"]
def t_are_put (K : PySem.W.Frag) : TS := (tRet (tAndV (tCB (rIsi K) (tCons (tVar 0) (tCons (tC (.ty "tuple")) tNil))) (tAndV (tOp rGtI (tCB (fLen K) (tCons (tVar 0) tNil)) (tC (.int 0))) (tCB (rAll K) (tCons (tLc (iTup K (tVar 0)) (gName 1) tYes (tCall (sp_is_row K) [] E0 (tCons (tVar 1) tNil)) [1]) tNil)))))
abbrev N_rows_in : List Str := ["piece"]
def t_rows_in (K : PySem.W.Frag) : TS := (tRet (tIf (tTest (tOp rEq (tOp (rIx K) (tVar 0) (tC (.int 0))) (tC (.str "put")))) (tCB (fLen K) (tCons (tOp (rIx K) (tVar 0) (tC (.int 1))) tNil)) (tOp (rIx K) (tVar 0) (tC (.int 2)))))
abbrev N_is_right_over : List Str := ["base", "thing", "piece"]
def t_is_right_over (K : PySem.W.Frag) : TS := (tSeq (tIfS (tNot (tB (tCall (sp_is_script K) [] E0 (tCons (tVar 1) tNil)))) (tRet (tC (.bl false))) tNext)
    (tRet (tCB (rAll K) (tCons (tLc (iTup K (tVar 1)) (gName 2) tYes (tOrV (tOp rEq (tOp (rIx K) (tVar 2) (tC (.int 0))) (tC (.str "put"))) (tOp rLeI (tOp rAddI (tOp (rIx K) (tVar 2) (tC (.int 1))) (tOp (rIx K) (tVar 2) (tC (.int 2)))) (tCB (fLen K) (tCons (tVar 0) tNil)))) [2]) tNil))))
abbrev N_refuse_wrong : List Str := ["base", "thing"]
def t_refuse_wrong (K : PySem.W.Frag) : TS := (tIfS (tNot (tB (tCall (sp_is_right_over K) [] E0 (tCons (tVar 0) (tCons (tVar 1) tNil))))) tNever tNext)
abbrev N_done : List Str := ["base", "script"]
def t_done (K : PySem.W.Frag) : TS := (tSeq (tDrop (tCall (sp_refuse_wrong K) [] E0 (tCons (tVar 0) (tCons (tVar 1) tNil))))
    (tRet (tCall (sp_made K) [] E0 (tCons (tVar 0) (tCons (tVar 1) tNil)))))
abbrev N_made : List Str := ["base", "script", "rows", "piece"]
def t_made (K : PySem.W.Frag) : TS := (tSeq (tAsg (tLst tNil) (gName 2))
    (tSeq (tFor (iTup K (tVar 1)) (gName 3) (tDrop (tBM K "list" (rExtendA K) (tVar 2) (tCons (tIf (tTest (tOp rEq (tOp (rIx K) (tVar 3) (tC (.int 0))) (tC (.str "put")))) (tOp (rIx K) (tVar 3) (tC (.int 1))) (tSl (rSlA K) (tVar 0) (tPart (tOp (rIx K) (tVar 3) (tC (.int 1)))) (tPart (tOp rAddI (tOp (rIx K) (tVar 3) (tC (.int 1))) (tOp (rIx K) (tVar 3) (tC (.int 2))))))) tNil))))
    (tRet (tCB (fTupleOf K) (tCons (tVar 2) tNil)))))
abbrev N_price : List Str := ["script", "take", "put", "piece"]
def t_price (K : PySem.W.Frag) : TS := (tSeq (tIfS (tNot (tB (tCall (sp_is_script K) [] E0 (tCons (tVar 0) tNil)))) tNever tNext)
    (tRet (tCB (rSum K) (tCons (tLc (iTup K (tVar 0)) (gName 3) tYes (tIf (tTest (tOp rEq (tOp (rIx K) (tVar 3) (tC (.int 0))) (tC (.str "put")))) (tOp rMulI (tVar 2) (tCall (sp_rows_in K) [] E0 (tCons (tVar 3) tNil))) (tVar 1)) [3]) tNil))))
abbrev N_l_made : List Str := ["_law_base", "_law_pieces", "_law_made_here", "_law_piece", "_law_k", "_law_line"]
def t_l_made (K : PySem.W.Frag) : TS := (tSeq (tAsg (tLst tNil) (gName 2))
    (tSeq (tFor (iTup K (tVar 1)) (gName 3) (tIfS (tTest (tOp rEq (tOp (rIx K) (tVar 3) (tC (.int 0))) (tC (.str "take")))) (tFor (iRng1 (tCons (tOp (rIx K) (tVar 3) (tC (.int 2))) tNil)) (gName 4) (tDrop (tBM K "list" rAppend (tVar 2) (tCons (tOp (rIx K) (tVar 0) (tOp rAddI (tOp (rIx K) (tVar 3) (tC (.int 1))) (tVar 4))) tNil)))) (tFor (iTup K (tOp (rIx K) (tVar 3) (tC (.int 1)))) (gName 5) (tDrop (tBM K "list" rAppend (tVar 2) (tCons (tVar 5) tNil))))))
    (tRet (tCB (fTupleOf K) (tCons (tVar 2) tNil)))))
abbrev N_l_cost : List Str := ["_law_pieces", "_law_by_take", "_law_by_put", "_law_total", "_law_piece"]
def t_l_cost (K : PySem.W.Frag) : TS := (tSeq (tAsg (tC (.int 0)) (gName 3))
    (tSeq (tFor (iTup K (tVar 0)) (gName 4) (tIfS (tTest (tOp rEq (tOp (rIx K) (tVar 4) (tC (.int 0))) (tC (.str "take")))) (tAsg (tOp rAddI (tVar 3) (tVar 1)) (gName 3)) (tAsg (tOp rAddI (tVar 3) (tOp rMulI (tVar 2) (tCB (fLen K) (tCons (tOp (rIx K) (tVar 4) (tC (.int 1))) tNil)))) (gName 3))))
    (tRet (tVar 3))))
theorem blT {p : Prop} [Decidable p] {Q : VK} {H : Hp} (h : p) (q : Q (.bl true) H) : Q (.bl (decide p)) H := by rw [decide_eq_true h]; exact q
theorem blF {p : Prop} [Decidable p] {Q : VK} {H : Hp} (h : ¬ p) (q : Q (.bl false) H) : Q (.bl (decide p)) H := by rw [decide_eq_false h]; exact q
theorem rep_get {n i : Nat} {y : V} {x : V} (h : (List.replicate n x)[i]? = some y) : y = x := by
  obtain ⟨_, e⟩ := List.getElem?_eq_some_iff.mp h
  rw [← e, List.getElem_replicate]
theorem all_rep (n : Nat) : (List.replicate n true).all id = true := by
  rw [List.all_eq_true]
  intro x hx
  rw [List.eq_of_mem_replicate hx]
  rfl
theorem yStr {z : Str} : ∀ (i : Nat) (H : Hp) (x : V) (H' : Hp), (H' = H ∧ ∃ c, z.cps[i]? = some c ∧ x = .str ⟨#[c]⟩) → H' = H := fun _ _ _ _ h => h.1
theorem yAt {xs : List V} : ∀ (i : Nat) (H : Hp) (x : V) (H' : Hp), YAt xs i H x H' → H' = H := fun _ _ _ _ h => h.1
theorem yFn {f : Nat → V} : ∀ (i : Nat) (H : Hp) (x : V) (H' : Hp), YFn f i H x H' → H' = H := fun _ _ _ _ h => h.1
theorem blank_le {c : Nat} (h : 32 ≤ c) : (!decide ((⟨#[c]⟩ : Str).cps.toList < (" " : Str).cps.toList)) = true := by
  have e : (" " : Str).cps.toList = [32] := by decide +kernel
  rw [e]
  show (!decide ([c] < [32])) = true
  rw [decide_eq_false]
  · rfl
  · intro h2
    rcases List.cons_lt_cons_iff.mp h2 with h3 | h3
    · omega
    · exact absurd h3.2 (by decide)
theorem le_tilde {c : Nat} (h : c ≤ 126) : (!decide (("~" : Str).cps.toList < (⟨#[c]⟩ : Str).cps.toList)) = true := by
  have e : ("~" : Str).cps.toList = [126] := by decide +kernel
  rw [e]
  show (!decide ([126] < [c])) = true
  rw [decide_eq_false]
  · rfl
  · intro h2
    rcases List.cons_lt_cons_iff.mp h2 with h3 | h3
    · omega
    · exact absurd h3.2 (by decide)
section
variable {K : PySem.W.Frag} {vs : List V} {H : Hp} {Q : VK} {E : XK}
theorem pure_is_intI (h : sp_is_intI K vs H Q E) : t_is_int K { nx := fun _ H' => Q .non H', rt := Q } (start N_is_int vs) H := by
  obtain ⟨i, rfl, k⟩ := h
  exact ⟨_, rfl, isi (.base (.int i)) k_ii ⟨_, rfl, iteT ⟨_, rfl, isi (.base (.int i)) k_ib ⟨_, rfl, k⟩⟩⟩⟩
theorem pure_is_pairT (h : sp_is_pairT K vs H Q E) : t_is_pair K { nx := fun _ H' => Q .non H', rt := Q } (start N_is_pair vs) H := by
  obtain ⟨a, x, y, rfl, ha, k⟩ := h
  exact ⟨_, rfl, isi (.base (.tup ha)) k_tt ⟨_, rfl, iteT ⟨_, rfl, lenT ha ⟨rfl, k⟩⟩⟩⟩
theorem pure_is_sign (h : sp_is_sign K vs H Q E) : t_is_sign K { nx := fun _ H' => Q .non H', rt := Q } (start N_is_sign vs) H := by
  obtain ⟨c, rfl, ⟨h1, h2, h3⟩, k⟩ := h
  refine ⟨_, rfl, _, _, rfl, rfl, _, rfl, ?_⟩
  rw [blank_le h1]
  refine iteT ⟨_, _, rfl, rfl, _, rfl, ?_⟩
  rw [le_tilde h2]
  refine iteT ⟨_, rfl, _, rfl, rfl, rfl, ?_⟩
  have e : decide (V.int (((⟨#[c]⟩ : Str).cps.getD 0 0 : Nat) : Int) = V.int 37) = false := decide_eq_false (by
    intro h
    injection h with h
    have h : (c : Int) = 37 := h
    omega)
  rw [e]
  exact k
theorem pure_is_text (h : sp_is_text K vs H Q E) : t_is_text K { nx := fun _ H' => Q .non H', rt := Q } (start N_is_text vs) H := by
  obtain ⟨z, rfl, ⟨h1, h2⟩, k⟩ := h
  refine ⟨_, rfl, isi (.base (.str z)) k_ss ⟨_, rfl, iteT ⟨_, rfl, z, rfl, fun L nL => ?_⟩⟩⟩
  refine lc_grow walk_str yStr (ys := List.replicate z.cps.size (.bl true)) nL List.length_replicate (by omega) (fun _ _ => True.intro) ?_ ?_
  · rintro i x y H' R hi ⟨_, c, hc, rfl⟩ hy s r
    refine ⟨rfl, ⟨_, rfl, c, rfl, ?_, ?_⟩⟩
    · exact h2 c (by obtain ⟨q1, q2⟩ := Array.getElem?_eq_some_iff.mp hc; rw [← q2]; exact Array.getElem_mem_toList q1)
    · rw [← rep_get hy]
      exact r _ (Same.refl _)
  · intro H' s hL
    refine ⟨L, List.replicate z.cps.size true, rfl, sqL (by rw [hL, List.map_replicate]), ?_⟩
    rw [all_rep]
    exact k _ s
theorem pure_is_row (h : sp_is_row K vs H Q E) : t_is_row K { nx := fun _ H' => Q .non H', rt := Q } (start N_is_row vs) H := by
  obtain ⟨z, rfl, o, k⟩ := h
  refine ⟨_, rfl, z, rfl, o, fun H' s => ⟨_, rfl, iteT ⟨_, rfl, lenS (Nat.le_trans o.1 (by decide)) ⟨_, _, rfl, rfl, ?_⟩⟩⟩⟩
  exact blT (Q := Q) (show ((z.length : Nat) : Int) ≤ 40 by have := o.1; show ((z.cps.size : Nat) : Int) ≤ 40; omega) (k _ s)
theorem pure_are_put (h : sp_are_put K vs H Q E) : t_are_put K { nx := fun _ H' => Q .non H', rt := Q } (start N_are_put vs) H := by
  obtain ⟨a, rs, rfl, ha, h0, hz, ho, k⟩ := h
  refine ⟨_, rfl, isi (.base (.tup ha)) k_tt ⟨_, rfl, iteT ⟨_, rfl, lenT ha ⟨_, _, rfl, rfl, _, rfl, ?_⟩⟩⟩⟩
  have hl : 0 < rs.length := List.length_pos_iff.mpr h0
  rw [decide_eq_true (show (0 : Int) < ((rs.map V.str).length : Int) by rw [List.length_map]; omega)]
  refine iteT ⟨_, rfl, a, rfl, ⟨_, sqT ha⟩, fun L nL => ?_⟩
  refine lc_grow (walk_tup (xs := rs.map V.str)) yAt (ys := List.replicate (rs.map V.str).length (.bl true)) nL List.length_replicate (by rw [List.length_map]; omega) (fun H' s => sqT (s _ _ ha)) ?_ ?_
  · rintro i x y H' R hi ⟨_, hx⟩ hy s r
    rw [List.getElem?_map] at hx
    cases q : rs[i]? with
    | none => rw [q] at hx; cases hx
    | some z =>
      rw [q] at hx
      cases Option.some.inj hx
      refine ⟨rfl, ⟨_, rfl, z, rfl, ho z (List.mem_of_getElem? q), ?_⟩⟩
      rw [rep_get hy] at r
      exact r
  · intro H' s hL
    refine ⟨L, List.replicate (rs.map V.str).length true, rfl, sqL (by rw [hL, List.map_replicate]), ?_⟩
    rw [all_rep]
    exact k _ s
theorem pure_rows_in (h : sp_rows_in K vs H Q E) : t_rows_in K { nx := fun _ H' => Q .non H', rt := Q } (start N_rows_in vs) H := by
  obtain ⟨a, p, rfl, ha, k⟩ := h
  cases p with
  | take b m =>
    refine ⟨_, rfl, ixT ha rfl ⟨rfl, _, rfl, ?_⟩⟩
    rw [take_put]
    exact iteF ⟨_, rfl, ixT ha rfl k⟩
  | put rs =>
    obtain ⟨r, h1, h2⟩ := ha
    refine ⟨_, rfl, ixT h1 rfl ⟨rfl, _, rfl, ?_⟩⟩
    rw [decide_eq_true rfl]
    refine iteT ⟨_, rfl, ixT h1 rfl (lenT h2 ?_)⟩
    rw [List.length_map]
    exact k
theorem pure_is_piece (h : sp_is_piece K vs H Q E) : t_is_piece K { nx := fun _ H' => Q .non H', rt := Q } (start N_is_piece vs) H := by
  obtain ⟨a, p, rfl, ha, ok, hz, k⟩ := h
  cases p with
  | take b m =>
    have ok : 1 ≤ m := ok
    refine ⟨_, rfl, isi (.base (.tup ha)) k_tt ⟨_, rfl, iteF ⟨_, rfl, lenT ha ⟨rfl, _, rfl, ?_⟩⟩⟩⟩
    refine iteF ⟨_, rfl, ixT ha rfl ⟨rfl, _, rfl, ?_⟩⟩
    rw [decide_eq_true rfl]
    refine iteT ⟨_, rfl, lenT ha ⟨rfl, _, rfl, iteT ?_⟩⟩
    refine ⟨_, rfl, ixT ha rfl ⟨_, rfl, _, rfl, iteT ⟨_, rfl, ixT ha rfl ⟨_, rfl, _, rfl, iteT ?_⟩⟩⟩⟩
    refine ⟨_, rfl, ixT ha rfl ⟨_, _, rfl, rfl, _, rfl, ?_⟩⟩
    rw [decide_eq_true (show (0 : Int) ≤ (b : Int) by omega)]
    refine iteT ⟨_, rfl, ixT ha rfl ⟨_, _, rfl, rfl, ?_⟩⟩
    exact blT (Q := Q) (show (1 : Int) ≤ (m : Int) by omega) (k _ (Same.refl _))
  | put rs =>
    obtain ⟨r, h1, h2⟩ := ha
    refine ⟨_, rfl, isi (.base (.tup h1)) k_tt ⟨_, rfl, iteF ⟨_, rfl, lenT h1 ⟨rfl, _, rfl, ?_⟩⟩⟩⟩
    refine iteF ⟨_, rfl, ixT h1 rfl ⟨rfl, _, rfl, ?_⟩⟩
    rw [put_take]
    refine iteF ⟨_, rfl, ixT h1 rfl ⟨rfl, _, rfl, ?_⟩⟩
    rw [decide_eq_true rfl]
    refine iteT ⟨_, rfl, a, _, _, rfl, h1, _, rfl, iteT ⟨_, rfl, ixT h1 rfl ⟨r, rs, rfl, h2, ok.1, hz, ok.2, k⟩⟩⟩
theorem pure_is_script (h : sp_is_script K vs H Q E) : t_is_script K { nx := fun _ H' => Q .non H', rt := Q } (start N_is_script vs) H := by
  obtain ⟨a, ps, rfl, ⟨as, ha, hp⟩, ok, k⟩ := h
  have hl : (as.map V.ref).length = ps.length := by rw [List.length_map, hp.1]
  have hz := ok.len
  refine ⟨_, rfl, isi (.base (.tup ha)) k_tt ⟨_, rfl, iteF ⟨_, rfl, a, rfl, ⟨_, sqT ha⟩, fun L nL => ?_⟩⟩⟩
  refine lc_grow (walk_tup (xs := as.map V.ref)) yAt (ys := List.replicate (as.map V.ref).length (.bl true)) nL List.length_replicate (by omega) (fun H' s => sqT (s _ _ ha)) ?_ ?_
  · rintro i x y H' R hi ⟨_, hx⟩ hy s r
    obtain ⟨b, p, rfl, h1, h2, h3⟩ := sc_get (hp.mono (.of s)) hx
    refine ⟨rfl, ⟨_, rfl, b, p, rfl, h3, ok.ok p (List.mem_of_getElem? h2), ?_, ?_⟩⟩
    · have := n_le_total (List.mem_of_getElem? h2)
      have := ok.few
      omega
    · rw [rep_get hy] at r
      exact r
  · intro H1 s1 hL
    refine ⟨L, List.replicate (as.map V.ref).length true, rfl, sqL (by rw [hL, List.map_replicate]), ?_⟩
    rw [all_rep]
    refine ⟨_, rfl, iteF ⟨_, rfl, a, rfl, ⟨_, sqT (s1 _ _ ha)⟩, fun L2 nL2 => ?_⟩⟩
    refine lc_grow (walk_tup (xs := as.map V.ref)) yAt (ys := (ps.map fun p => (p.n : Int)).map V.int) nL2 (by rw [List.length_map, List.length_map, hl]) (by omega) (fun H' s => sqT (s _ _ (s1 _ _ ha))) ?_ ?_
    · rintro i x y H' R hi ⟨_, hx⟩ hy s r
      obtain ⟨b, p, rfl, h1, h2, h3⟩ := sc_get (hp.mono (.of (s1.trans s))) hx
      rw [List.getElem?_map, List.getElem?_map, h2] at hy
      cases Option.some.inj hy
      exact ⟨rfl, ⟨_, rfl, b, p, rfl, h3, r _ (Same.refl _)⟩⟩
    · intro H2 s2 hL2
      refine ⟨L2, _, rfl, sqL hL2, _, _, rfl, rfl, ?_⟩
      have e : (ps.map fun p => (p.n : Int)).sum = ((total ps : Nat) : Int) := by
        unfold total
        clear hp ha hl hz k ok s1 s2 hL hL2
        induction ps with
        | nil => rfl
        | cons p ps ih =>
          rw [List.map_cons, List.map_cons, List.sum_cons, List.sum_cons, ih]
          omega
      rw [e]
      exact blT (Q := Q) (show ((total ps : Nat) : Int) ≤ 40 by have := ok.few; omega) (k _ (s1.trans s2))
theorem pure_is_right_over (h : sp_is_right_over K vs H Q E) : t_is_right_over K { nx := fun _ H' => Q .non H', rt := Q } (start N_is_right_over vs) H := by
  obtain ⟨B, a, bs, ps, rfl, hB, sc, ok, fit, k⟩ := h
  refine ⟨_, rfl, a, ps, rfl, sc, ok, fun H1 s1 => ⟨_, rfl, iteF ?_⟩⟩
  obtain ⟨as, ha, hp⟩ := sc.mono (.of s1)
  have hB1 : H1 B = some (.tup (bs.map V.str)) := s1 _ _ hB
  have hl : (as.map V.ref).length = ps.length := by rw [List.length_map, hp.1]
  have hz := ok.len
  refine ⟨_, rfl, a, rfl, ⟨_, sqT ha⟩, fun L nL => ?_⟩
  refine lc_grow (walk_tup (xs := as.map V.ref)) yAt (ys := List.replicate (as.map V.ref).length (.bl true)) nL List.length_replicate (by omega) (fun H' s => sqT (s _ _ ha)) ?_ ?_
  · rintro i x y H' R hi ⟨_, hx⟩ hy s r
    obtain ⟨b, p, rfl, h1, h2, h3⟩ := sc_get (hp.mono (.of s)) hx
    have f := fit p (List.mem_of_getElem? h2)
    rw [rep_get hy] at r
    refine ⟨rfl, ?_⟩
    cases p with
    | take c m =>
      have f : c + m ≤ bs.length := f
      refine ⟨_, rfl, ixT h3 rfl ⟨rfl, _, rfl, ?_⟩⟩
      rw [take_put]
      refine iteF ⟨_, rfl, ixT h3 rfl ⟨_, rfl, ixT h3 rfl ⟨_, _, rfl, rfl, _, rfl, lenT (s _ _ hB1) ⟨_, _, rfl, rfl, ?_⟩⟩⟩⟩
      exact blT (Q := R) (show (c : Int) + (m : Int) ≤ ((bs.map V.str).length : Int) by rw [List.length_map]; omega) (r _ (Same.refl _))
    | put rs =>
      obtain ⟨q, h4, h5⟩ := h3
      refine ⟨_, rfl, ixT h4 rfl ⟨rfl, _, rfl, ?_⟩⟩
      rw [decide_eq_true rfl]
      exact iteT (r _ (Same.refl _))
  · intro H2 s2 hL
    refine ⟨L, List.replicate (as.map V.ref).length true, rfl, sqL (by rw [hL, List.map_replicate]), ?_⟩
    rw [all_rep]
    exact k _ (s1.trans s2)
theorem pure_refuse_wrong (h : sp_refuse_wrong K vs H Q E) : t_refuse_wrong K { nx := fun _ H' => Q .non H', rt := Q } (start N_refuse_wrong vs) H := by
  obtain ⟨B, a, bs, ps, rfl, hB, sc, ok, fit, k⟩ := h
  exact ⟨_, rfl, _, rfl, B, a, bs, ps, rfl, hB, sc, ok, fit, fun H1 s1 => ⟨_, rfl, iteF (k _ s1)⟩⟩
theorem pure_done (h : sp_done K vs H Q E) : t_done K { nx := fun _ H' => Q .non H', rt := Q } (start N_done vs) H := by
  obtain ⟨B, a, bs, ps, rfl, hB, sc, ok, fit, k⟩ := h
  refine ⟨_, rfl, _, rfl, B, a, bs, ps, rfl, hB, sc, ok, fit, fun H1 s1 => ?_⟩
  exact ⟨_, rfl, _, rfl, B, a, bs, ps, rfl, s1 _ _ hB, sc.mono (.of s1), ok, fit, fun r H2 s2 => k r H2 (s1.trans s2)⟩
theorem total_take_le {ps : List Pc} (i : Nat) : total (ps.take i) ≤ total ps := by
  have e : total ps = total (ps.take i) + total (ps.drop i) := by
    unfold total
    rw [← List.sum_append, ← List.map_append, List.take_append_drop]
  omega
theorem makes_snoc {bs : List Str} {ps : List Pc} {p : Pc} {i : Nat} (h : ps[i]? = some p) : makes bs (ps.take (i + 1)) = makes bs (ps.take i) ++ p.mk bs := by
  unfold makes
  rw [List.take_add_one, h, List.map_append, List.flatten_append]
  show _ ++ (p.mk bs ++ []) = _
  rw [List.append_nil]
theorem fits_take {ps : List Pc} {L : Nat} (fit : ∀ p ∈ ps, p.fits L) (i : Nat) : ∀ p ∈ ps.take i, p.fits L := fun p hp => fit p (List.mem_of_mem_take hp)
/-- a stretch of a tuple of texts, as a slice tells it -/
theorem slA {B : Addr} {bs : List Str} {b m : Nat} (hB : H B = some (.tup (bs.map V.str))) (f : b + m ≤ bs.length) (q : ∀ (r : Addr) (H' : Hp), Same H H' → RwAt H' r ((bs.drop b).take m) → Q (.ref r) H') : rSlA K (.ref B) (some (b : Int)) (some ((b : Int) + (m : Int))) H Q := by
  have e1 : HT.sIx (bs.map V.str).length 0 (some (b : Int)) = b := by rw [HT.sIx_nat, List.length_map]; omega
  have e2 : HT.sIx (bs.map V.str).length (bs.map V.str).length (some ((b : Int) + (m : Int))) = b + m := by
    rw [show ((b : Int) + (m : Int)) = ((b + m : Nat) : Int) by omega, HT.sIx_nat, List.length_map]
    omega
  refine ⟨B, _, rfl, sqT hB, fun e => ?_, fun e r nr => ?_⟩
  · rw [e1, e2, List.length_map] at e
    obtain ⟨rfl, e⟩ := e
    refine q B H (Same.refl _) ?_
    show H B = _
    rw [hB, List.drop_zero, List.take_of_length_le (by omega)]
  · refine q r _ (Same.upd nr) ?_
    show upd H r _ r = _
    rw [updS]
    unfold cutV
    rw [e1, e2, Nat.add_sub_cancel_left, ← List.map_drop, ← List.map_take]
theorem pure_made (h : sp_made K vs H Q E) : t_made K { nx := fun _ H' => Q .non H', rt := Q } (start N_made vs) H := by
  obtain ⟨B, a, bs, ps, rfl, hB, ⟨as, ha, hp⟩, ok, fit, k⟩ := h
  refine ⟨Nat.zero_le _, fun L nL => ⟨_, rfl, a, rfl, ⟨_, sqT (updN (ne_of_none ha nL) ha)⟩, ?_⟩⟩
  refine for_tup (K := K) (a := a) (xs := as.map V.ref) (fun i σ H' => Same H H' ∧ H' L = some (.lst ((makes bs (ps.take i)).map V.str)) ∧ ∃ z, σ = [some (.ref B), some (.ref a), some (.ref L), z]) ⟨Same.upd nL, updS, none, rfl⟩ (fun i σ H' _ p => sqT (p.1 _ _ ha)) ?_ ?_
  · rintro i x σ H' hx ⟨s, hL, z, rfl⟩
    obtain ⟨c, p, rfl, h1, h2, h3⟩ := sc_get (hp.mono (.of s)) hx
    have f := fit p (List.mem_of_getElem? h2)
    have ok1 := ok.few
    have l1 := makes_len (bs := bs) (fits_take fit i)
    have l2 := total_take_le (ps := ps) i
    have l3 := mk_len f
    have l4 := n_le_total (List.mem_of_getElem? h2)
    have go : ∀ (r : Addr) (H2 : Hp), Same H' H2 → RwAt H2 r (p.mk bs) → rExtendA K (.ref L) [.ref r] H2 fun _ H3 => Same H H3 ∧ H3 L = some (.lst ((makes bs (ps.take (i + 1))).map V.str)) ∧ ∃ z, ([some (.ref B), some (.ref a), some (.ref L), some (.ref c)] : L2.St) = [some (.ref B), some (.ref a), some (.ref L), z] := by
      intro r H2 s2 hr
      refine ⟨L, r, _, _, rfl, rfl, s2 _ _ hL, .inr hr, by rw [List.length_map, List.length_map]; omega, Same.updI (s.trans s2) nL, ?_, _, rfl⟩
      rw [updS, makes_snoc h2, List.map_append]
    refine ⟨_, rfl, .inl ⟨rfl, _, sqL hL⟩, ?_⟩
    cases p with
    | take b m =>
      refine ⟨_, rfl, ixT h3 rfl ⟨rfl, _, rfl, ?_⟩⟩
      rw [take_put]
      refine iteF ⟨_, rfl, _, rfl, ixT h3 rfl ⟨_, rfl, _, rfl, ixT h3 rfl ⟨_, rfl, ixT h3 rfl ⟨_, _, rfl, rfl, _, rfl, ?_⟩⟩⟩⟩
      exact slA (s _ _ hB) f go
    | put rs =>
      obtain ⟨q, h4, h5⟩ := h3
      refine ⟨_, rfl, ixT h4 rfl ⟨rfl, _, rfl, ?_⟩⟩
      rw [decide_eq_true rfl]
      refine iteT ⟨_, rfl, ixT h4 rfl ?_⟩
      exact go q _ (Same.refl _) h5
  · rintro σ H' ⟨s, hL, z, rfl⟩
    rw [List.length_map, hp.1, List.take_of_length_le (Nat.le_refl _)] at hL
    exact ⟨_, rfl, L, _, rfl, .inl ⟨sqL hL, fun r nr => k r _ (s.trans (Same.upd nr)) updS⟩⟩
theorem pure_price (h : sp_price K vs H Q E) : t_price K { nx := fun _ H' => Q .non H', rt := Q } (start N_price vs) H := by
  obtain ⟨a, ps, t, p, rfl, sc, ok, t0, t1, p0, p1, k⟩ := h
  refine ⟨_, rfl, a, ps, rfl, sc, ok, fun H1 s1 => ⟨_, rfl, iteF ?_⟩⟩
  obtain ⟨as, ha, hp⟩ := sc.mono (.of s1)
  have hl : (as.map V.ref).length = ps.length := by rw [List.length_map, hp.1]
  have hz := ok.len
  refine ⟨_, rfl, a, rfl, ⟨_, sqT ha⟩, fun L nL => ?_⟩
  refine lc_grow (walk_tup (xs := as.map V.ref)) yAt (ys := (ps.map (Pc.cost t p)).map V.int) nL (by rw [List.length_map, List.length_map, hl]) (by omega) (fun H' s => sqT (s _ _ ha)) ?_ ?_
  · rintro i x y H' R hi ⟨_, hx⟩ hy s r
    obtain ⟨b, q, rfl, h1, h2, h3⟩ := sc_get (hp.mono (.of s)) hx
    rw [List.getElem?_map, List.getElem?_map, h2] at hy
    cases Option.some.inj hy
    refine ⟨rfl, ?_⟩
    cases q with
    | take c m =>
      refine ⟨_, rfl, ixT h3 rfl ⟨rfl, _, rfl, ?_⟩⟩
      rw [take_put]
      exact iteF ⟨_, rfl, r _ (Same.refl _)⟩
    | put rs =>
      have h30 := h3
      obtain ⟨q, h4, h5⟩ := h3
      refine ⟨_, rfl, ixT h4 rfl ⟨rfl, _, rfl, ?_⟩⟩
      rw [decide_eq_true rfl]
      exact iteT ⟨_, rfl, _, rfl, b, .put rs, rfl, h30, _, _, rfl, rfl, .inl ⟨by omega, by omega⟩, r _ (Same.refl _)⟩
  · intro H2 s2 hL
    exact ⟨L, _, rfl, sqL hL, k _ (s1.trans s2)⟩
theorem cost_snoc {t p : Int} {ps : List Pc} {q : Pc} {i : Nat} (h : ps[i]? = some q) : cost t p (ps.take (i + 1)) = cost t p (ps.take i) + q.cost t p := by
  unfold cost
  rw [List.take_add_one, h, List.map_append, List.sum_append]
  show _ + (q.cost t p + 0) = _
  omega
theorem pure_l_cost (h : sp_l_cost K vs H Q E) : t_l_cost K { nx := fun _ H' => Q .non H', rt := Q } (start N_l_cost vs) H := by
  obtain ⟨a, ps, t, p, rfl, ⟨as, ha, hp⟩, ok, t0, t1, p0, p1, k⟩ := h
  refine ⟨_, rfl, a, rfl, ⟨_, sqT ha⟩, ?_⟩
  refine for_tup (K := K) (a := a) (xs := as.map V.ref) (fun i σ H' => H' = H ∧ ∃ z, σ = [some (.ref a), some (.int t), some (.int p), some (.int (cost t p (ps.take i))), z]) ⟨rfl, none, rfl⟩ (fun i σ H' _ p => by rw [p.1]; exact sqT ha) ?_ ?_
  · rintro i x σ H' hx ⟨rfl, z, rfl⟩
    obtain ⟨b, q, rfl, h1, h2, h3⟩ := sc_get hp hx
    cases q with
    | take c m =>
      refine ⟨_, rfl, ixT h3 rfl ⟨rfl, _, rfl, ?_⟩⟩
      rw [decide_eq_true rfl]
      refine iteT ⟨_, rfl, _, rfl, _, _, rfl, rfl, rfl, some (.ref b), ?_⟩
      rw [cost_snoc h2]
      rfl
    | put rs =>
      obtain ⟨q, h4, h5⟩ := h3
      refine ⟨_, rfl, ixT h4 rfl ⟨rfl, _, rfl, ?_⟩⟩
      rw [put_take]
      refine iteF ⟨_, rfl, _, rfl, _, rfl, ixT h4 rfl (lenT h5 ⟨_, _, rfl, rfl, .inl ⟨by omega, by omega⟩, _, _, rfl, rfl, rfl, some (.ref b), ?_⟩)⟩
      rw [cost_snoc h2, List.length_map]
      rfl
  · rintro σ H' ⟨rfl, z, rfl⟩
    rw [List.length_map, hp.1, List.take_of_length_le (Nat.le_refl _)]
    exact ⟨_, rfl, k⟩
theorem pure_l_made (h : sp_l_made K vs H Q E) : t_l_made K { nx := fun _ H' => Q .non H', rt := Q } (start N_l_made vs) H := by
  obtain ⟨B, a, bs, ps, rfl, hB, ⟨as, ha, hp⟩, ok, fit, k⟩ := h
  refine ⟨Nat.zero_le _, fun L nL => ⟨_, rfl, a, rfl, ⟨_, sqT (updN (ne_of_none ha nL) ha)⟩, ?_⟩⟩
  refine for_tup (K := K) (a := a) (xs := as.map V.ref) (fun i σ H' => Same H H' ∧ H' L = some (.lst ((makes bs (ps.take i)).map V.str)) ∧ ∃ z3 z4 z5, σ = [some (.ref B), some (.ref a), some (.ref L), z3, z4, z5]) ⟨Same.upd nL, updS, none, none, none, rfl⟩ (fun i σ H' _ p => sqT (p.1 _ _ ha)) ?_ ?_
  · rintro i x σ H' hx ⟨s, hL, z3, z4, z5, rfl⟩
    obtain ⟨c, p, rfl, h1, h2, h3⟩ := sc_get (hp.mono (.of s)) hx
    have f := fit p (List.mem_of_getElem? h2)
    have ok1 := ok.few
    have l1 := makes_len (bs := bs) (fits_take fit i)
    have l2 := total_take_le (ps := ps) i
    have l3 := mk_len f
    have l4 := n_le_total (List.mem_of_getElem? h2)
    have nLm : ∀ (H2 : Hp) (ws : List V), Same H H2 → Same H (upd H2 L (.lst ws)) := fun H2 ws s2 => Same.updI s2 nL
    cases p with
    | take b m =>
      have f : b + m ≤ bs.length := f
      have l4 : m ≤ total ps := l4
      refine ⟨_, rfl, ixT h3 rfl ⟨rfl, _, rfl, ?_⟩⟩
      rw [decide_eq_true rfl]
      refine iteT ⟨_, rfl, ixT h3 rfl ⟨_, rfl, (len_le (by omega)).1, (len_le (by omega)).2, ?_⟩⟩
      refine for_range (lo := 0) (n := ((m : Nat) : Int).toNat) (fun j σ H2 => Same H H2 ∧ H2 L = some (.lst ((makes bs (ps.take i) ++ (bs.drop b).take j).map V.str)) ∧ ∃ z4, σ = [some (.ref B), some (.ref a), some (.ref L), some (.ref c), z4, z5]) ⟨s, by rw [hL, List.take_zero, List.append_nil], _, rfl⟩ ?_ ?_
      · rintro j σ H2 hj ⟨s2, hL2, z4, rfl⟩
        have hj2 : b + j < bs.length := by omega
        have g : atI (bs.map V.str) ((b : Int) + (0 + (j : Int))) = some (.str bs[b + j]) := by
          rw [show (b : Int) + (0 + (j : Int)) = ((b + j : Nat) : Int) by omega]
          exact atI_nat (by rw [List.getElem?_map, List.getElem?_eq_getElem hj2]; rfl)
        have h32 : H2 c = some (.tup [.str "take", .int (b : Int), .int (m : Int)]) := by
          have := (hp.mono (.of s2)).2 i c _ h1 h2
          exact this
        refine ⟨_, rfl, .inl ⟨rfl, _, sqL hL2⟩, _, rfl, _, rfl, ixT h32 rfl ⟨_, rfl, _, _, rfl, rfl, ixT (s2 _ _ hB) g ⟨L, _, _, rfl, rfl, hL2, ?_, ?_⟩⟩⟩
        · rw [List.length_map, List.length_append, List.length_take, List.length_drop]
          exact Nat.lt_of_le_of_lt (show _ ≤ 1000 by omega) (by decide)
        · refine ⟨nLm _ _ s2, ?_, _, rfl⟩
          rw [updS, List.take_add_one, List.getElem?_drop, List.getElem?_eq_getElem hj2]
          simp only [List.map_append, List.append_assoc]
          rfl
      · rintro σ H2 ⟨s2, hL2, z4, rfl⟩
        refine ⟨s2, ?_, _, _, _, rfl⟩
        rw [hL2, makes_snoc h2, show ((m : Nat) : Int).toNat = m by omega]
        rfl
    | put rs =>
      obtain ⟨q, h4, h5⟩ := h3
      refine ⟨_, rfl, ixT h4 rfl ⟨rfl, _, rfl, ?_⟩⟩
      rw [put_take]
      have l4 : rs.length ≤ total ps := l4
      refine iteF ⟨_, rfl, ixT h4 rfl ⟨q, rfl, ⟨_, sqT h5⟩, ?_⟩⟩
      have nLq : q ≠ L := ne_of h5 hL (by intro z; cases z)
      refine for_tup (K := K) (a := q) (xs := rs.map V.str) (fun j σ H2 => Same H H2 ∧ H2 q = some (.tup (rs.map V.str)) ∧ H2 L = some (.lst ((makes bs (ps.take i) ++ rs.take j).map V.str)) ∧ ∃ z5, σ = [some (.ref B), some (.ref a), some (.ref L), some (.ref c), z4, z5]) ⟨s, h5, by rw [hL, List.take_zero, List.append_nil], _, rfl⟩ (fun j σ H2 _ p => sqT p.2.1) ?_ ?_
      · rintro j x σ H2 hx2 ⟨s2, hq2, hL2, z5, rfl⟩
        rw [List.getElem?_map] at hx2
        cases e : rs[j]? with
        | none => rw [e] at hx2; cases hx2
        | some z =>
          rw [e] at hx2
          cases Option.some.inj hx2
          have hj := (List.getElem?_eq_some_iff.mp e).1
          refine ⟨_, rfl, .inl ⟨rfl, _, sqL hL2⟩, _, rfl, L, _, _, rfl, rfl, hL2, ?_, ?_⟩
          · rw [List.length_map, List.length_append, List.length_take]
            exact Nat.lt_of_le_of_lt (show _ ≤ 1000 by omega) (by decide)
          · refine ⟨nLm _ _ s2, updN nLq hq2, ?_, _, rfl⟩
            rw [updS, List.take_add_one, e]
            simp only [List.map_append, List.append_assoc]
            rfl
      · rintro σ H2 ⟨s2, hq2, hL2, z5, rfl⟩
        refine ⟨s2, ?_, _, _, _, rfl⟩
        rw [hL2, makes_snoc h2, List.length_map, List.take_of_length_le (Nat.le_refl _)]
        rfl
  · rintro σ H' ⟨s, hL, z3, z4, z5, rfl⟩
    rw [List.length_map, hp.1, List.take_of_length_le (Nat.le_refl _)] at hL
    exact ⟨_, rfl, L, _, rfl, .inl ⟨sqL hL, fun r nr => k r _ (s.trans (Same.upd nr)) updS⟩⟩
end
end Fw

set_option Elab.async false
set_option linter.all false
set_option maxRecDepth 100000
set_option maxHeartbeats 4000000
namespace Fw
open PySem L2 RZ RT
def StAt (H : Hp) (S : Addr) (st : List Str) : Prop := H S = some (.lst (st.map V.str)) ∧ 0 < st.length ∧ st.length ≤ 5 ∧ ∀ z ∈ st, OkS z
theorem StAt.kp {D : Addr} {H H' : Hp} {S : Addr} {st : List Str} (h : StAt H S st) (k : Kp D H H') (n : S ≠ D) : StAt H' S st := ⟨k _ _ h.1 n, h.2⟩
theorem StAt.same {H H' : Hp} {S : Addr} {st : List Str} (h : StAt H S st) (k : Same H H') : StAt H' S st := ⟨k _ _ h.1, h.2⟩
theorem Dk.same {c D : Addr} {ns : List Int} {t : Nat} {H H' : Hp} (d : Dk c D ns t H) (s : Same H H') : Dk c D ns t H' := by
  obtain ⟨a, b, e, i, n, u, h, r⟩ := d
  exact ⟨a, s _ _ b, e, i, n, u, s _ _ h, r⟩
def sp_l_text (_ : PySem.W.Frag) : Sp := fun vs H Q _ => ∃ (c D : Addr) (ns : List Int) (t : Nat) (size : Int), vs = [.ref D, .int size] ∧ Dk c D ns t H ∧ 0 ≤ size ∧ size ≤ 40 ∧ t + 50 < 1000000000 ∧
  ∀ (z : Str) (H' : Hp), OkS z → Kp D H H' → Dk c D ns (t + 50) H' → Q (.str z) H'
def sp_l_stock (_ : PySem.W.Frag) : Sp := fun vs H Q _ => ∃ (c D : Addr) (ns : List Int) (t : Nat), vs = [.ref D] ∧ Dk c D ns t H ∧ t + 300 < 1000000000 ∧
  ∀ (S : Addr) (st : List Str) (H' : Hp), StAt H' S st → H S = none → Kp D H H' → Dk c D ns (t + 300) H' → Q (.ref S) H'
def sp_l_lines (_ : PySem.W.Frag) : Sp := fun vs H Q _ => ∃ (c D S : Addr) (ns : List Int) (t : Nat) (st : List Str) (most : Int), vs = [.ref D, .ref S, .int most] ∧ Dk c D ns t H ∧ StAt H S st ∧ S ≠ D ∧ 0 ≤ most ∧ most ≤ 40 ∧ t + 50 < 1000000000 ∧
  ∀ (a : Addr) (bs : List Str) (H' : Hp), RwAt H' a bs → (∀ z ∈ bs, z ∈ st) → (bs.length : Int) ≤ most → Kp D H H' → Dk c D ns (t + 50) H' → Q (.ref a) H'
def sp_l_most (_ : PySem.W.Frag) : Sp := fun vs H Q _ => ∃ (c D : Addr) (ns : List Int) (t : Nat), vs = [.ref D] ∧ Dk c D ns t H ∧ t + 1 < 1000000000 ∧
  ∀ (m : Int) (H' : Hp), 0 ≤ m → m ≤ 40 → Kp D H H' → Dk c D ns (t + 1) H' → Q (.int m) H'
def sp_l_script (_ : PySem.W.Frag) : Sp := fun vs H Q _ => ∃ (c D B S : Addr) (ns : List Int) (t : Nat) (bs st : List Str) (most : Int), vs = [.ref D, .ref B, .ref S, .int most] ∧ Dk c D ns t H ∧ RwAt H B bs ∧ bs.length ≤ 1000 ∧ StAt H S st ∧ S ≠ D ∧ 0 ≤ most ∧ most ≤ 40 ∧ t + 300 < 1000000000 ∧
  ∀ (a : Addr) (ps : List Pc) (H' : Hp), ScAt H' a ps → ScOk ps → (∀ p ∈ ps, p.fits bs.length) → (total ps : Int) ≤ most → (∀ p ∈ ps, ∀ rs, p = .put rs → ∀ z ∈ rs, z ∈ st) → Kp D H H' → Dk c D ns (t + 300) H' → Q (.ref a) H'
section
variable {K : PySem.W.Frag} {vs : List V} {H : Hp} {Q : VK} {E : XK}
theorem len_l_text (h : sp_l_text K vs H Q E) : vs.length = 2 := by obtain ⟨_, _, _, _, _, rfl, _⟩ := h; rfl
theorem len_l_stock (h : sp_l_stock K vs H Q E) : vs.length = 1 := by obtain ⟨_, _, _, _, rfl, _⟩ := h; rfl
theorem len_l_lines (h : sp_l_lines K vs H Q E) : vs.length = 3 := by obtain ⟨_, _, _, _, _, _, _, rfl, _⟩ := h; rfl
theorem len_l_most (h : sp_l_most K vs H Q E) : vs.length = 1 := by obtain ⟨_, _, _, _, rfl, _⟩ := h; rfl
theorem len_l_script (h : sp_l_script K vs H Q E) : vs.length = 4 := by obtain ⟨_, _, _, _, _, _, _, _, _, rfl, _⟩ := h; rfl
end
abbrev N_l_text : List Str := ["_law_deck_here", "_law_size", "_law_signs", "_law_k"]
def t_l_text_rest (K : PySem.W.Frag) : TS := (tRet (tM1 (fJoin K) (tC (.str "")) (tLc (iRng1 (tCons (tCall (sp_l_draw K) [] E0 (tCons (tVar 0) (tCons (tOp rAddI (tVar 1) (tC (.int 1))) tNil))) tNil)) (gName 3) tYes (tOp (rIx K) (tVar 2) (tCall (sp_l_draw K) [] E0 (tCons (tVar 0) (tCons (tCB (fLen K) (tCons (tVar 2) tNil)) tNil)))) [3])))
def t_l_text (K : PySem.W.Frag) : TS := (tSeq (tAsg (tC (.str " !\"#$&'()*+,-./0123456789:;<=>?@ABCDEFGHIJKLMNOPQRSTUVWXYZ[\\]^_`abcdefghijklmnopqrstuvwxyz{|}~")) (gName 2))
    (tSeq (tIfS (tTest (tOp rEq (tCall (sp_l_draw K) [] E0 (tCons (tVar 0) (tCons (tC (.int 2)) tNil))) (tC (.int 0)))) (tAsg (tC (.str "ab")) (gName 2)) tNext)
    (t_l_text_rest K)))
abbrev N_l_stock : List Str := ["_law_deck_here", "_law_longest", "_law_k"]
def t_l_stock_rest (K : PySem.W.Frag) : TS := (tRet (tLc (iRng1 (tCons (tOp rAddI (tC (.int 1)) (tCall (sp_l_draw K) [] E0 (tCons (tVar 0) (tCons (tC (.int 5)) tNil)))) tNil)) (gName 2) tYes (tCall (sp_l_text K) [] E0 (tCons (tVar 0) (tCons (tVar 1) tNil))) [2]))
def t_l_stock (K : PySem.W.Frag) : TS := (tSeq (tAsg (tC (.int 4)) (gName 1))
    (tSeq (tIfS (tTest (tOp rEq (tCall (sp_l_draw K) [] E0 (tCons (tVar 0) (tCons (tC (.int 6)) tNil))) (tC (.int 0)))) (tAsg (tC (.int 40)) (gName 1)) tNext)
    (t_l_stock_rest K)))
abbrev N_l_lines : List Str := ["_law_deck_here", "_law_stock_here", "_law_most_here", "_law_k"]
def t_l_lines (K : PySem.W.Frag) : TS := (tRet (tCB (fTupleOf K) (tCons (tLc (iRng1 (tCons (tCall (sp_l_draw K) [] E0 (tCons (tVar 0) (tCons (tOp rAddI (tVar 2) (tC (.int 1))) tNil))) tNil)) (gName 3) tYes (tOp (rIx K) (tVar 1) (tCall (sp_l_draw K) [] E0 (tCons (tVar 0) (tCons (tCB (fLen K) (tCons (tVar 1) tNil)) tNil)))) [3]) tNil)))
abbrev N_l_most : List Str := ["_law_deck_here"]
def t_l_most (K : PySem.W.Frag) : TS := (tSeq (tIfS (tTest (tOp rEq (tCall (sp_l_draw K) [] E0 (tCons (tVar 0) (tCons (tC (.int 8)) tNil))) (tC (.int 0)))) (tRet (tC (.int 40))) tNext)
    (tRet (tC (.int 9))))
abbrev N_l_script : List Str := ["_law_deck_here", "_law_base", "_law_stock_here", "_law_most_here", "_law_pieces", "_law_room", "_law_begin", "_law_many", "_law_k"]
def t_l_script_take (K : PySem.W.Frag) : TS := (tSeq (tAsg (tOp rAddI (tC (.int 1)) (tCall (sp_l_draw K) [] E0 (tCons (tVar 0) (tCons (tCB fMin2 (tCons (tVar 5) (tCons (tOp rSubI (tCB (fLen K) (tCons (tVar 1) tNil)) (tVar 6)) tNil))) tNil)))) (gName 7))
    (tDrop (tBM K "list" rAppend (tVar 4) (tCons (tTup (tCons (tC (.str "take")) (tCons (tVar 6) (tCons (tVar 7) tNil)))) tNil))))
def t_l_script_put (K : PySem.W.Frag) : TS := (tSeq (tAsg (tOp rAddI (tC (.int 1)) (tCall (sp_l_draw K) [] E0 (tCons (tVar 0) (tCons (tCB fMin2 (tCons (tVar 5) (tCons (tC (.int 3)) tNil))) tNil)))) (gName 7))
    (tDrop (tBM K "list" rAppend (tVar 4) (tCons (tTup (tCons (tC (.str "put")) (tCons (tCB (fTupleOf K) (tCons (tLc (iRng1 (tCons (tVar 7) tNil)) (gName 8) tYes (tOp (rIx K) (tVar 2) (tCall (sp_l_draw K) [] E0 (tCons (tVar 0) (tCons (tCB (fLen K) (tCons (tVar 2) tNil)) tNil)))) [8]) tNil)) tNil))) tNil))))
def t_l_script_end (K : PySem.W.Frag) : TS := (tAsg (tOp rSubI (tVar 5) (tVar 7)) (gName 5))
def t_l_script_turn (K : PySem.W.Frag) : TS := (tSeq (tIfS (tAnd (tTest (tOp rGtI (tCB (fLen K) (tCons (tVar 1) tNil)) (tC (.int 0)))) (tTest (tOp rGtI (tCall (sp_l_draw K) [] E0 (tCons (tVar 0) (tCons (tC (.int 3)) tNil))) (tC (.int 0))))) (tSeq (tAsg (tCall (sp_l_draw K) [] E0 (tCons (tVar 0) (tCons (tCB (fLen K) (tCons (tVar 1) tNil)) tNil))) (gName 6))
    (t_l_script_take K)) (t_l_script_put K))
    (t_l_script_end K))
def t_l_script (K : PySem.W.Frag) : TS := (tSeq (tAsg (tLst tNil) (gName 4))
    (tSeq (tAsg (tCall (sp_l_draw K) [] E0 (tCons (tVar 0) (tCons (tOp rAddI (tVar 3) (tC (.int 1))) tNil))) (gName 5))
    (tSeq (tWhile (tTest (tOp rGtI (tVar 5) (tC (.int 0)))) (t_l_script_turn K))
    (tRet (tCB (fTupleOf K) (tCons (tVar 4) tNil))))))
theorem join_chars (ys : List Nat) : Txt.join ("" : Str) ((ys.map fun c => (⟨#[c]⟩ : Str))) = ⟨ys.toArray⟩ := by
  have e : ("" : Str) = ⟨#[]⟩ := by decide +kernel
  rw [e]
  unfold Txt.join
  have h := PyProof.Rows.join_nil_signs ⟨ys.toArray⟩
  rw [← StrLaws.glued_eq_join] at h
  exact h
theorem sum_ones : ∀ ys : List Nat, ((ys.map fun c => (⟨#[c]⟩ : Str)).map (·.length)).sum = ys.length
  | [] => rfl
  | y :: ys => by
    rw [List.map_cons, List.map_cons, List.sum_cons, sum_ones ys, List.length_cons]
    show 1 + ys.length = _
    omega
section
variable {K : PySem.W.Frag} {vs : List V} {H : Hp} {Q : VK} {E : XK}
theorem text_rest {c D : Addr} {ns : List Int} {t : Nat} {size : Int} {S : Str} {z3 : Option V} (dk : Dk c D ns t H) (s0 : 0 ≤ size) (s1 : size ≤ 40) (ht : t + 45 < 1000000000) (l0 : 0 < S.cps.size) (l1 : S.cps.size ≤ 100) (ok : ∀ x ∈ S.cps.toList, OkC x)
    (k : ∀ (z : Str) (H' : Hp), OkS z → Kp D H H' → Dk c D ns (t + 45) H' → Q (.str z) H') : t_l_text_rest K { nx := fun _ H' => Q .non H', rt := Q } [some (.ref D), some (.int size), some (.str S), z3] H := by
  refine ⟨⟨_, rfl⟩, _, rfl, _, rfl, _, _, rfl, rfl, c, D, ns, t, size + 1, rfl, dk, by omega, by omega, small100 (by omega), fun n H1 n0 n1 d1 fr1 => ⟨_, rfl, by omega, by omega, fun L nL => ?_⟩⟩
  refine lc_deck (walk_range (lo := 0) (n := n.toNat)) yFn (fun x : Nat => V.str ⟨#[x]⟩) OkC 1 nL d1 (by omega) ?_ ?_
  · intro i x H2 R hi kp d2 r
    refine ⟨rfl, ⟨_, rfl, _, rfl, _, rfl, lenS (Nat.le_trans l1 (by decide)) ⟨c, D, ns, _, _, rfl, d2, by omega, (show (0 : Int) < (S.length : Int) by show (0 : Int) < (S.cps.size : Int); omega), small100 (show ((S.cps.size : Nat) : Int).natAbs ≤ _ by omega), fun v H3 v0 v1 d3 fr3 => ?_⟩⟩⟩
    obtain ⟨j, rfl⟩ := Int.eq_ofNat_of_zero_le v0
    have hj : j < S.cps.toList.length := by
      have : ((j : Nat) : Int) < ((S.cps.size : Nat) : Int) := v1
      rw [Array.length_toList]
      omega
    exact ixS (Nat.le_trans l1 (by decide)) (atI_nat (List.getElem?_eq_getElem hj)) (r _ _ (ok _ (List.getElem_mem hj)) (.fr fr3) d3)
  · intro ys H2 hl hp kp d2 hL
    have hlen : ys.length ≤ 40 := by omega
    refine ⟨_, L, (ys.map fun c => (⟨#[c]⟩ : Str)), rfl, rfl, .inl (sqL (by rw [hL, List.map_map]; rfl)), ?_, ?_⟩
    · rw [sum_ones, List.length_map]
      show ys.length + ys.length * 0 ≤ _
      omega
    · rw [join_chars]
      refine k _ _ ⟨?_, ?_⟩ ((Kp.fr fr1).trans kp) (d2.le (by omega))
      · show ys.toArray.size ≤ 40
        rw [List.size_toArray]
        exact hlen
      · intro x hx
        exact hp x hx
theorem signs_ok : ∀ x ∈ (" !\"#$&'()*+,-./0123456789:;<=>?@ABCDEFGHIJKLMNOPQRSTUVWXYZ[\\]^_`abcdefghijklmnopqrstuvwxyz{|}~" : Str).cps.toList, OkC x := by
  have h : ((" !\"#$&'()*+,-./0123456789:;<=>?@ABCDEFGHIJKLMNOPQRSTUVWXYZ[\\]^_`abcdefghijklmnopqrstuvwxyz{|}~" : Str).cps.toList.all fun x => decide (32 ≤ x) && (decide (x ≤ 126) && !decide (x = 37))) = true := by decide +kernel
  intro x hx
  have := List.all_eq_true.mp h x hx
  simp only [Bool.and_eq_true, decide_eq_true_eq, Bool.not_eq_true', decide_eq_false_iff_not] at this
  exact ⟨this.1, this.2.1, this.2.2⟩
theorem ab_ok : ∀ x ∈ ("ab" : Str).cps.toList, OkC x := by
  have h : (("ab" : Str).cps.toList.all fun x => decide (32 ≤ x) && (decide (x ≤ 126) && !decide (x = 37))) = true := by decide +kernel
  intro x hx
  have := List.all_eq_true.mp h x hx
  simp only [Bool.and_eq_true, decide_eq_true_eq, Bool.not_eq_true', decide_eq_false_iff_not] at this
  exact ⟨this.1, this.2.1, this.2.2⟩
theorem pure_l_text (h : sp_l_text K vs H Q E) : t_l_text K { nx := fun _ H' => Q .non H', rt := Q } (start N_l_text vs) H := by
  obtain ⟨c, D, ns, t, size, rfl, dk, s0, s1, ht, k⟩ := h
  refine ⟨_, rfl, c, D, ns, t, 2, rfl, dk, by omega, by decide, by decide, fun v H1 v0 v1 d1 fr1 => ⟨rfl, _, rfl, ite2 (fun _ => ?_) (fun _ => ?_)⟩⟩
  · exact text_rest d1 s0 s1 (by omega) (by decide +kernel) (by decide +kernel) ab_ok fun z H2 o kp d2 => k z H2 o ((Kp.fr fr1).trans kp) (d2.le (by omega))
  · exact text_rest d1 s0 s1 (by omega) (by decide +kernel) (by decide +kernel) signs_ok fun z H2 o kp d2 => k z H2 o ((Kp.fr fr1).trans kp) (d2.le (by omega))
theorem stock_rest {c D : Addr} {ns : List Int} {t : Nat} {size : Int} {z2 : Option V} (dk : Dk c D ns t H) (s0 : 0 ≤ size) (s1 : size ≤ 40) (ht : t + 299 < 1000000000)
    (k : ∀ (S : Addr) (st : List Str) (H' : Hp), StAt H' S st → H S = none → Kp D H H' → Dk c D ns (t + 299) H' → Q (.ref S) H') : t_l_stock_rest K { nx := fun _ H' => Q .non H', rt := Q } [some (.ref D), some (.int size), z2] H := by
  refine ⟨_, rfl, c, D, ns, t, 5, rfl, dk, by omega, by decide, by decide, fun n H1 n0 n1 d1 fr1 => ⟨_, _, rfl, rfl, _, rfl, by omega, by omega, fun L nL => ?_⟩⟩
  refine lc_deck (walk_range (lo := 0) (n := (1 + n).toNat)) yFn V.str OkS 50 nL d1 (by omega) ?_ ?_
  · intro i x H2 R hi kp d2 r
    refine ⟨rfl, ⟨_, rfl, _, rfl, c, D, ns, _, size, rfl, d2, s0, s1, by omega, fun z H3 o kp3 d3 => r z H3 o kp3 d3⟩⟩
  · intro ys H2 hl hp kp d2 hL
    exact k L ys H2 ⟨hL, by omega, by omega, hp⟩ ((Kp.fr fr1).free nL (d1.neD nL)) ((Kp.fr fr1).trans kp) (d2.le (by omega))
theorem pure_l_stock (h : sp_l_stock K vs H Q E) : t_l_stock K { nx := fun _ H' => Q .non H', rt := Q } (start N_l_stock vs) H := by
  obtain ⟨c, D, ns, t, rfl, dk, ht, k⟩ := h
  refine ⟨_, rfl, c, D, ns, t, 6, rfl, dk, by omega, by decide, by decide, fun v H1 v0 v1 d1 fr1 => ⟨rfl, _, rfl, ite2 (fun _ => ?_) (fun _ => ?_)⟩⟩
  · exact stock_rest d1 (by decide) (by decide) (by omega) fun S st H2 h n kp d2 => k S st H2 h ((Kp.fr fr1).free n (d1.neD n)) ((Kp.fr fr1).trans kp) (d2.le (by omega))
  · exact stock_rest d1 (by decide) (by decide) (by omega) fun S st H2 h n kp d2 => k S st H2 h ((Kp.fr fr1).free n (d1.neD n)) ((Kp.fr fr1).trans kp) (d2.le (by omega))
/-- stock[draw(deck, len(stock))] -/
theorem stock_draw {c D S : Addr} {ns : List Int} {t : Nat} {st : List Str} {i j : Nat} {σ : L2.St} {R : VK} (eD : σ[i]? = some (some (.ref D))) (eS : σ[j]? = some (some (.ref S))) (dk : Dk c D ns t H) (ht : t < 1000000000) (sa : StAt H S st) (nSD : S ≠ D)
    (r : ∀ y H', y ∈ st → Kp D H H' → Dk c D ns (t + 1) H' → R (.str y) H') : tOp (rIx K) (tVar j) (tCall (sp_l_draw K) [] E0 (tCons (tVar i) (tCons (tCB (fLen K) (tCons (tVar j) tNil)) tNil))) σ H R := by
  refine ⟨_, eS, _, eD, _, eS, lenL sa.1 ⟨c, D, ns, _, _, rfl, dk, ht, ?_, ?_, fun v H3 v0 v1 d3 fr3 => ?_⟩⟩
  · rw [List.length_map]
    have := sa.2.1
    omega
  · rw [List.length_map]
    have := sa.2.2.1
    exact small100 (by omega)
  · obtain ⟨q, rfl⟩ := Int.eq_ofNat_of_zero_le v0
    rw [List.length_map] at v1
    have hq : q < st.length := by omega
    exact ixL (by rw [fr3 _ nSD]; exact sa.1) (atI_nat (by rw [List.getElem?_map, List.getElem?_eq_getElem hq]; rfl)) (r _ _ (List.getElem_mem hq) (.fr fr3) d3)
theorem pure_l_lines (h : sp_l_lines K vs H Q E) : t_l_lines K { nx := fun _ H' => Q .non H', rt := Q } (start N_l_lines vs) H := by
  obtain ⟨c, D, S, ns, t, st, most, rfl, dk, sa, nSD, m0, m1, ht, k⟩ := h
  refine ⟨_, rfl, _, rfl, _, _, rfl, rfl, c, D, ns, t, most + 1, rfl, dk, by omega, by omega, small100 (by omega), fun n H1 n0 n1 d1 fr1 => ⟨_, rfl, by omega, by omega, fun L nL => ?_⟩⟩
  have sa1 := sa.kp (.fr fr1) nSD
  refine lc_deck (walk_range (lo := 0) (n := n.toNat)) yFn V.str (fun z => z ∈ st) 1 nL d1 (by omega) ?_ ?_
  · intro i x H2 R hi kp d2 r
    exact ⟨rfl, stock_draw (i := 0) (j := 1) rfl rfl d2 (by omega) (sa1.kp kp nSD) nSD r⟩
  · intro ys H2 hl hp kp d2 hL
    refine ⟨L, _, rfl, .inl ⟨sqL hL, fun r nr => k r ys _ updS hp (by omega) (((Kp.fr fr1).trans kp).trans (.new nr)) ((d2.le (by omega)).upd (d2.neC nr) (d2.neD nr))⟩⟩
theorem pure_l_most (h : sp_l_most K vs H Q E) : t_l_most K { nx := fun _ H' => Q .non H', rt := Q } (start N_l_most vs) H := by
  obtain ⟨c, D, ns, t, rfl, dk, ht, k⟩ := h
  refine ⟨_, rfl, c, D, ns, t, 8, rfl, dk, by omega, by decide, by decide, fun v H1 v0 v1 d1 fr1 => ⟨rfl, _, rfl, ite2 (fun _ => ?_) (fun _ => ?_)⟩⟩
  · exact k 40 H1 (by decide) (by decide) (.fr fr1) d1
  · exact k 9 H1 (by decide) (by decide) (.fr fr1) d1
/-- the state of the maker of scripts -/
structure SS (H0 : Hp) (c D L B S : Addr) (ns : List Int) (t : Nat) (bs st : List Str) (as : List Addr) (ps : List Pc) (H : Hp) : Prop where
  dk : Dk c D ns t H
  keep : Kp D H0 H
  hl : H L = some (.lst (as.map V.ref))
  pr : PsAt H as ps
  ok : ∀ p ∈ ps, p.ok
  fit : ∀ p ∈ ps, p.fits bs.length
  sub : ∀ p ∈ ps, ∀ rs, p = .put rs → ∀ z ∈ rs, z ∈ st
  nL : H0 L = none
  d0 : ∃ t0, Dk c D ns t0 H0
  hB : RwAt H0 B bs
  sa : StAt H0 S st
  nS : S ≠ D
section
variable {H0 H H' : Hp} {c D L B S q : Addr} {ns : List Int} {t t' : Nat} {bs st : List Str} {as : List Addr} {ps : List Pc} {o : HO}
theorem SS.nLD (s : SS H0 c D L B S ns t bs st as ps H) : L ≠ D := s.d0.choose_spec.neD s.nL
theorem SS.nLC (s : SS H0 c D L B S ns t bs st as ps H) : L ≠ c := s.d0.choose_spec.neC s.nL
theorem SS.move (s : SS H0 c D L B S ns t bs st as ps H) (k : Kp D H H') (d : Dk c D ns t' H') : SS H0 c D L B S ns t' bs st as ps H' :=
  ⟨d, s.keep.trans k, k _ _ s.hl s.nLD, s.pr.mono (k.tm s.dk), s.ok, s.fit, s.sub, s.nL, s.d0, s.hB, s.sa, s.nS⟩
theorem SS.baseAt (s : SS H0 c D L B S ns t bs st as ps H) : RwAt H B bs := s.keep.tup s.d0.choose_spec _ _ s.hB
theorem SS.stAt (s : SS H0 c D L B S ns t bs st as ps H) : StAt H S st := s.sa.kp s.keep s.nS
theorem SS.add (s : SS H0 c D L B S ns t bs st as ps H) {T : Addr} {p : Pc} (hT : PcAt H T p) (ok : p.ok) (fit : p.fits bs.length) (sub : ∀ rs, p = .put rs → ∀ z ∈ rs, z ∈ st) : SS H0 c D L B S ns t bs st (as ++ [T]) (ps ++ [p]) (upd H L (.lst (as.map V.ref ++ [.ref T]))) := by
  have tm : TM H (upd H L (.lst (as.map V.ref ++ [.ref T]))) := fun a xs h => updN (ne_of h s.hl (by intro z; cases z)) h
  refine ⟨s.dk.upd s.nLC s.nLD, fun b u e n => updN (ne_of_none e s.nL) (s.keep b u e n), by rw [updS, List.map_append]; rfl, (s.pr.snoc hT).mono tm, fun q hq => ?_, fun q hq => ?_, fun q hq => ?_, s.nL, s.d0, s.hB, s.sa, s.nS⟩
  · rcases List.mem_append.mp hq with h | h
    · exact s.ok q h
    · cases List.mem_singleton.mp h
      exact ok
  · rcases List.mem_append.mp hq with h | h
    · exact s.fit q h
    · cases List.mem_singleton.mp h
      exact fit
  · rcases List.mem_append.mp hq with h | h
    · exact s.sub q h
    · cases List.mem_singleton.mp h
      exact sub
end
theorem total_snoc (ps : List Pc) (p : Pc) : total (ps ++ [p]) = total ps + p.n := by
  unfold total
  rw [List.map_append, List.sum_append]
  show _ + (p.n + 0) = _
  omega
theorem min2_eq {i j : Int} : (if j < i then j else i) ≤ i ∧ (if j < i then j else i) ≤ j := by
  by_cases h : j < i
  · rw [if_pos h]; omega
  · rw [if_neg h]; omega
theorem min2_pos {i j : Int} (h1 : 0 < i) (h2 : 0 < j) : 0 < (if j < i then j else i) := by
  by_cases h : j < i
  · rw [if_pos h]; exact h2
  · rw [if_neg h]; exact h1
def SsW (H0 : Hp) (c D L B S : Addr) (ns : List Int) (t : Nat) (bs st : List Str) (most m0 : Int) (σ : L2.St) (H' : Hp) : Prop := ∃ (as : List Addr) (ps : List Pc) (room : Int) (z6 z7 z8 : Option V),
  σ = [some (.ref D), some (.ref B), some (.ref S), some (.int most), some (.ref L), some (.int room), z6, z7, z8] ∧ 0 ≤ room ∧ (total ps : Int) + room = m0 ∧ SS H0 c D L B S ns (t + 6 * total ps) bs st as ps H'
theorem pure_l_script (h : sp_l_script K vs H Q E) : t_l_script K { nx := fun _ H' => Q .non H', rt := Q } (start N_l_script vs) H := by
  obtain ⟨c, D, B, S, ns, t, bs, st, most, rfl, dk, hB, hbl, sa, nSD, m0, m1, ht, k⟩ := h
  refine ⟨Nat.zero_le _, fun L nL => ?_⟩
  have dL := dk.upd (o := .lst []) (dk.neC nL) (dk.neD nL)
  refine ⟨_, rfl, _, rfl, _, _, rfl, rfl, c, D, ns, t, most + 1, rfl, dL, by omega, by omega, small100 (by omega), fun n H1 n0 n1 d1 fr1 => ?_⟩
  have nLD : L ≠ D := dk.neD nL
  have k1 : Kp D H H1 := (Kp.new nL).trans (.fr fr1)
  have s1 : SS H c D L B S ns (t + 1 + 6 * 0) bs st [] [] H1 := ⟨d1, k1, by rw [fr1 _ nLD]; exact updS, .nil, (fun _ h => by cases h), (fun _ h => by cases h), (fun _ h => by cases h), nL, ⟨t, dk⟩, hB, sa, nSD⟩
  show tSeq (tWhile _ (t_l_script_turn K)) _ _ [some (.ref D), some (.ref B), some (.ref S), some (.int most), some (.ref L), some (.int n), none, none, none] H1
  refine while_by (SsW H c D L B S ns (t + 1) bs st most n) (fun σ _ => slotN 5 σ) ⟨[], [], n, none, none, none, rfl, n0, by show ((0 : Nat) : Int) + n = n; omega, s1⟩ ?_ (fun σ H Q Q' f h => by
    obtain ⟨v, e, i, j, e1, e2, b, e3, q⟩ := h
    exact ⟨v, e, i, j, e1, e2, b, e3, f _ _ q⟩)
  rintro σ H2 ⟨as, ps, room, z6, z7, z8, rfl, r0, rt, s⟩
  refine ⟨_, rfl, _, _, rfl, rfl, _, rfl, ite2 (fun e => ?_) (fun e => ?_)⟩
  · have hroom : 0 < room := of_decide_eq_true e
    have tot : (total ps : Int) ≤ 40 := by omega
    have nl : as.length ≤ 40 := by
      rw [s.pr.1]
      have := len_le_total s.ok
      omega
    -- the end of a turn
    have fin : ∀ (T : Addr) (p : Pc) (m' : Int) (y6 y8 : Option V) (t' : Nat) (H3 : Hp) (D1 D2 : Ends), (∀ σ' H', SsW H c D L B S ns (t + 1) bs st most n σ' H' ∧ slotN 5 σ' < room.toNat → D1.nx σ' H') → (∀ σ' H', t_l_script_end K D1 σ' H' → D2.nx σ' H') → m' = (p.n : Int) → t' ≤ t + 1 + 6 * total ps + 6 → SS H c D L B S ns t' bs st as ps H3 → PcAt H3 T p → p.ok → p.fits bs.length → (∀ rs, p = .put rs → ∀ z ∈ rs, z ∈ st) → (p.n : Int) ≤ room →
        rAppend (.ref L) [.ref T] H3 fun _ H4 => D2.nx [some (.ref D), some (.ref B), some (.ref S), some (.int most), some (.ref L), some (.int room), y6, some (.int m'), y8] H4 := by
      intro T p m' y6 y8 t' H3 D1 D2 k1 k2 em ht' s3 hT ok fit sub hn
      subst em
      have p1 := Pc.one ok
      refine ⟨L, _, _, rfl, rfl, s3.hl, by rw [List.length_map]; exact Nat.lt_of_le_of_lt nl (by decide), k2 _ _ ?_⟩
      refine ⟨_, rfl, _, rfl, _, _, rfl, rfl, k1 _ _ ⟨⟨as ++ [T], ps ++ [p], room - (p.n : Int), _, _, _, rfl, by omega, by rw [total_snoc]; omega, ?_⟩, ?_⟩⟩
      · have s4 := s3.add hT ok fit sub
        refine s4.move (Kp.refl _ _) (s4.dk.le ?_)
        rw [total_snoc, Nat.mul_add]
        omega
      · show (room - (p.n : Int)).toNat < room.toNat
        omega
    have put : ∀ (y6 y7 y8 : Option V) (t' : Nat) (H3 : Hp) (D1 D2 : Ends), (∀ σ' H', SsW H c D L B S ns (t + 1) bs st most n σ' H' ∧ slotN 5 σ' < room.toNat → D1.nx σ' H') → (∀ σ' H', t_l_script_end K D1 σ' H' → D2.nx σ' H') → t' ≤ t + 1 + 6 * total ps + 1 → SS H c D L B S ns t' bs st as ps H3 → t_l_script_put K D2 [some (.ref D), some (.ref B), some (.ref S), some (.int most), some (.ref L), some (.int room), y6, y7, y8] H3 := by
      intro y6 y7 y8 t' H3 D1 D2 k1 k2 ht' s3
      have mp := min2_pos hroom (show (0 : Int) < 3 by decide)
      have ml := min2_eq (i := room) (j := 3)
      refine ⟨_, rfl, _, rfl, _, _, rfl, c, D, ns, t', _, rfl, s3.dk, by omega, mp, small100 (by omega), fun v H4 v0 v1 d4 fr4 => ⟨_, _, rfl, rfl, ?_⟩⟩
      have s4 := s3.move (.fr fr4) d4
      refine ⟨_, rfl, .inl ⟨rfl, _, sqL s4.hl⟩, _, rfl, _, rfl, by omega, by omega, fun G nG => ?_⟩
      refine lc_deck (walk_range (lo := 0) (n := (1 + v).toNat)) yFn V.str (fun z => z ∈ st) 1 nG d4 (by omega) ?_ ?_
      · intro i x H5 R hi kp d5 r
        exact ⟨rfl, stock_draw (i := 0) (j := 2) rfl rfl d5 (by omega) (s4.move kp d5).stAt nSD r⟩
      · intro ys H5 hl hp kp d5 hG
        refine ⟨G, _, rfl, .inl ⟨sqL hG, fun r nr => ⟨by show (2 : Nat) ≤ sizeLine; decide, fun T nT => ?_⟩⟩⟩
        have s5 := s4.move kp d5
        have s6 := s5.move (Kp.new (o := .tup (ys.map V.str)) nr) (s5.dk.upd (s5.dk.neC nr) (s5.dk.neD nr))
        have s7 := s6.move (Kp.new (o := .tup [.str "put", .ref r]) nT) (s6.dk.upd (s6.dk.neC nT) (s6.dk.neD nT))
        have nrT : r ≠ T := fun e => by rw [← e, updS] at nT; cases nT
        have en : ((Pc.put ys).n : Int) = 1 + v := by
          show ((ys.length : Nat) : Int) = 1 + v
          omega
        exact fin T (.put ys) (1 + v) y6 _ _ _ D1 D2 k1 k2 en.symm (by omega) s7 ⟨r, updS, updN nrT updS⟩ ⟨fun e => by rw [e] at hl; simp at hl; omega, fun z hz => s7.stAt.2.2.2 z (hp z hz)⟩ True.intro (fun rs e z hz => by cases e; exact hp z hz) (by omega)
    refine ⟨_, rfl, lenT s.baseAt ⟨_, _, rfl, rfl, _, rfl, ite2 (fun e2 => ?_) (fun e2 => iteF (put z6 z7 z8 _ _ _ _ (fun _ _ z => z) (fun _ _ z => z) (by omega) s))⟩⟩
    have hb0 : 0 < bs.length := by
      have q : (0 : Int) < ((bs.map V.str).length : Int) := of_decide_eq_true e2
      rw [List.length_map] at q
      omega
    refine ⟨_, rfl, c, D, ns, _, 3, rfl, s.dk, by omega, by decide, by decide, fun v H3 v0 v1 d3 fr3 => ⟨_, _, rfl, rfl, _, rfl, ite2 (fun e3 => ?_) (fun e3 => put z6 z7 z8 _ _ _ _ (fun _ _ z => z) (fun _ _ z => z) (by omega) (s.move (.fr fr3) d3))⟩⟩
    have s3 := s.move (.fr fr3) d3
    refine ⟨_, rfl, _, rfl, lenT s3.baseAt ⟨c, D, ns, _, _, rfl, s3.dk, by omega, by rw [List.length_map]; omega, by rw [List.length_map]; exact small100 (by omega), fun b H4 b0 b1 d4 fr4 => ?_⟩⟩
    rw [List.length_map] at b1
    obtain ⟨b, rfl⟩ := Int.eq_ofNat_of_zero_le b0
    have s4 := s3.move (.fr fr4) d4
    have mp := min2_pos hroom (show (0 : Int) < ((bs.map V.str).length : Int) - (b : Int) by rw [List.length_map]; omega)
    have ml := min2_eq (i := room) (j := ((bs.map V.str).length : Int) - (b : Int))
    refine ⟨_, rfl, _, rfl, _, rfl, lenT s4.baseAt ⟨_, rfl, _, _, rfl, rfl, _, _, rfl, c, D, ns, _, _, rfl, s4.dk, by omega, mp, small100 (by omega), fun v H5 v0 v1 d5 fr5 => ⟨_, _, rfl, rfl, ?_⟩⟩⟩
    have s5 := s4.move (.fr fr5) d5
    obtain ⟨v, rfl⟩ := Int.eq_ofNat_of_zero_le v0
    have hml : (bs.map V.str).length = bs.length := List.length_map ..
    have ev : (1 + (v : Int)) = ((1 + v : Nat) : Int) := by omega
    refine ⟨_, rfl, .inl ⟨rfl, _, sqL s5.hl⟩, _, rfl, _, rfl, by show (3 : Nat) ≤ sizeLine; decide, fun T nT => ?_⟩
    have s6 := s5.move (Kp.new (o := .tup [.str "take", .int (b : Int), .int (1 + (v : Int))]) nT) (s5.dk.upd (s5.dk.neC nT) (s5.dk.neD nT))
    exact fin T (.take b (1 + v)) (1 + (v : Int)) (some (.int (b : Int))) z8 _ _ _ _ (fun _ _ z => z) (fun _ _ z => z) ev (by omega) s6 (by show upd _ _ _ _ = some (.tup [.str "take", .int (b : Int), .int ((1 + v : Nat) : Int)]); rw [updS, ← ev]) (show 1 ≤ 1 + v by omega) (show b + (1 + v) ≤ bs.length by omega) (fun rs e => by cases e) (show ((1 + v : Nat) : Int) ≤ room by omega)
  · have hroom : room = 0 := by
      have : ¬ 0 < room := fun q => e (decide_eq_true q)
      omega
    subst hroom
    refine ⟨_, rfl, L, _, rfl, .inl ⟨sqL s.hl, fun a na => ?_⟩⟩
    have kk : Kp D H2 (upd H2 a (.tup (as.map V.ref))) := .new na
    refine k a ps _ ⟨as, updS, s.pr.mono (kk.tm s.dk)⟩ ⟨s.ok, by omega⟩ s.fit (by omega) s.sub (s.keep.trans kk) ((s.dk.le (by omega)).upd (s.dk.neC na) (s.dk.neD na))
end
end Fw

set_option Elab.async false
set_option linter.all false
set_option maxRecDepth 100000
set_option maxHeartbeats 4000000
/-! Dicts whose keys are nested tuples: tracked by what is true of their one object; the keys' tuples are tracked tuples. -/
namespace Fw
open PySem PySem.Spec PyProof.Rows L2
/-- the world of the run: a text's hash is the world's -/
class HasW where
  w : World
mutual
/-- the value v is the key k -/
inductive NKey (H : Hp) : NestedKey → V → Prop
  | non : NKey H .none .non
  | bl (b : Bool) : NKey H (.num (if b = true then 1 else 0)) (.bl b)
  | int (i : Int) : NKey H (.num i) (.int i)
  | str (x : Str) : NKey H (.text x) (.str x)
  | tup {a : Addr} {xs : List V} {ks : List NestedKey} : H a = some (.tup xs) → NKeys H ks xs → NKey H (.tup ks) (.ref a)
inductive NKeys (H : Hp) : List NestedKey → List V → Prop
  | nil : NKeys H [] []
  | cons {k : NestedKey} {ks : List NestedKey} {v : V} {vs : List V} : NKey H k v → NKeys H ks vs → NKeys H (k :: ks) (v :: vs)
end
mutual
theorem NKey.mono {H H' : Hp} (m : ∀ a xs, H a = some (.tup xs) → H' a = some (.tup xs)) : ∀ {k : NestedKey} {v : V}, NKey H k v → NKey H' k v
  | _, _, .non => .non
  | _, _, .bl b => .bl b
  | _, _, .int i => .int i
  | _, _, .str x => .str x
  | _, _, .tup h r => .tup (m _ _ h) (NKeys.mono m r)
theorem NKeys.mono {H H' : Hp} (m : ∀ a xs, H a = some (.tup xs) → H' a = some (.tup xs)) : ∀ {ks : List NestedKey} {vs : List V}, NKeys H ks vs → NKeys H' ks vs
  | _, _, .nil => .nil
  | _, _, .cons a b => .cons (NKey.mono m a) (NKeys.mono m b)
end
mutual
theorem NKey.is {P : Program} {w : World} {H : Hp} {h : Heap} (ok : HOk P w H h) : ∀ {k : NestedKey} {v : V} {u : Value}, NKey H k v → RelV v u → NestedIs h k u
  | _, _, u, .non, r => by
    obtain rfl : u = .none := r
    exact .none
  | _, _, u, .bl b, r => by
    obtain rfl : u = .bool b := r
    exact .bool rfl
  | _, _, u, .int i, r => by
    obtain ⟨t, rfl⟩ : ∃ t, u = .int i t := r
    exact .int i t
  | _, _, u, .str x, r => by
    obtain ⟨t, rfl⟩ : ∃ t, u = .str x t := r
    exact .text x t
  | _, _, u, @NKey.tup _ a xs ks e q, r => by
    obtain rfl : u = .ref a := r
    obtain ⟨_, its, rel, o, h1, h2, n, h3⟩ := (show ObjOk P w H h a (.tup xs) from ok a _ e)
    exact .tup h1 h2 h3 (by simpa using NKeys.is ok q rel)
theorem NKeys.is {P : Program} {w : World} {H : Hp} {h : Heap} (ok : HOk P w H h) : ∀ {ks : List NestedKey} {vs : List V} {us : List Value}, NKeys H ks vs → Vals vs us → NestedAll h ks us
  | _, _, _, .nil, .nil => .nil
  | _, _, _, .cons a b, .cons r t => .cons (NKey.is ok a r) (NKeys.is ok b t)
end
/-- an entry: the key, where its tuple stands, the value -/
abbrev NEnt := NestedKey × Addr × V
abbrev NRel : List NEnt → List (NestedKey × Addr × Value) → Prop := Paired fun p q => p.1 = q.1 ∧ p.2.1 = q.2.1 ∧ RelV p.2.2 q.2.2
def nEntry (w : World) (x : NestedKey × Addr × Value) : DictEntry := ⟨x.1.hash w, .ref x.2.1, x.2.2⟩
/-- what is true of the object at a -/
def NDφ (w : World) (a : Addr) (xs : List NEnt) : Heap → Prop := fun h =>
  xs.length ≤ sizeLine ∧ (a == sysModules) = false ∧ ∃ ys, NRel xs ys ∧ ∃ o es ep, h.get? a = some o ∧ o.ExactDict ∧ o.data = .dict es ep ∧ es.toList = ys.map (nEntry w) ∧ (ys.map (·.1)).Nodup
/-- a dict with nested keys -/
def ND [HasW] (a : Addr) (xs : List NEnt) : HO := .ext (NDφ HasW.w a xs)
/-- the keys of the entries stand as tracked tuples -/
def NKs (H : Hp) (xs : List NEnt) : Prop := ∀ x ∈ xs, NKey H x.1 (.ref x.2.1) ∧ x.1.depth ≤ 8
theorem NKs.mono {H H' : Hp} {xs : List NEnt} (k : NKs H xs) (m : ∀ a xs, H a = some (.tup xs) → H' a = some (.tup xs)) : NKs H' xs := fun x hx => ⟨(k x hx).1.mono m, (k x hx).2⟩
/-- the value at a key -/
def nAt (xs : List NEnt) (k : NestedKey) : Option V := (xs.find? fun x => decide (x.1 = k)).map (·.2.2)
def nPut (xs : List NEnt) (k : NestedKey) (b : Addr) (v : V) : List NEnt := if (nAt xs k).isSome then xs.map fun x => if x.1 = k then (x.1, x.2.1, v) else x else xs ++ [(k, b, v)]
theorem nPut_new {xs : List NEnt} {k : NestedKey} {b : Addr} {v : V} (h : nAt xs k = none) : nPut xs k b v = xs ++ [(k, b, v)] := by
  unfold nPut
  rw [h]
  rfl
theorem NRel.val {xs : List NEnt} {ys : List (NestedKey × Addr × Value)} (r : NRel xs ys) (k : NestedKey) : RelO (nAt xs k) ((atKey ys k).map (·.2)) := by
  induction r with
  | nil => exact True.intro
  | @cons p q ps qs h t ih =>
    obtain ⟨h1, _, h2⟩ := h
    by_cases e : p.1 = k
    · have e' : q.1 = k := h1.symm.trans e
      have b : atKey (q :: qs) k = some q.2 := by simp [atKey, List.find?_cons, e']
      have c : nAt (p :: ps) k = some p.2.2 := by simp [nAt, List.find?_cons, e]
      rw [c, b]; exact h2
    · have e' : ¬ q.1 = k := fun z => e (h1.trans z)
      have b : atKey (q :: qs) k = atKey qs k := by simp [atKey, List.find?_cons, e']
      have c : nAt (p :: ps) k = nAt ps k := by simp [nAt, List.find?_cons, e]
      rw [c, b]; exact ih
theorem NRel.put {xs : List NEnt} {ys : List (NestedKey × Addr × Value)} (r : NRel xs ys) (k : NestedKey) (b : Addr) {v : V} {u : Value} (rv : RelV v u) : NRel (nPut xs k b v) (storedH ys k b u) := by
  have e : (nAt xs k).isSome = (atKey ys k).isSome := by rw [(r.val k).isSome_eq, Option.isSome_map]
  unfold nPut storedH
  rw [e]
  by_cases q : (atKey ys k).isSome = true
  · rw [if_pos q, if_pos q]
    clear e q
    induction r with
    | nil => exact .nil
    | @cons p q ps qs h t ih =>
      rw [List.map_cons, List.map_cons]
      refine .cons ?_ ih
      obtain ⟨h1, h2, h3⟩ := h
      unfold putAt
      by_cases e : p.1 = k
      · rw [if_pos e, if_pos (h1.symm.trans e)]; exact ⟨h1, h2, rv⟩
      · rw [if_neg e, if_neg (fun z => e (h1.trans z))]; exact ⟨h1, h2, h3⟩
  · rw [if_neg q, if_neg q]; exact Paired.snoc r ⟨rfl, rfl, rv⟩
theorem length_nPut (xs : List NEnt) (k : NestedKey) (b : Addr) (v : V) : (nPut xs k b v).length ≤ xs.length + 1 := by
  unfold nPut
  split
  · rw [List.length_map]; omega
  · rw [List.length_append]; exact Nat.le_refl _
theorem nd_entries {P : Program} {w : World} {ys : List (NestedKey × Addr × Value)} : ys.map (nEntry w) = ys.map (entryOfKey (nestedKind P w)) := rfl
theorem nd_dict {P : Program} {w : World} {H : Hp} {h : Heap} {a : Addr} {xs : List NEnt} (ok : HOk P w H h) (ks : NKs H xs) (d : NDφ w a xs h) : xs.length ≤ sizeLine ∧ (a == sysModules) = false ∧ ∃ ys, NRel xs ys ∧ h.DictOfH (nestedKind P w) a ys := by
  obtain ⟨z, y, ys, r, o, es, ep, h1, h2, h3, h4, h5⟩ := d
  refine ⟨z, y, ys, r, o, es, ep, h1, h2, h3, h4, fun x hx => ?_, h5⟩
  have all : ∀ {l : List NEnt} {m : List (NestedKey × Addr × Value)}, NRel l m → NKs H l → ∀ x ∈ m, (nestedKind P w).is h x.1 x.2.1 := by
    intro l m q
    induction q with
    | nil => intro _ x hx; exact nomatch hx
    | @cons p q ps qs hq t ih =>
      intro kk x hx
      rcases List.mem_cons.mp hx with e | hx
      · subst e
        obtain ⟨k1, k2⟩ := kk p List.mem_cons_self
        rw [hq.1, hq.2.1] at k1
        rw [hq.1] at k2
        exact ⟨k1.is ok rfl, k2⟩
      · exact ih (fun x hx => kk x (List.mem_cons_of_mem _ hx)) x hx
  exact all r ks x hx
theorem nd_of [HasW] {P : Program} {H : Hp} {h : Heap} {a : Addr} {xs : List NEnt} (ok : HOk P HasW.w H h) (e : H a = some (ND a xs)) (ks : NKs H xs) : xs.length ≤ sizeLine ∧ (a == sysModules) = false ∧ ∃ ys, NRel xs ys ∧ h.DictOfH (nestedKind P HasW.w) a ys :=
  nd_dict ok ks (show ObjOk P HasW.w H h a (ND a xs) from ok a _ e).1
theorem nd_new {w : World} {a : Addr} {xs : List NEnt} {ys : List (NestedKey × Addr × Value)} {P : Program} {h : Heap} {H : Hp} (z : xs.length ≤ sizeLine) (y : (a == sysModules) = false) (r : NRel xs ys) (d : h.DictOfH (nestedKind P w) a ys) : ObjOk P w H h a (.ext (NDφ w a xs)) := by
  obtain ⟨o, es, ep, h1, h2, h3, h4, _, h5⟩ := d
  refine ⟨⟨z, y, ys, r, o, es, ep, h1, h2, h3, h4, h5⟩, ⟨o, h1⟩, ?_⟩
  rintro g1 g2 ⟨z, y, ys, r, o, es, ep, h1, h2, h3, h4, h5⟩ k
  exact ⟨z, y, ys, r, o, es, ep, k _ h1, h2, h3, h4, h5⟩
/-- what the dict at a holds at the key y -/
def NGet [HasW] (H : Hp) (a : Addr) (y : V) (r : Option V) : Prop := ∃ xs k b, H a = some (ND a xs) ∧ NKs H xs ∧ y = .ref b ∧ NKey H k y ∧ k.depth ≤ 8 ∧ r = nAt xs k
/-- the heap behind a[y] = v -/
def NPut [HasW] (H : Hp) (a : Addr) (y v : V) (H' : Hp) : Prop := ∃ xs k b, H a = some (ND a xs) ∧ NKs H xs ∧ y = .ref b ∧ NKey H k y ∧ k.depth ≤ 8 ∧ xs.length < sizeLine ∧ H' = upd H a (ND a (nPut xs k b v))
section
variable [HasW] {X : Cx} {pins : List (Addr × Obj)} {σ : L2.St} {H : Hp} {s : Shared} {a : Addr} {y v : V} {u r : Value} {o : Option V} {A : Around} {E : Value → Shared → Prop}
theorem room8 {A : Around} (hu : A.units + 64 < cLine) : A.in1.units + 8 < cLine := by
  rw [Around.in1_units]
  omega
theorem n_getItem {Q : Value → Shared → Prop} (hw : X.w = HasW.w) (hu : A.units + 64 < cLine) (I : Inv X pins σ H s) (g : NGet H a y (some v)) (ry : RelV y u) (h : ∀ w' s', Inv X pins σ H s' → RelV v w' → Q w' s') :
    wpAny (model X.prog X.w) A (getItem (.ref a) u) Q E s := by
  obtain ⟨xs, k, b, e, ks, rfl, key, dp, l⟩ := g
  cases (show u = Value.ref b from ry)
  have ok := I.hok
  rw [hw] at ok ⊢
  obtain ⟨z, hd, ys, rel, dd⟩ := nd_of ok e ks
  obtain ⟨w', hw', rw'⟩ := RelO.some_of (v := v) (o := (atKey ys k).map (·.2)) (by rw [l]; exact rel.val k)
  obtain ⟨p, hp, hp2⟩ := Option.map_eq_some_iff.mp hw'
  refine wpAny_getItem_heap (knd := nestedKind X.prog HasW.w) (room8 hu) ⟨key.is ok rfl, dp⟩ dd hp ?_
  rw [hp2]
  exact h w' _ (I.tok _) rw'
theorem n_in {Q : Value → Shared → Prop} (hw : X.w = HasW.w) (hu : A.units + 64 < cLine) (I : Inv X pins σ H s) (g : NGet H a y o) (ry : RelV y u) (h : ∀ s', Inv X pins σ H s' → Q (.bool o.isSome) s') :
    wpAny (model X.prog X.w) A (compareOp .In u (.ref a)) Q E s := by
  obtain ⟨xs, k, b, e, ks, rfl, key, dp, l⟩ := g
  cases (show u = Value.ref b from ry)
  have ok := I.hok
  rw [hw] at ok ⊢
  obtain ⟨z, hd, ys, rel, dd⟩ := nd_of ok e ks
  refine wpAny_in_heap (knd := nestedKind X.prog HasW.w) (room8 hu) ⟨key.is ok rfl, dp⟩ hd dd ?_
  have q := (rel.val k).isSome_eq
  rw [Option.isSome_map] at q
  rw [← q, ← l]
  exact h _ (I.tok _)
theorem n_notIn {Q : Value → Shared → Prop} (hw : X.w = HasW.w) (hu : A.units + 64 < cLine) (I : Inv X pins σ H s) (g : NGet H a y o) (ry : RelV y u) (h : ∀ s', Inv X pins σ H s' → Q (.bool (!o.isSome)) s') :
    wpAny (model X.prog X.w) A (compareOp .NotIn u (.ref a)) Q E s := by
  obtain ⟨xs, k, b, e, ks, rfl, key, dp, l⟩ := g
  cases (show u = Value.ref b from ry)
  have ok := I.hok
  rw [hw] at ok ⊢
  obtain ⟨z, hd, ys, rel, dd⟩ := nd_of ok e ks
  refine wpAny_notIn_heap (knd := nestedKind X.prog HasW.w) (room8 hu) ⟨key.is ok rfl, dp⟩ hd dd ?_
  have q := (rel.val k).isSome_eq
  rw [Option.isSome_map] at q
  rw [← q, ← l]
  exact h _ (I.tok _)
theorem n_setItem {H' : Hp} {Q : Unit → Shared → Prop} (hw : X.w = HasW.w) (hu : A.units + 64 < cLine) (I : Inv X pins σ H s) (g : NPut H a y v H') (ry : RelV y u) (rv : RelV v r) (h : ∀ s', Inv X pins σ H' s' → Q () s') :
    wpAny (model X.prog X.w) A (setItem (.ref a) u r) Q E s := by
  obtain ⟨xs, k, b, e, ks, rfl, key, dp, few, rfl⟩ := g
  cases (show u = Value.ref b from ry)
  have ok := I.hok
  have ok2 := I.hok
  rw [hw] at ok
  obtain ⟨z, hd, ys, rel, dd⟩ := nd_of ok e ks
  have hz : ys.length ≤ sizeLine := by rw [← Paired.length rel]; exact z
  have hl : (nPut xs k b v).length ≤ sizeLine := by have := length_nPut xs k b v; omega
  rw [← hw] at dd
  refine wpAny_setItem_heap (hsz := hz) (knd := nestedKind X.prog X.w) (room8 hu) ⟨key.is ok2 rfl, dp⟩ dd fun h' dd' hs => h _ ?_
  have he : ∃ q, h'.get? a = some q := let ⟨q, _, _, hq, _⟩ := dd'; ⟨q, hq⟩
  refine d_write I (by rw [e]; exact True.intro) hs he ?_
  have := nd_new (H := upd H a (ND a (nPut xs k b v))) hl hd (rel.put k b rv) dd'
  rw [hw] at this ⊢
  exact this
theorem n_get1 {Q : Value → Shared → Prop} (hw : X.w = HasW.w) (hu : A.units + 64 < cLine) (I : Inv X pins σ H s) (g : NGet H a y o) (ry : RelV y u) (h : ∀ w' s', Inv X pins σ H s' → RelV (o.getD .non) w' → Q w' s') :
    wpAny (model X.prog X.w) A (call (.builtin "dict.get") [.ref a, u]) Q E s := by
  obtain ⟨xs, k, b, e, ks, rfl, key, dp, l⟩ := g
  cases (show u = Value.ref b from ry)
  have ok := I.hok
  rw [hw] at ok ⊢
  obtain ⟨z, hd, ys, rel, dd⟩ := nd_of ok e ks
  refine call_meetsIn PySem.F.slot_dict_get dd.typeIs PySem.F.entry_dict_get (PySem.F.args_dict_get_2 _ _) (meetsH_dict_get (nestedKind X.prog HasW.w) a b hd) ⟨room8 hu, k, ys, ⟨key.is ok rfl, dp⟩, dd, h _ _ (I.tok _) ?_⟩
  rw [l]
  exact (rel.val k).getD rfl
theorem n_typeIs (hw : X.w = HasW.w) (I : Inv X pins σ H s) {xs : List NEnt} (e : H a = some (ND a xs)) : s.TypeIs (.ref a) "dict" ∧ (∀ b, Value.ref a = .ref b → ∃ ob, s.heap.get? b = some ob ∧ ob.dict = none) := by
  obtain ⟨⟨z, y, ys, r, ob, es, ep, h1, h2, h3, h4, h5⟩, _⟩ := (show ObjOk X.prog X.w H s.heap a (ND a xs) from I.hok a _ e)
  refine ⟨⟨ob, h1, h2.1⟩, fun b q => ?_⟩
  cases q
  exact ⟨ob, h1, h2.2.1⟩
end
/-! ### readings and rules -/
section
variable [HasW]
def tNGet (td ty : TE) : TE := fun σ H Q => td σ H fun x H1 => ty σ H1 fun y H2 => ∃ a v, x = .ref a ∧ NGet H2 a y (some v) ∧ Q v H2
def tNIn (ty td : TE) : TE := fun σ H Q => ty σ H fun y H1 => td σ H1 fun x H2 => ∃ a o, x = .ref a ∧ NGet H2 a y o ∧ Q (.bl o.isSome) H2
def tNNotIn (ty td : TE) : TE := fun σ H Q => ty σ H fun y H1 => td σ H1 fun x H2 => ∃ a o, x = .ref a ∧ NGet H2 a y o ∧ Q (.bl (!o.isSome)) H2
def sNPut (td ty tv : TE) : TS := fun D σ H => tv σ H fun v H1 => td σ H1 fun x H2 => ty σ H2 fun y H3 => ∃ a H4, x = .ref a ∧ NPut H3 a y v H4 ∧ D.nx σ H4
def tNGet1 (td ty : TE) : TE := fun σ H Q => td σ H fun x H1 => ∃ a xs, x = .ref a ∧ H1 a = some (ND a xs) ∧ ty σ H1 fun y H2 => ∃ o, NGet H2 a y o ∧ Q (o.getD .non) H2
/-- {} -/
def tNNew : TE := fun _ H Q => ∀ p, H p = none → Q (.ref p) (upd H p (ND p []))
end
section
variable [HasW] {X : Cx} {o i e value : Expr} {pos pos' apos cpos : Pos} {td ty tv : TE}
theorem pe_nget (hw : X.w = HasW.w) (hu : X.A.units + 64 < cLine) (ho : PE X o td) (hi : PE X i ty) (hs : NoSl i) : PE X (.Subscript o i pos) (tNGet td ty) := by
  refine ⟨fun pins s σ H Q I h => ?_⟩
  refine subD_of PySem.F.slot_dict_getitem.lookup hs (thn (ho.run pins s σ H _ I h) fun u s1 ⟨x, H1, I1, rx, q1⟩ => thn (hi.run pins s1 σ H1 _ I1 q1) fun iv s2 ⟨y, H2, I2, ry, a, v, ex, g, q2⟩ => ?_)
  subst ex
  obtain rfl : u = Value.ref a := rx
  refine ⟨?_, n_getItem hw hu I2 g ry fun w' s3 I3 rw' => ⟨v, H2, I3, rw', q2⟩⟩
  obtain ⟨xs, _, _, e, _⟩ := g
  exact (n_typeIs hw I2 e).1
theorem pc_nin (hw : X.w = HasW.w) (hu : X.A.units + 64 < cLine) (hi : PE X i ty) (ho : PE X o td) : PC X .In i o (tNIn ty td) := by
  refine ⟨fun pins s σ H Q I h => ?_⟩
  refine thn (hi.run pins s σ H _ I h) fun iv s1 ⟨y, H1, I1, ry, q1⟩ => thn (ho.run pins s1 σ H1 _ I1 q1) fun u s2 ⟨x, H2, I2, rx, a, ov, ex, g, q2⟩ => ?_
  subst ex
  obtain rfl : u = Value.ref a := rx
  exact n_in hw hu I2 g ry fun s3 I3 => ⟨.bl ov.isSome, H2, I3, rfl, q2⟩
theorem pc_nnotin (hw : X.w = HasW.w) (hu : X.A.units + 64 < cLine) (hi : PE X i ty) (ho : PE X o td) : PC X .NotIn i o (tNNotIn ty td) := by
  refine ⟨fun pins s σ H Q I h => ?_⟩
  refine thn (hi.run pins s σ H _ I h) fun iv s1 ⟨y, H1, I1, ry, q1⟩ => thn (ho.run pins s1 σ H1 _ I1 q1) fun u s2 ⟨x, H2, I2, rx, a, ov, ex, g, q2⟩ => ?_
  subst ex
  obtain rfl : u = Value.ref a := rx
  exact n_notIn hw hu I2 g ry fun s3 I3 => ⟨.bl (!ov.isSome), H2, I3, rfl, q2⟩
theorem ps_nput (hw : X.w = HasW.w) (hu : X.A.units + 64 < cLine) (ho : PE X o td) (hi : PE X i ty) (hv : PE X value tv) (hs : swapsWith value (some (.Subscript o i pos')) pos.line X.env = pure false) :
    PS X (.Assign [.Subscript o i pos'] value pos) (sNPut td ty tv) := by
  refine ⟨fun pins s σ H D I h => ?_⟩
  refine wpAny_Assign_Subscript (thn (hv.run pins s σ H _ I h) fun r s1 ⟨v, H1, I1, rv, q1⟩ => thn (ho.run pins s1 σ H1 _ I1 q1) fun u s2 ⟨x, H2, I2, rx, q2⟩ => thn (hi.run pins s2 σ H2 _ I2 q2) fun iv s3 ⟨y, H3, I3, ry, a, H4, ex, g, q3⟩ => ?_) hs
  subst ex
  obtain rfl : u = Value.ref a := rx
  exact n_setItem hw hu I3 g ry rv fun s4 I4 => ⟨σ, H4, I4, q3⟩
theorem pe_nget1 (hw : X.w = HasW.w) (hu : X.A.units + 64 < cLine) (ho : PE X o td) (he : PE X e ty) (m : M1 X o "get" apos e cpos) : PE X (.Call (.Attribute o "get" apos) [e] [] cpos) (tNGet1 td ty) := by
  refine ⟨fun pins s σ H Q I h => ?_⟩
  refine wpAny_Call_method m.base m.few m.line PySem.F.plainAttrs_dict PySem.F.slot_dict_get PySem.F.type_dict_get (thn (ho.run pins s σ H _ I h) fun u s1 ⟨x, H1, I1, rx, a, xs, ex, d, q1⟩ => ?_)
  subst ex
  obtain rfl : u = Value.ref a := rx
  obtain ⟨t1, t2⟩ := n_typeIs hw I1 d
  refine ⟨t1, t2, ?_⟩
  rw [m.trees]
  refine Calls.callWith_builtin rfl (Calls.evalArgs_plain (Calls.spliced_cons (thn (he.run pins s1 σ H1 _ I1 q1) fun iv s2 ⟨y, H2, I2, ry, ov, g, q2⟩ => Calls.spliced_nil ?_)))
  exact n_get1 hw hu I2 g ry fun w' s3 I3 rw' => ⟨_, H2, I3, rw', q2⟩
theorem pe_nnew (hw : X.w = HasW.w) : PE X (.Dict [] [] pos) tNNew := ⟨fun pins s σ H Q I h => by
  refine wpAny_Dict_empty ⟨.ref s.heap.objs.size, _, I.laid (a := s.heap.objs.size) (o := ND s.heap.objs.size []) (t' := s.toks) (fun _ _ q => Heap.get?_push_of_some _ q) (Nat.le_refl _) ?_, rfl, h _ (I.hok.fresh (Nat.le_refl _))⟩
  have hb := I.big
  have := nd_new (P := X.prog) (w := HasW.w) (xs := []) (H := upd H s.heap.objs.size (ND s.heap.objs.size [])) (Nat.zero_le _) (beq_eq_false_iff_ne.mpr (Ne.symm (Nat.ne_of_lt hb))) .nil (Heap.DictOfH.new (knd := nestedKind X.prog HasW.w) s.heap)
  rw [hw]
  exact this⟩
end
end Fw

set_option Elab.async false
set_option linter.all false
set_option maxRecDepth 100000
set_option maxHeartbeats 4000000
/-! Methods of own classes that raise; len of an own class. -/
namespace Fw
open PySem PySem.Spec PyProof.Rows L2
def tMethX (C : Addr) (m : Str) (sp : Sp) (E : L2.St → XK) (ta : TE) (t : TA) : TE := fun σ H Q => ta σ H fun x H1 => ∃ a dx fs, x = .ref a ∧ H1 a = some (.ins C dx fs) ∧ fs.lookup m = none ∧
  t σ H1 fun vs H2 => sp (x :: vs) H2 Q (E σ)
section
variable {X : Cx} {CX : CXT} {k : Nat} {f C : Addr} {fd : FuncData} {ps : List Str} {sp : Sp} {E : L2.St → XK} {E1 : XK} {x m : Str} {p pos apos : Pos} {e o : Expr} {es : List Expr} {ta : TE} {t : TA}
/-- o.m(e, ..), which may raise -/
theorem pe_methX {pl : Sem Bool} (he : PE X o ta) (c : Cls X.K C) (hm : Meth X.K C m f) (F : FnOk X.prog X.w X.K X.mg X.base CX k f fd ps sp) (hr : Room k X.A) (hb : Binds X.K fd ps []) (hx : ∀ σ, PassesAt CX X σ (E σ)) (ha : PA X (e :: es) t)
    (hst : starEach (e :: es) X.env = (false, eval e X.env) :: starEach es X.env := by rfl) (hpl : (backTo pos (starEach es X.env)).any (·.1) = false := by rfl)
    (ht : eval (.Call (.Attribute o m apos) (e :: es) [] pos) X.env = (do
      let ov ← eval o X.env
      standAt apos.atName
      let (f, first) ← holding [ov] (getMethod ov m pl)
      callWith pos f first (backTo pos (starEach (e :: es) X.env)) (backToKw pos (keywordEach [] X.env))) := by rfl) :
    PE X (.Call (.Attribute o m apos) (e :: es) [] pos) (tMethX C m sp E ta t) := by
  refine ⟨fun pins s σ H Q I h => ?_⟩
  refine PySem.W.methodCall_KW (pl := pl) (thn (he.run pins s σ H _ I h) fun u s1 ⟨x, H1, I1, rx, a, dx, fs, ex, ea, l, q⟩ => ?_) ht
  subst ex
  obtain rfl : u = Value.ref a := rx
  refine getmeth_ok I1 ea c hm l ?_
  refine PySem.W.callWith_K (first := [.ref a]) (h₀ := X.base) I.ok.mod.kin hm.kp (thn (ha.run pos pins s1 σ H1 _ I1 q) fun us s2 ⟨vs, H2, I2, r, q2⟩ => ⟨I2.kIn, ?_⟩) hst hpl
  exact run_fnS (us := .ref a :: us) (vs := .ref a :: vs) F hr hb (hx σ) I2 (.cons rfl r) q2
/-- len(x), x of an own class -/
def rLenC (C : Addr) (sp : Sp) (E : XK) : List V → Hp → VK → Prop := fun xs H Q => ∃ a dx fs, xs = [.ref a] ∧ H a = some (.ins C dx fs) ∧ sp [.ref a] H (fun v H' => ∃ n : Nat, v = .int n ∧ n ≤ 1000000 ∧ Q (.int n) H') E
theorem call_lenC (F : FnOk X.prog X.w X.K X.mg X.base CX k f fd ps sp) (hm : Meth X.K C "__len__" f) (hr : Room (k + 1) X.A) (hb : Binds X.K fd ps []) (hx : Passes CX X E1) : CallR X (.builtin "len") (rLenC C sp E1) := by
  intro pins s σ H xs us Q I r h
  obtain ⟨a, dx, fs, rfl, ha, q⟩ := h
  obtain rfl : us = [Value.ref a] := by
    cases r with
    | cons h t =>
      cases t
      obtain rfl := (show _ = Value.ref a from h)
      rfl
  obtain ⟨mA, J, _⟩ := ins_get I.hok ha
  obtain ⟨od, J, _⟩ := J.look
  obtain ⟨m, hF⟩ := I.fr
  refine PySem.W.len_K hF I.ok.mod.kin J hm.at_ hm.fn ?_
  have e0 : Env0 X.prog X.w X.K X.mg X.base X.A.in1 X.stack s H := by
    have e := I.env0
    exact ⟨e.frames, e.mod, e.bs, e.bsz, e.funs, e.frf, e.hok, e.bare⟩
  have hl := F.len _ _ _ _ q
  refine wpAny_call (codeAny_mono (F.run X.A.in1 X.stack s H ⟨[.ref a], []⟩ [.ref a] [.ref a] _ E1 hr.in1 e0 (by
    have := hb s [.ref a] I.kIn (by simpa using hl)
    simpa using this) (.cons rfl .nil) q) fun r s' hq => ?_)
  cases r with
  | error e => exact hx pins σ H s e s' I hq
  | ok fl =>
    cases fl with
    | ret w =>
      obtain ⟨z, H', I', rz, n, ez, hn, hz⟩ := I.after hq
      subst ez
      obtain ⟨t, rfl⟩ : ∃ t, w = .int n t := rz
      refine ⟨⟨by omega, by omega⟩, .int n, H', I'.tok _, ⟨_, rfl⟩, hz⟩
    | next => exact False.elim hq
    | brk => exact False.elim hq
    | cont => exact False.elim hq
end
end Fw

set_option Elab.async false
set_option linter.all false
set_option maxRecDepth 100000
set_option maxHeartbeats 4000000
/-! Contents, and how they stand in the heap; a book's state. -/
namespace Fw
open PySem L2 RZ RT
inductive Ct where
  | leaf (rows : List Str)
  | tree (es : List (Str × Int))
  | ver (ps : List Int) (root stamp : Int)
deriving DecidableEq
namespace Ct
def word : Ct → Str
  | .leaf _ => "leaf"
  | .tree _ => "tree"
  | .ver _ _ _ => "version"
def key : Ct → NestedKey
  | .leaf rows => .tup [.text "leaf", .tup (rows.map NestedKey.text)]
  | .tree es => .tup [.text "tree", .tup (es.map fun e => .tup [.text e.1, .num e.2])]
  | .ver ps r s => .tup [.text "version", .tup (ps.map NestedKey.num), .num r, .num s]
def parts : Ct → List Int
  | .leaf _ => []
  | .tree es => es.map (·.2)
  | .ver ps r _ => ps ++ [r]
end Ct
def OkLab (z : Str) : Prop := 1 ≤ z.cps.size ∧ z.cps.size ≤ 8 ∧ ∀ c ∈ z.cps.toList, 97 ≤ c ∧ c ≤ 122
def ltS (a b : Str) : Prop := a.cps.toList < b.cps.toList
def Ct.form : Ct → Prop
  | .leaf rows => rows.length ≤ 40 ∧ ∀ z ∈ rows, OkS z
  | .tree es => es.length ≤ 20 ∧ (∀ e ∈ es, OkLab e.1) ∧ es.Pairwise fun a b => ltS a.1 b.1
  | .ver ps _ s => ps.length ≤ 4 ∧ ps.Pairwise (· < ·) ∧ 0 ≤ s ∧ s ≤ 1000000000000000000
theorem wv_lt : ("leaf" : Str) ≠ "tree" := by decide +kernel
theorem wv_lv : ("leaf" : Str) ≠ "version" := by decide +kernel
theorem wv_tv : ("tree" : Str) ≠ "version" := by decide +kernel
theorem map_inj {α β : Type} {f : α → β} (h : ∀ a b, f a = f b → a = b) : ∀ {l m : List α}, l.map f = m.map f → l = m
  | [], [], _ => rfl
  | a :: l, b :: m, e => by
    rw [List.map_cons, List.map_cons] at e
    injection e with e1 e2
    rw [h a b e1, map_inj h e2]
theorem Ct.key_inj {c d : Ct} (h : c.key = d.key) : c = d := by
  cases c <;> cases d <;> (unfold Ct.key at h; injection h with h)
  · injection h with _ h
    injection h with h _
    injection h with h
    rw [map_inj (fun a b e => by injection e) h]
  · injection h with h _
    injection h with h
    exact absurd h wv_lt
  · injection h with h _
    injection h with h
    exact absurd h wv_lv
  · injection h with h _
    injection h with h
    exact absurd h wv_lt.symm
  · injection h with _ h
    injection h with h _
    injection h with h
    rw [map_inj (fun a b e => by
      injection e with e
      injection e with e1 e
      injection e1 with e1
      injection e with e2 _
      injection e2 with e2
      exact Prod.ext e1 e2) h]
  · injection h with h _
    injection h with h
    exact absurd h wv_tv
  · injection h with h _
    injection h with h
    exact absurd h wv_lv.symm
  · injection h with h _
    injection h with h
    exact absurd h wv_tv.symm
  · injection h with _ h
    injection h with h1 h
    injection h1 with h1
    injection h with h2 h
    injection h2 with h2
    injection h with h3 _
    injection h3 with h3
    rw [map_inj (fun a b e => by injection e) h1, h2, h3]
/-! ### what a book takes -/
/-- the greatest, nought if there is none -/
def dmax : List Int → Int
  | [] => 0
  | x :: xs => xs.foldl max x
def depOf (ds : List Int) : Ct → Int
  | .tree es => 1 + dmax (es.map fun e => ds.getD e.2.toNat 0)
  | _ => 0
def deps (cs : List Ct) : List Int := cs.foldl (fun ds c => ds ++ [depOf ds c]) []
theorem deps_snoc (cs : List Ct) (c : Ct) : deps (cs ++ [c]) = deps cs ++ [depOf (deps cs) c] := by
  unfold deps
  rw [List.foldl_append]
  rfl
theorem deps_len : ∀ (cs : List Ct), (deps cs).length = cs.length := by
  have : ∀ (cs : List Ct) (ds : List Int), (cs.foldl (fun ds c => ds ++ [depOf ds c]) ds).length = ds.length + cs.length := by
    intro cs
    induction cs with
    | nil => intro ds; rfl
    | cons c cs ih =>
      intro ds
      rw [List.foldl_cons, ih, List.length_append, List.length_singleton, List.length_cons]
      omega
  intro cs
  have h := this cs []
  rw [List.length_nil, Nat.zero_add] at h
  exact h
/-- a name of the book, of one of these kinds -/
def hasK (cs : List Ct) (ks : List Str) (i : Int) : Bool := decide (0 ≤ i) && (decide (i < cs.length) && ks.contains ((cs.getD i.toNat (.leaf [])).word))
def Ct.inB (cs : List Ct) : Ct → Bool
  | .leaf _ => true
  | .tree es => es.all (fun e => hasK cs ["leaf", "tree"] e.2) && decide (depOf (deps cs) (.tree es) ≤ 8)
  | .ver ps r _ => ps.all (hasK cs ["version"]) && hasK cs ["tree"] r
theorem hasK_mono {cs more : List Ct} {ks : List Str} {i : Int} (h : hasK cs ks i = true) : hasK (cs ++ more) ks i = true := by
  unfold hasK at *
  simp only [Bool.and_eq_true, decide_eq_true_eq] at *
  obtain ⟨h1, h2, h3⟩ := h
  refine ⟨h1, by rw [List.length_append]; omega, ?_⟩
  rw [List.getD_eq_getElem?_getD, List.getElem?_append_left (by omega), ← List.getD_eq_getElem?_getD]
  exact h3
theorem hasK_lt {cs : List Ct} {ks : List Str} {i : Int} (h : hasK cs ks i = true) : 0 ≤ i ∧ i.toNat < cs.length := by
  unfold hasK at h
  simp only [Bool.and_eq_true, decide_eq_true_eq] at h
  omega
theorem deps_pre : ∀ {more cs : List Ct}, ∃ r, deps (cs ++ more) = deps cs ++ r
  | [], cs => ⟨[], by simp⟩
  | c :: more, cs => by
    obtain ⟨r, hr⟩ := deps_pre (more := more) (cs := cs ++ [c])
    rw [List.append_assoc] at hr
    exact ⟨depOf (deps cs) c :: r, by rw [show cs ++ c :: more = cs ++ ([c] ++ more) from rfl, hr, deps_snoc]; simp⟩
theorem depOf_mono {cs more : List Ct} {es : List (Str × Int)} (h : es.all (fun e => hasK cs ["leaf", "tree"] e.2) = true) : depOf (deps (cs ++ more)) (.tree es) = depOf (deps cs) (.tree es) := by
  obtain ⟨r, hr⟩ := deps_pre (cs := cs) (more := more)
  show 1 + dmax (es.map fun e => (deps (cs ++ more)).getD e.2.toNat 0) = 1 + dmax (es.map fun e => (deps cs).getD e.2.toNat 0)
  rw [hr]
  congr 2
  refine List.map_congr_left fun e he => ?_
  have hl := hasK_lt (List.all_eq_true.mp h e he)
  rw [List.getD_eq_getElem?_getD, List.getD_eq_getElem?_getD, List.getElem?_append_left (by rw [deps_len]; omega)]
theorem Ct.inB_mono {cs more : List Ct} {c : Ct} (h : c.inB cs = true) : c.inB (cs ++ more) = true := by
  cases c with
  | leaf rows => rfl
  | tree es =>
    unfold Ct.inB at *
    rw [Bool.and_eq_true] at *
    refine ⟨List.all_eq_true.mpr fun e he => hasK_mono (List.all_eq_true.mp h.1 e he), ?_⟩
    rw [depOf_mono h.1]
    exact h.2
  | ver ps r s =>
    unfold Ct.inB at *
    rw [Bool.and_eq_true] at *
    exact ⟨List.all_eq_true.mpr fun e he => hasK_mono (List.all_eq_true.mp h.1 e he), hasK_mono h.2⟩
/-! ### as they stand in the heap -/
def CtAt (H : Hp) (a : Addr) : Ct → Prop
  | .leaf rows => ∃ r, H a = some (.tup [.str "leaf", .ref r]) ∧ H r = some (.tup (rows.map V.str))
  | .tree es => ∃ (r : Addr) (as : List Addr), H a = some (.tup [.str "tree", .ref r]) ∧ H r = some (.tup (as.map V.ref)) ∧ as.length = es.length ∧ ∀ (i : Nat) (b : Addr) (e : Str × Int), as[i]? = some b → es[i]? = some e → H b = some (.tup [.str e.1, .int e.2])
  | .ver ps root stamp => ∃ r, H a = some (.tup [.str "version", .ref r, .int root, .int stamp]) ∧ H r = some (.tup (ps.map V.int))
theorem CtAt.mono {H H' : Hp} {a : Addr} {c : Ct} (h : CtAt H a c) (m : TM H H') : CtAt H' a c := by
  cases c with
  | leaf rows =>
    obtain ⟨r, h1, h2⟩ := h
    exact ⟨r, m _ _ h1, m _ _ h2⟩
  | tree es =>
    obtain ⟨r, as, h1, h2, h3, h4⟩ := h
    exact ⟨r, as, m _ _ h1, m _ _ h2, h3, fun i b e x y => m _ _ (h4 i b e x y)⟩
  | ver ps r s =>
    obtain ⟨r, h1, h2⟩ := h
    exact ⟨r, m _ _ h1, m _ _ h2⟩
theorem nkeys_strs {H : Hp} : ∀ rows : List Str, NKeys H (rows.map NestedKey.text) (rows.map V.str)
  | [] => .nil
  | z :: rows => .cons (.str z) (nkeys_strs rows)
theorem nkeys_ints {H : Hp} : ∀ ns : List Int, NKeys H (ns.map NestedKey.num) (ns.map V.int)
  | [] => .nil
  | z :: ns => .cons (.int z) (nkeys_ints ns)
theorem nkeys_ents {H : Hp} : ∀ (as : List Addr) (es : List (Str × Int)), as.length = es.length → (∀ (i : Nat) (b : Addr) (e : Str × Int), as[i]? = some b → es[i]? = some e → H b = some (.tup [.str e.1, .int e.2])) →
    NKeys H (es.map fun e => NestedKey.tup [.text e.1, .num e.2]) (as.map V.ref)
  | [], [], _, _ => .nil
  | [], _ :: _, h, _ => by simp at h
  | _ :: _, [], h, _ => by simp at h
  | a :: as, e :: es, h, f => .cons (.tup (f 0 a e rfl rfl) (.cons (.str _) (.cons (.int _) .nil))) (nkeys_ents as es (by simpa using h) fun i b e' h1 h2 => f (i + 1) b e' (by simpa using h1) (by simpa using h2))
theorem CtAt.nkey {H : Hp} {a : Addr} {c : Ct} (h : CtAt H a c) : NKey H c.key (.ref a) := by
  cases c with
  | leaf rows =>
    obtain ⟨r, h1, h2⟩ := h
    exact .tup h1 (.cons (.str _) (.cons (.tup h2 (nkeys_strs rows)) .nil))
  | tree es =>
    obtain ⟨r, as, h1, h2, h3, h4⟩ := h
    exact .tup h1 (.cons (.str _) (.cons (.tup h2 (nkeys_ents as es h3 h4)) .nil))
  | ver ps r s =>
    obtain ⟨r, h1, h2⟩ := h
    exact .tup h1 (.cons (.str _) (.cons (.tup h2 (nkeys_ints ps)) (.cons (.int _) (.cons (.int _) .nil))))
theorem depthAll_flat {f : α → NestedKey} (h : ∀ a, (f a).depth ≤ 1) : ∀ l : List α, NestedKey.depthAll (l.map f) ≤ 1
  | [] => Nat.zero_le _
  | a :: l => by
    have h1 := h a
    have h2 := depthAll_flat h l
    rw [List.map_cons, NestedKey.depthAll]
    omega
theorem Ct.depth (c : Ct) : c.key.depth ≤ 8 := by
  have t : ∀ z : Str, (NestedKey.text z).depth ≤ 1 := fun z => by simp [NestedKey.depth]
  have n : ∀ z : Int, (NestedKey.num z).depth ≤ 1 := fun z => by simp [NestedKey.depth]
  cases c with
  | leaf rows =>
    have := depthAll_flat t rows
    simp only [Ct.key, NestedKey.depth, NestedKey.depthAll]
    omega
  | tree es =>
    have := depthAll_flat (f := fun e : Str × Int => NestedKey.tup [.text e.1, .num e.2]) (fun e => by simp [NestedKey.depth, NestedKey.depthAll]) es
    simp only [Ct.key, NestedKey.depth, NestedKey.depthAll]
    omega
  | ver ps r s =>
    have := depthAll_flat n ps
    simp only [Ct.key, NestedKey.depth, NestedKey.depthAll]
    omega
/-- the contents at these addresses -/
def CsAt (H : Hp) (as : List Addr) (cs : List Ct) : Prop := as.length = cs.length ∧ ∀ (i : Nat) (a : Addr) (c : Ct), as[i]? = some a → cs[i]? = some c → CtAt H a c
theorem CsAt.mono {H H' : Hp} {as : List Addr} {cs : List Ct} (h : CsAt H as cs) (m : TM H H') : CsAt H' as cs := ⟨h.1, fun i a c h1 h2 => (h.2 i a c h1 h2).mono m⟩
theorem CsAt.nil {H : Hp} : CsAt H [] [] := ⟨rfl, fun i a p h => by cases h⟩
theorem CsAt.snoc {H : Hp} {as : List Addr} {cs : List Ct} {T : Addr} {c : Ct} (h : CsAt H as cs) (hT : CtAt H T c) : CsAt H (as ++ [T]) (cs ++ [c]) := by
  refine ⟨by rw [List.length_append, List.length_append, h.1]; rfl, fun i a m h1 h2 => ?_⟩
  by_cases hi : i < as.length
  · rw [List.getElem?_append_left hi] at h1
    rw [List.getElem?_append_left (by rw [← h.1]; exact hi)] at h2
    exact h.2 i a m h1 h2
  · have hi2 : i < (as ++ [T]).length := (List.getElem?_eq_some_iff.mp h1).1
    rw [List.length_append, List.length_singleton] at hi2
    have e : i = as.length := by omega
    rw [List.getElem?_append_right (by omega), e, Nat.sub_self] at h1
    rw [List.getElem?_append_right (by rw [← h.1]; omega), e, h.1, Nat.sub_self] at h2
    cases Option.some.inj h1
    cases Option.some.inj h2
    exact hT
theorem CsAt.get {H : Hp} {as : List Addr} {cs : List Ct} (h : CsAt H as cs) {i : Nat} {c : Ct} (hc : cs[i]? = some c) : ∃ a, as[i]? = some a ∧ CtAt H a c := by
  have hi := (List.getElem?_eq_some_iff.mp hc).1
  have : i < as.length := by rw [h.1]; exact hi
  exact ⟨as[i], List.getElem?_eq_getElem this, h.2 i _ _ (List.getElem?_eq_getElem this) hc⟩
/-- a book's entries -/
def ents : Nat → List Ct → List Addr → List NEnt
  | n, c :: cs, a :: as => (c.key, a, .int (n : Int)) :: ents (n + 1) cs as
  | _, _, _ => []
theorem ents_snoc : ∀ (n : Nat) (cs : List Ct) (as : List Addr) (c : Ct) (a : Addr), as.length = cs.length → ents n (cs ++ [c]) (as ++ [a]) = ents n cs as ++ [(c.key, a, .int ((n + cs.length : Nat) : Int))]
  | n, [], [], c, a, _ => rfl
  | n, [], _ :: _, _, _, h => by simp at h
  | n, _ :: _, [], _, _, h => by simp at h
  | n, d :: cs, b :: as, c, a, h => by
    have := ents_snoc (n + 1) cs as c a (by simpa using h)
    rw [List.cons_append, List.cons_append, ents, this, ents, List.cons_append, List.length_cons]
    rw [show n + 1 + cs.length = n + (cs.length + 1) from by omega]
theorem ents_len : ∀ (n : Nat) (cs : List Ct) (as : List Addr), (ents n cs as).length ≤ cs.length
  | _, [], _ => Nat.zero_le _
  | _, _ :: _, [] => Nat.zero_le _
  | n, _ :: cs, _ :: as => by
    have := ents_len (n + 1) cs as
    rw [ents, List.length_cons, List.length_cons]
    omega
theorem nAt_pos {p : NEnt} {r : List NEnt} {k : NestedKey} (e : p.1 = k) : nAt (p :: r) k = some p.2.2 := by simp [nAt, List.find?_cons, e]
theorem nAt_neg {p : NEnt} {r : List NEnt} {k : NestedKey} (e : ¬ p.1 = k) : nAt (p :: r) k = nAt r k := by simp [nAt, List.find?_cons, e]
theorem ents_none : ∀ (n : Nat) (cs : List Ct) (as : List Addr) {c : Ct}, c ∉ cs → nAt (ents n cs as) c.key = none
  | _, [], _, _, _ => rfl
  | _, _ :: _, [], _, _ => rfl
  | n, d :: cs, a :: as, c, h => by
    rw [ents, nAt_neg fun e => h (by rw [Ct.key_inj e]; exact List.mem_cons_self ..)]
    exact ents_none (n + 1) cs as fun z => h (List.mem_cons_of_mem _ z)
theorem ents_some : ∀ (n : Nat) (cs : List Ct) (as : List Addr) {i : Nat} {c : Ct}, as.length = cs.length → cs.Nodup → cs[i]? = some c → nAt (ents n cs as) c.key = some (.int ((n + i : Nat) : Int))
  | _, [], _, _, _, _, _, h => by simp at h
  | _, _ :: _, [], _, _, h, _, _ => by simp at h
  | n, d :: cs, a :: as, i, c, hl, nd, h => by
    rw [List.nodup_cons] at nd
    cases i with
    | zero =>
      simp at h
      subst h
      rw [ents, nAt_pos rfl]
      rfl
    | succ i =>
      simp at h
      rw [ents, nAt_neg fun e => nd.1 (by rw [Ct.key_inj e]; exact List.mem_of_getElem? h), ents_some (n + 1) cs as (by simpa using hl) nd.2 h, show n + 1 + i = n + (i + 1) from by omega]
theorem ents_keys {H : Hp} : ∀ (n : Nat) (cs : List Ct) (as : List Addr), CsAt H as cs → NKs H (ents n cs as)
  | _, [], _, _ => fun x hx => nomatch hx
  | _, _ :: _, [], _ => fun x hx => nomatch hx
  | n, c :: cs, a :: as, h => fun x hx => by
    rw [ents] at hx
    rcases List.mem_cons.mp hx with rfl | hx
    · exact ⟨(h.2 0 a c rfl rfl).nkey, c.depth⟩
    · exact ents_keys (n + 1) cs as ⟨by simpa using h.1, fun i b d h1 h2 => h.2 (i + 1) b d (by simpa using h1) (by simpa using h2)⟩ x hx
/-! ### the book -/
/-- what the class Book must have -/
structure BkC (K : PySem.W.Frag) : Prop where
  cl : Cls K (He.ga K "Book")
  n1 : NoAttr K (He.ga K "Book") "contents"
  n2 : NoAttr K (He.ga K "Book") "depths"
  n3 : NoAttr K (He.ga K "Book") "given"
structure BkA where
  B : Addr
  L : Addr
  E : Addr
  G : Addr
/-- the book's object -/
def BO (K : PySem.W.Frag) (H : Hp) (b : BkA) : Prop := ∃ (dx : Addr) (fs : List (Str × V)), H b.B = some (.ins (He.ga K "Book") dx fs) ∧ fs.lookup ("contents" : Str) = some (.ref b.L) ∧ fs.lookup ("depths" : Str) = some (.ref b.E) ∧ fs.lookup ("given" : Str) = some (.ref b.G) ∧
  ∀ m ∈ (["named", "name_of", "thing", "kind", "parts", "parents", "root", "stamp", "entries", "leaf_rows", "is_name", "is_version", "is_content", "has_kinds", "depth", "give_next"] : List Str), fs.lookup m = none
structure BkAt [HasW] (K : PySem.W.Frag) (H : Hp) (b : BkA) (cs : List Ct) (as : List Addr) : Prop where
  bc : BkC K
  bo : BO K H b
  hL : H b.L = some (.lst (as.map V.ref))
  hE : H b.E = some (.lst ((deps cs).map V.int))
  hG : H b.G = some (ND b.G (ents 0 cs as))
  at_ : CsAt H as cs
  nd : cs.Nodup
  few : cs.length ≤ 400
  ok : ∀ c ∈ cs, c.form ∧ c.inB cs = true
  ne : b.L ≠ b.E
/-- all but the book's three stands -/
def Kb (b : BkA) (H H' : Hp) : Prop := ∀ a o, H a = some o → a ≠ b.L → a ≠ b.E → a ≠ b.G → H' a = some o
theorem Kb.refl {b : BkA} {H : Hp} : Kb b H H := fun _ _ h _ _ _ => h
theorem Kb.trans {b : BkA} {H H1 H2 : Hp} (x : Kb b H H1) (y : Kb b H1 H2) : Kb b H H2 := fun a o h h1 h2 h3 => y a o (x a o h h1 h2 h3) h1 h2 h3
theorem Kb.same {b : BkA} {H H' : Hp} (s : Same H H') : Kb b H H' := fun a o h _ _ _ => s a o h
theorem Kb.up {b : BkA} {H H' : Hp} {q : Addr} {o : HO} (k : Kb b H H') (h : q = b.L ∨ q = b.E ∨ q = b.G) : Kb b H (upd H' q o) := fun a u e h1 h2 h3 => updN (by rcases h with rfl | rfl | rfl; exact h1; exact h2; exact h3) (k a u e h1 h2 h3)
section
variable [HasW] {K : PySem.W.Frag} {H H' : Hp} {b : BkA} {cs : List Ct} {as : List Addr}
theorem nd_ne_lst {a : Addr} {xs : List NEnt} {ys : List V} : ND a xs ≠ .lst ys := fun h => by unfold ND at h; cases h
theorem nd_ne_tup {a : Addr} {xs : List NEnt} {ys : List V} : ND a xs ≠ .tup ys := fun h => by unfold ND at h; cases h
theorem nd_ne_ins {a : Addr} {xs : List NEnt} {C d : Addr} {fs : List (Str × V)} : ND a xs ≠ .ins C d fs := fun h => by unfold ND at h; cases h
theorem BkAt.neG (k : BkAt K H b cs as) : b.L ≠ b.G ∧ b.E ≠ b.G := ⟨ne_of k.hL k.hG fun h => nd_ne_lst h.symm, ne_of k.hE k.hG fun h => nd_ne_lst h.symm⟩
theorem BkAt.tup (k : BkAt K H b cs as) (x : Kb b H H') : TM H H' := fun a xs h => x a _ h (ne_of h k.hL fun z => by cases z) (ne_of h k.hE fun z => by cases z) (ne_of h k.hG fun z => nd_ne_tup z.symm)
theorem BkAt.boK (k : BkAt K H b cs as) (x : Kb b H H') : BO K H' b := by
  obtain ⟨dx, fs, h, r⟩ := k.bo
  exact ⟨dx, fs, x _ _ h (ne_of h k.hL fun z => by cases z) (ne_of h k.hE fun z => by cases z) (ne_of h k.hG fun z => nd_ne_ins z.symm), r⟩
theorem BkAt.keep (k : BkAt K H b cs as) (x : Kb b H H') (eL : H' b.L = H b.L) (eE : H' b.E = H b.E) (eG : H' b.G = H b.G) : BkAt K H' b cs as :=
  ⟨k.bc, k.boK x, by rw [eL]; exact k.hL, by rw [eE]; exact k.hE, by rw [eG]; exact k.hG, k.at_.mono (k.tup x), k.nd, k.few, k.ok, k.ne⟩
theorem BkAt.same (k : BkAt K H b cs as) (s : Same H H') : BkAt K H' b cs as := k.keep (.same s) (by rw [k.hL, s _ _ k.hL]) (by rw [k.hE, s _ _ k.hE]) (by rw [k.hG, s _ _ k.hG])
/-- what changes elsewhere -/
theorem BkAt.kp {D : Addr} (k : BkAt K H b cs as) (x : Kp D H H') (h1 : D ≠ b.B) (h2 : D ≠ b.L) (h3 : D ≠ b.E) (h4 : D ≠ b.G) (ht : TM H H') : BkAt K H' b cs as := by
  obtain ⟨dx, fs, hB, r⟩ := k.bo
  exact ⟨k.bc, ⟨dx, fs, x _ _ hB h1.symm, r⟩, x _ _ k.hL h2.symm, x _ _ k.hE h3.symm, x _ _ k.hG h4.symm, k.at_.mono ht, k.nd, k.few, k.ok, k.ne⟩
variable {Q : VK} {σ : L2.St} {i : Nat}
theorem BkAt.fL (k : BkAt K H b cs as) (e : σ[i]? = some (some (.ref b.B))) (q : Q (.ref b.L) H) : tFld K (tVar i) "contents" σ H Q := by
  obtain ⟨dx, fs, hx, h1, h2, h3, h4⟩ := k.bo
  exact ⟨_, e, b.B, _, dx, fs, _, rfl, hx, k.bc.cl, k.bc.n1, h1, q⟩
theorem BkAt.fE (k : BkAt K H b cs as) (e : σ[i]? = some (some (.ref b.B))) (q : Q (.ref b.E) H) : tFld K (tVar i) "depths" σ H Q := by
  obtain ⟨dx, fs, hx, h1, h2, h3, h4⟩ := k.bo
  exact ⟨_, e, b.B, _, dx, fs, _, rfl, hx, k.bc.cl, k.bc.n2, h2, q⟩
theorem BkAt.fG (k : BkAt K H b cs as) (e : σ[i]? = some (some (.ref b.B))) (q : Q (.ref b.G) H) : tFld K (tVar i) "given" σ H Q := by
  obtain ⟨dx, fs, hx, h1, h2, h3, h4⟩ := k.bo
  exact ⟨_, e, b.B, _, dx, fs, _, rfl, hx, k.bc.cl, k.bc.n3, h3, q⟩
/-- a method called on the book -/
theorem BkAt.me {m : Str} {sp : Sp} {E : XK} {ta : TA} (k : BkAt K H b cs as) (hm : m ∈ (["named", "name_of", "thing", "kind", "parts", "parents", "root", "stamp", "entries", "leaf_rows", "is_name", "is_version", "is_content", "has_kinds", "depth", "give_next"] : List Str)) (e : σ[i]? = some (some (.ref b.B))) (q : ta σ H fun vs H2 => sp (.ref b.B :: (vs ++ [])) H2 Q E) : tMeth (He.ga K "Book") m sp [] E (tVar i) ta σ H Q := by
  obtain ⟨dx, fs, hx, h1, h2, h3, h4⟩ := k.bo
  exact ⟨_, e, b.B, dx, fs, rfl, hx, h4 m hm, q⟩
end
end Fw

set_option Elab.async false
set_option linter.all false
set_option maxRecDepth 100000
set_option maxHeartbeats 4000000
namespace Fw
open PySem PySem.Spec PyProof.Rows L2 PySem.W.Datum PySem.W
/-- a walk over a list or a tuple -/
def iOr (w1 w2 : TI) : TI := fun σ H R => w1 σ H R ∨ w2 σ H R
theorem pi_or {X : Cx} {tg e : Expr} {w1 w2 : TI} (h1 : PI X tg e w1) (h2 : PI X tg e w2) : PI X tg e (iOr w1 w2) := ⟨fun pins s σ H R I h => h.elim (h1.run pins s σ H R I) (h2.run pins s σ H R I)⟩
/-- str(i) -/
def rStrI : List V → Hp → VK → Prop := fun xs H Q => ∃ i, xs = [.int i] ∧ i.natAbs.log2 < 1920 ∧ Q (.str (toString i)) H
/-- max(l, default=d) of ints -/
def maxD (d : Int) : List Int → Int
  | [] => d
  | x :: xs => xs.foldl max x
def rMaxD0 (K : PySem.W.Frag) : List V → List V → Hp → VK → Prop := fun vs zs H Q => ∃ (a : Addr) (ns : List Int) (d : Int), vs = [.ref a] ∧ zs = [.int d] ∧ SqL K H a (ns.map V.int) ∧ Q (.int (maxD d ns)) H
theorem maxOf_fold : ∀ (xs : List Int) (x : Int), maxOf x xs = xs.foldl max x
  | [], x => rfl
  | z :: xs, x => by
    have e : maxOf x (z :: xs) = maxOf (if DatumOrd.lt x z = true then z else x) xs := rfl
    rw [e, List.foldl_cons]
    by_cases h : x < z
    · rw [if_pos (show DatumOrd.lt x z = true from decide_eq_true h), maxOf_fold xs z, show max x z = z from Int.max_eq_right (Int.le_of_lt h)]
    · rw [if_neg (show ¬ DatumOrd.lt x z = true from fun q => h (of_decide_eq_true q)), maxOf_fold xs x, show max x z = x from Int.max_eq_left (Int.not_lt.mp h)]
theorem dp_intsD {K : PySem.W.Frag} {H : Hp} : ∀ ns : List Int, DpAll K H (ns.map V.int) (ns.map PyData.int)
  | [] => .nil
  | n :: ns => .cons (.int n) (dp_intsD ns)
theorem cr_maxD0 {X : Cx} (hc : X.calm = true) (hu : X.A.units + 64 < cLine) : CallRK X (.builtin "max") [Str.ofString "default"] (rMaxD0 X.K) := by
  intro pins s σ H xs zs us ws Q I r rz q
  obtain ⟨a, ns, d, rfl, rfl, hs, q⟩ := q
  obtain ⟨its, rv, hl, hz⟩ := I.list hs
  rw [Vals.ref1 r]
  obtain ⟨w1, rfl, e1⟩ := Vals.one rz
  obtain ⟨t1, rfl⟩ : ∃ t, w1 = Value.int d t := e1
  obtain ⟨as, rd⟩ := Dp.readsAll I _ _ its (dp_intsD ns) rv
  refine max_list_datum_default (α := Int) (xs := ns) (I.ok.hd hc) hl.isList ⟨as, rd⟩ (by show X.A.units + 1 + 0 < cLine; omega) (fun e h' tk hk => ?_) fun y ys i v h' tk e hi hold hk => ?_
  · subst e
    exact ⟨.int d, H, I.kept hk, ⟨_, rfl⟩, q⟩
  · subst e
    obtain ⟨bs, rd2⟩ := hold
    have rd2 : Reads h' v (.int (maxOf y ys)) bs := rd2
    rw [maxOf_fold] at rd2
    cases rd2 with
    | int _ t => exact ⟨.int _, H, I.kept hk, ⟨_, rfl⟩, q⟩
end Fw

set_option Elab.async false
set_option linter.all false
set_option maxRecDepth 100000
set_option maxHeartbeats 4000000
/-! set(l) of a list of ints, some of them perhaps twice, and sorted(set(l)). -/
namespace Fw
open PySem PySem.Spec PyProof.Rows L2
/-- the members of the first i -/
def MemI (ks : List Int) (i : Nat) (S : Int → Bool) (n : Nat) : Prop := (∀ k, S k = true ↔ k ∈ ks.take i) ∧ n ≤ i
theorem MemI.zero (ks : List Int) : MemI ks 0 (fun _ => false) 0 := ⟨fun k => by simp, Nat.le_refl _⟩
theorem MemI.more {ks : List Int} {i n : Nat} {S : Int → Bool} {k : Int} (m : MemI ks i S n) (h : ks[i]? = some k) : MemI ks (i + 1) (fun j => S j || decide (j = k)) (if S k = true then n else n + 1) := by
  refine ⟨fun j => ?_, ?_⟩
  · rw [Bool.or_eq_true, m.1 j, decide_eq_true_eq, List.take_add_one, h, List.mem_append]
    simp
  · have := m.2
    split <;> omega
section
variable {P : Program} {w : World} {A : Around} {E : Value → Shared → Prop} {s : Shared}
theorem set_update_ints {I : Addr} {fp wr : List Addr} {G : Array GenState → Array GenState → Prop} {n : Nat} {Pv : Nat → Value → Prop} {St : Nat → Shared → Prop} {R : Result → Shared → Prop}
    (W : WalksS P w A.in1 I fp wr G n Pv St) (S : Addr) (hSf : S ∉ fp) (ks : List Int) (hn : n = ks.length) (hfew : ks.length < 64) (hval : ∀ i v, Pv i v → ∃ k t, ks[i]? = some k ∧ v = .int k t)
    (h0 : Heap) (hS0 : h0.get? S = none) (hw0 : ∀ b ∈ wr, h0.get? b = none) :
    ∀ (k i : Nat) (s : Shared), n - i = k → i ≤ n → St i s → (∀ b o, h0.get? b = some o → s.heap.get? b = some o) → (∃ T m, SetR w s.heap S T m ∧ MemI ks i T m) →
      (∀ s' T m, Moved (S :: wr) G s s' → SetR w s'.heap S T m → MemI ks n T m → (∀ b o, h0.get? b = some o → s'.heap.get? b = some o) → R (.ok (.ret .none)) s') →
      codeAny (model P w) A (.builtin "set.update.loop" ⟨[.ref S, .ref I], []⟩) R s := by
  have hSw : S ∉ wr := fun h => hSf (W.sub _ h)
  have hsub : ∀ b ∈ wr, b ∈ S :: wr := fun b hb => List.mem_cons_of_mem _ hb
  have keepM : ∀ {s s' : Shared}, Moved wr G s s' → (∀ b o, h0.get? b = some o → s.heap.get? b = some o) → ∀ b o, h0.get? b = some o → s'.heap.get? b = some o := fun hm hkp b o e =>
    hm.heap b o (fun hb => by rw [hw0 b hb] at e; cases e) (hkp b o e)
  intro k
  induction k with
  | zero =>
    intro i s hk' hi hst hkp ⟨T, m, hS, g⟩ hR
    have hin : i = n := by omega
    subst hin
    refine codeAny_builtin F.entry_set_update_loop ?_
    rw [Around.under_plainId F.plain_set_update_loop _]
    show wpAny _ A.in1 (pyNext (.ref I) >>= _) _ _ s
    refine wpAny_bind (W.done s _ _ hst fun s' hm => ?_)
    show wpAny _ A.in1 (ret Value.none) _ _ s'
    exact wpAny_pure (hR s' T m (hm.mono hsub) (hS.at fun o e => hm.heap S o hSw e) g (keepM hm hkp))
  | succ k ih =>
    intro i s hk' hi hst hkp ⟨T, m, hS, g⟩ hR
    have hlt : i < n := by omega
    refine codeAny_builtin F.entry_set_update_loop ?_
    rw [Around.under_plainId F.plain_set_update_loop _]
    show wpAny _ A.in1 (pyNext (.ref I) >>= _) _ _ s
    refine wpAny_bind (W.item i s _ _ hlt hst fun v s' hP hst' hm => ?_)
    obtain ⟨c, t, hp, rfl⟩ := hval i v hP
    have hkp' := keepM hm hkp
    have hS' : SetR w s'.heap S T m := hS.at fun o e => hm.heap S o hSw e
    show wpAny _ A.in1 (holding [Value.int c t] (setAdd S (.int c t)) >>= _) _ _ s'
    refine wpAny_bind (wpAny_holding ?_)
    unfold setAdd
    refine wpAny_holding ?_
    refine wpAny_bind ((intKind P w).pyHash (intKind_is P w c t) ?_)
    refine setR_add_hashed (s := { s' with toks := s'.toks + 1 }) hS' (by have := g.2; unfold scanBound; omega) fun h' hsb hS2 => ?_
    have g' := g.more hp
    have hkp2 : ∀ b o, h0.get? b = some o → h'.get? b = some o := fun b o e => (hsb.2 b (fun z => by rw [z, hS0] at e; cases e)).trans (hkp' b o e)
    refine wpAny_pure ⟨plainId_quiet F.plain_set_update_loop _, ih (i + 1) _ (by omega) hlt (W.frame _ s' _ _ hst' (Nat.le_add_right _ _) fun b hb o e => ?_) hkp2 ⟨_, _, hS2, g'⟩ fun s'' T2 m2 hm'' hS'' g'' hkp'' => ?_⟩
    · rw [hsb.2 b (fun h : b = S => hSf (by rw [← h]; exact hb))]; exact e
    · refine hR s'' T2 m2 (Moved.trans W.gtrans ((hm.mono hsub).then_heap (Nat.le_add_right _ _) fun b o hb e => ?_) hm'') hS'' g'' hkp''
      rw [hsb.2 b (fun h : b = S => hb (by rw [h]; exact List.mem_cons_self))]; exact e
set_option maxRecDepth 100000 in
set_option maxHeartbeats 3200000 in
theorem call_set_ints {l : Addr} {items : Array Value} (ks : List Int) {Q : Value → Shared → Prop} (hh : A.handled = none) (hl : s.heap.IsList l items) (hit : IntsAre items.toList ks) (hfew : ks.length < 64)
    (h : ∀ (h' : Heap) (tk : Nat) T m, SetR w h' s.heap.objs.size T m → MemI ks ks.length T m → (∀ b o, s.heap.get? b = some o → h'.get? b = some o) → Q (.ref s.heap.objs.size) { s with heap := h', toks := tk }) :
    wpAny (model P w) A (call (.type "set") [.ref l]) Q E s := by
  have hval0 : ∀ {vs : List Value} {ks : List Int}, IntsAre vs ks → vs.length = ks.length ∧ ∀ (i : Nat) (v : Value), vs[i]? = some v → ∃ k t, ks[i]? = some k ∧ v = Value.int k t := by
    intro vs ks q
    induction q with
    | nil => exact ⟨rfl, fun i v e => by simp at e⟩
    | @cons k t vs ks q ih =>
      refine ⟨by rw [List.length_cons, List.length_cons, ih.1], fun i v e => ?_⟩
      cases i with
      | zero =>
        simp at e
        exact ⟨k, t, by simp, e.symm⟩
      | succ i =>
        simp at e
        obtain ⟨a, b, c, d⟩ := ih.2 i v e
        exact ⟨a, b, by simpa using c, d⟩
  have hisz : items.size = ks.length := by
    have q := (hval0 hit).1
    rw [Array.length_toList] at q
    exact q
  obtain ⟨c, tl, hmro⟩ := F.called_set.mro
  have hmade := F.called_set.made
  have hsub := F.called_set.sub
  refine wpAny_call (codeAny_of_tree ?_)
  show wpAny _ _ (callAny (.type "set") _) _ _ _
  refine wpAny_pure ⟨Code.quiet_builtin _ (by decide +kernel), codeAny_builtin F.entry_type_call ?_⟩
  rw [Around.under_plain (weight_type_call_type "set" [.ref l] []) rfl]
  have h1 := F.called_set.notType
  have h2 := F.called_set.canCreate
  have hct := F.typeCall_set_1 (.ref l)
  repeat (any_goals (first | assumption | wp_step))
  refine codeAny_mono (code_set_led1 (.ref l) (E := E) (Q₁ := fun obj s₁ => obj = .ref s.heap.objs.size ∧ s₁ = { s with heap := s.heap.push { cls := .type "set", dict := none, data := .set #[] 0 (.fresh 0 0 (!w.params.followText "set-order")) } }) ⟨rfl, rfl⟩) fun r s₁ hr => ?_
  cases r with
  | error e => exact hr
  | ok fl =>
    cases fl with
    | ret obj =>
      obtain ⟨rfl, rfl⟩ := hr
      have hS : (s.heap.push { cls := .type "set", dict := none, data := .set #[] 0 (.fresh 0 0 (!w.params.followText "set-order")) }).get? s.heap.objs.size = some { cls := .type "set", dict := none, data := .set #[] 0 (.fresh 0 0 (!w.params.followText "set-order")) } := Heap.get?_push_size _ rfl
      have hT : Shared.TypeIs { s with heap := s.heap.push { cls := .type "set", dict := none, data := .set #[] 0 (.fresh 0 0 (!w.params.followText "set-order")) } } (.ref s.heap.objs.size) "set" := ⟨_, hS, rfl⟩
      have hli := F.called_set.init.lookup
      have hbi := F.called_set.init.bind (.ref s.heap.objs.size)
      repeat (any_goals (first | assumption | wp_step))
      refine codeAny_mono (codeAny_call_builtin (R := wants (fun r s₂ => r = .none ∧ ∃ h' tk T m, s₂ = { s with heap := h', toks := tk } ∧ SetR w h' s.heap.objs.size T m ∧ MemI ks ks.length T m ∧
          (∀ b o, s.heap.get? b = some o → h'.get? b = some o)) E) F.called_set.init.plain F.entry_set_init (check_set_init_1 hT ?_)) fun r₂ s₂ hr₂ => ?_
      · obtain ⟨ol, hol, hcl, nl, hdl⟩ := hl
        obtain ⟨ocls, odict, odata, oslots⟩ := ol
        simp only at hcl hdl
        subst hcl; subst hdl
        have hol' : (s.heap.push { cls := .type "set", dict := none, data := .set #[] 0 (.fresh 0 0 (!w.params.followText "set-order")) }).get? l = some { cls := .type "list", dict := odict, data := .seq items nl, slots := oslots } := Heap.get?_push_of_some _ hol
        have hsls := F.sub_list_set
        have hslf := F.sub_list_frozenset
        have hne : (Value.type "list" == Value.type "dict") = false := by decide
        have hl1 : (s.heap.push { cls := .type "set", dict := none, data := .set #[] 0 (.fresh 0 0 (!w.params.followText "set-order")) }).IsList l items := ⟨_, hol', rfl, nl, rfl⟩
        unfold Builtin.«set.__init__» noKeywords Builtin.Frozenset.updateFrom
        generalize hPI : pyIter = PI
        wp_walk
        subst hPI
        refine wpAny_pyIter_list hl1 ?_
        refine wpAny_bind (wpAny_runValue ?_)
        have hlS : l < s.heap.objs.size := Heap.lt_size hol
        have hh3 : A.in1.in1.in1.handled = none := by simp [hh]
        have hneI : l ≠ (s.heap.push { cls := .type "set", dict := none, data := .set #[] 0 (.fresh 0 0 (!w.params.followText "set-order")) }).objs.size := by
          rw [Heap.size_push]; exact Nat.ne_of_lt (Nat.lt_succ_of_lt hlS)
        have hSf : s.heap.objs.size ∉ [(s.heap.push { cls := .type "set", dict := none, data := .set #[] 0 (.fresh 0 0 (!w.params.followText "set-order")) }).objs.size, l] := by
          rw [Heap.size_push]; simp only [List.mem_cons, List.mem_singleton, List.not_mem_nil, or_false, not_or]
          exact ⟨Nat.ne_of_lt (Nat.lt_succ_self _), Nat.ne_of_gt hlS⟩
        have hval : ∀ (i : Nat) (v : Value), items[i]? = some v → ∃ k t, ks[i]? = some k ∧ v = .int k t := fun i v hv => (hval0 hit).2 i v (by rw [Array.getElem?_toList]; exact hv)
        have none_of : ∀ b, s.heap.objs.size ≤ b → s.heap.get? b = none := fun b hb => by
          cases q : s.heap.get? b with
          | none => rfl
          | some o => exact absurd (Nat.lt_of_lt_of_le (Heap.lt_size q) hb) (Nat.lt_irrefl _)
        refine set_update_ints ((Walks.list hh3 _ l hneI items).toS) s.heap.objs.size
          hSf ks hisz hfew hval s.heap (none_of _ (Nat.le_refl _)) (fun b hb => none_of b (by
            rw [List.mem_singleton.mp hb, Heap.size_push]
            exact Nat.le_succ _)) (items.size - 0) 0 _ (by omega) (Nat.zero_le _)
          ⟨⟨_, Heap.get?_push_size _ rfl, rfl, rfl⟩, (hl1.push _)⟩ (fun b o e => Heap.get?_push_of_some _ (Heap.get?_push_of_some _ e)) ?hS0 ?hR
        case hS0 => exact ⟨_, _, (setR_fresh w).at fun o e => Heap.get?_push_of_some _ e, MemI.zero ks⟩
        case hR =>
          intro s' T m hm hS' g' hkp
          obtain ⟨h', g2, d', tk', os'⟩ := s'
          have eg : g2 = s.gens := hm.gens
          have ed : d' = s.drawn := hm.drawn
          have eo : os' = s.os := hm.os
          subst eg; subst ed; subst eo
          show wpAny _ _ _ _ _ _
          refine wpAny_pure ?_
          show wpAny _ _ (ret Value.none) _ _ _
          rw [hisz] at g'
          exact wpAny_pure ⟨rfl, h', tk', T, m, rfl, hS', g', hkp⟩
      · cases r₂ with
        | error e => exact hr₂
        | ok fl₂ =>
          cases fl₂ with
          | ret r =>
            obtain ⟨rfl, h', tk, T, m, rfl, hS', g', hk'⟩ := hr₂
            repeat (any_goals (first | assumption | wp_step))
            exact h _ _ _ _ hS' g' hk'
          | _ => exact hr₂.elim
    | _ => exact hr.elim
end
/-- set(l) of ints -/
def rSetI (K : PySem.W.Frag) (w : World) : List V → Hp → VK → Prop := fun vs H Q => ∃ (a : Addr) (ns : List Int), vs = [.ref a] ∧ SqL K H a (ns.map V.int) ∧ ns.length < 64 ∧ ∀ (p : Addr) (S : Int → Bool) (n : Nat), H p = none → (∀ k, S k = true ↔ k ∈ ns) → n ≤ ns.length → Q (.ref p) (upd H p (SetO w p S n))
theorem cr_setI {X : Cx} (hc : X.calm = true) : CallR X (.type "set") (rSetI X.K X.w) := by
  intro pins s σ H vs us Q I r h
  obtain ⟨a, ns, rfl, hs, few, q⟩ := h
  obtain ⟨its, rv, hl, hz⟩ := I.list hs
  rw [Vals.ref1 r]
  have hi := rv.ints
  refine call_set_ints ns (I.ok.hd hc) hl.isList (show PyProof.Rows.IntsAre its.toArray.toList ns from hi) few fun h' tk T m R g k => ?_
  refine ⟨.ref s.heap.objs.size, upd H s.heap.objs.size (SetO X.w s.heap.objs.size T m), I.laid (t' := tk) k (Nat.le_refl _) (setO_new R), rfl, q _ _ _ (I.hok.fresh (Nat.le_refl _)) (fun k => ?_) g.2⟩
  rw [g.1 k, List.take_length]
/-- what follows from a reading -/
def tClo (te : TE) : TE := fun σ H Q => ∃ N : V → Hp → Prop, te σ H N ∧ ∀ x H1, N x H1 → Q x H1
theorem pe_clo {X : Cx} {e : Expr} {te : TE} (he : PE X e te) : PE X e (tClo te) := ⟨fun pins s σ H Q I ⟨N, h, m⟩ => wpAny_mono (he.run pins s σ H N I h) (fun u s1 ⟨x, H1, I1, r1, q⟩ => ⟨x, H1, I1, r1, m x H1 q⟩) fun _ _ z => z⟩
/-- sorted(set(l)) -/
def tSortSet (K : PySem.W.Frag) (te : TE) : TE := fun σ H Q => te σ H fun x H1 => ∃ (a : Addr) (ns : List Int), x = .ref a ∧ SqL K H1 a (ns.map V.int) ∧ ns.length < 64 ∧
  ∀ (ys : List Int) (q p : Addr) (u : HO), H1 q = none → upd H1 q u p = none → ys.Pairwise (· < ·) → (∀ k, k ∈ ys ↔ k ∈ ns) → ys.length ≤ ns.length → Q (.ref p) (upd (upd H1 q u) p (.lst (ys.map V.int)))
theorem pe_sortSet {X : Cx} {e : Expr} {te : TE} {p pos p2 pos2 : Pos} (hc : X.calm = true) (hg : Gl X "sorted") (hm : X.mg "sorted" = none) (hg2 : Gl X "set") (hm2 : X.mg "set" = none) (he : PE X e te)
    (hs : starEach [.Call (.Name "set" p2) [e] [] pos2] X.env = (false, eval (.Call (.Name "set" p2) [e] [] pos2) X.env) :: starEach [] X.env := by rfl)
    (hs2 : starEach [e] X.env = (false, eval e X.env) :: starEach [] X.env := by rfl) : PE X (.Call (.Name "sorted" p) [.Call (.Name "set" p2) [e] [] pos2] [] pos) (tSortSet X.K te) := by
  have inner : PE X (.Call (.Name "set" p2) [e] [] pos2) (tCB (rSetI X.K X.w) (tCons (tClo te) tNil)) := pe_callTy (cr_setI hc) hg2 hm2 (by decide +kernel) (pa_cons (pe_clo he) pa_nil hs2) (he := hs2)
  have outer := pe_callB (p := p) (pos := pos) (cr_sortedSet hc) hg hm (by decide +kernel) (pa_cons inner pa_nil hs) (he := hs)
  refine ⟨fun pins s σ H Q I h => outer.run pins s σ H Q I ⟨_, h, ?_⟩⟩
  rintro x H1 ⟨a, ns, rfl, hs, few, k⟩
  refine ⟨a, ns, rfl, hs, few, fun q S n hq mem hn => ⟨q, S, n, rfl, updS, by omega, fun ys p inc m2 len hp => ?_⟩⟩
  exact k ys q p _ hq hp inc (fun j => (m2 j).trans (mem j)) (by omega)
end Fw

set_option Elab.async false
set_option linter.all false
set_option maxRecDepth 100000
set_option maxHeartbeats 4000000
/-! sorted(d.items()), d a dict of ints by texts. -/
namespace Fw
open PySem PySem.Spec PyProof.Rows L2
abbrev LabE := Addr × Str × Int
def encI (z : LabE) : PyData := .tuple [.str z.2.1, .int z.2.2]
def leI (a b : LabE) : Bool := if a.2.1 = b.2.1 then decide (a.2.2 ≤ b.2.2) else decide (a.2.1.cps.toList ≤ b.2.1.cps.toList)
theorem str_ext {x y : Str} (h : x.cps.toList = y.cps.toList) : x = y := by
  obtain ⟨⟨x⟩⟩ := x
  obtain ⟨⟨y⟩⟩ := y
  have : x = y := h
  rw [this]
theorem leI_eq : PySem.W.dataLe false encI = leI := by
  funext a b
  show (!PySem.W.dataLt (encI b) (encI a)) = _
  unfold encI leI
  rw [PySem.W.dataLt_pair rfl rfl]
  by_cases h : a.2.1 = b.2.1
  · rw [if_pos h, h, if_pos (by show decide (b.2.1 = b.2.1) = true; exact decide_eq_true rfl)]
    by_cases h2 : b.2.2 = a.2.2
    · rw [if_pos (by show decide (b.2.2 = a.2.2) = true; exact decide_eq_true h2), h2]
      simp
    · rw [if_neg (by show ¬ decide (b.2.2 = a.2.2) = true; simpa using h2), PySem.W.dataLt_int]
      by_cases h3 : b.2.2 < a.2.2
      · rw [decide_eq_true h3, decide_eq_false (by omega)]
        rfl
      · rw [decide_eq_false h3, decide_eq_true (by omega)]
        rfl
  · rw [if_neg h, if_neg (by show ¬ decide (b.2.1 = a.2.1) = true; simpa using fun z => h z.symm), PySem.W.dataLt_str, PySem.W.not_lt_str]
theorem le_antisymm_l {x y : List Nat} (a : x ≤ y) (b : y ≤ x) : x = y := by
  rcases Classical.em (x = y) with h | h
  · exact h
  · exact List.le_antisymm a b
theorem leI_total : PySem.W.TotalLe leI where
  trans := fun a b c h1 h2 => by
    unfold leI at *
    by_cases x : a.2.1 = b.2.1
    · rw [if_pos x] at h1
      by_cases y : b.2.1 = c.2.1
      · rw [if_pos y] at h2
        rw [if_pos (x.trans y)]
        simp only [decide_eq_true_eq] at *
        omega
      · rw [if_neg y] at h2
        rw [if_neg (fun z => y (x.symm.trans z)), x]
        exact h2
    · rw [if_neg x] at h1
      by_cases y : b.2.1 = c.2.1
      · rw [← y, if_neg x]
        exact h1
      · rw [if_neg y] at h2
        simp only [decide_eq_true_eq] at h1 h2
        have h3 := List.le_trans h1 h2
        by_cases z : a.2.1 = c.2.1
        · exfalso
          rw [z] at h1
          exact y (str_ext (le_antisymm_l h2 h1))
        · rw [if_neg z]
          exact decide_eq_true h3
  total := fun a b => by
    unfold leI
    by_cases x : a.2.1 = b.2.1
    · rw [if_pos x, if_pos x.symm]
      simp only [decide_eq_true_eq]
      omega
    · rw [if_neg x, if_neg fun z => x z.symm]
      simp only [decide_eq_true_eq]
      exact List.le_total _ _
abbrev labK (e : Str × Int) : Key × V := (Sum.inr e.1, V.int e.2)
theorem lab_entries {P : Program} {w : World} : ∀ {ks : List (Str × Int)} {vs : List (Key × Value)} {es : List DictEntry}, KV (ks.map labK) vs → Pairs (mixKind P w) es vs → es.length = ks.length ∧ ∀ (j : Nat) (e : DictEntry), es[j]? = some e → ∃ k, ks[j]? = some k ∧ ∃ t t', e.key = Value.str k.1 t ∧ e.val = Value.int k.2 t'
  | [], _, _, .nil, .nil => ⟨rfl, fun j e h => by simp at h⟩
  | k :: ks, _, _, .cons r rs, .cons (e := e) hk hv ps => by
    obtain ⟨h1, h2⟩ := lab_entries rs ps
    refine ⟨by rw [List.length_cons, List.length_cons, h1], fun j x hx => ?_⟩
    cases j with
    | succ j =>
      simp at hx
      obtain ⟨q, h3, h4⟩ := h2 j x hx
      exact ⟨q, by simpa using h3, h4⟩
    | zero =>
      simp at hx
      subst hx
      refine ⟨k, rfl, ?_⟩
      obtain ⟨r1, r2⟩ := r
      rw [← r1] at hk
      obtain ⟨t', e2⟩ : ∃ t', _ = Value.int k.2 t' := r2
      rcases keyIs_shape (show keyIs (Sum.inr k.1) e.key = true from hk) with ⟨i, t, ek, ev⟩ | ⟨z, t, ek, ev⟩
      · cases ek
      · cases ek
        exact ⟨t, t', ev, hv.trans e2⟩
def rItemsD : V → List V → Hp → VK → Prop := fun x xs H Q => ∃ (a : Addr) (kvs : List (Key × V)), x = .ref a ∧ xs = [] ∧ H a = some (.dK kvs) ∧ ∀ p, H p = none → Q (.ref p) (upd H p (L2.DX.itemsO p a))
theorem mt_itemsD {X : Cx} : MtM X "dict.items" rItemsD := by
  intro pins s σ H x xs v us Q I rx rxs h
  obtain ⟨a, kvs, rfl, rfl, ha, q⟩ := h
  cases rx
  cases rxs
  obtain ⟨z, hd, vs, rel, o, es, ep, ho, hx, hdat, _⟩ := dk_of I.hok ha
  refine DT.callItems (es := es) (ep := ep) hd ⟨o, ho, hx, hdat⟩ ?_
  have hf : H s.heap.objs.size = none := I.hok.fresh (Nat.le_refl _)
  exact ⟨.ref s.heap.objs.size, upd H s.heap.objs.size (L2.DX.itemsO s.heap.objs.size a), I.laid (t' := s.toks) (fun b u e => Heap.get?_push_of_some _ e) (Nat.le_refl _) (L2.DX.itemsO_ok (Heap.get?_push_size _ rfl)), rfl, q _ hf⟩
def rSortItD : List V → Hp → VK → Prop := fun vs H Q => ∃ (p a : Addr) (ks : List (Str × Int)), vs = [.ref p] ∧ H p = some (L2.DX.itemsO p a) ∧ H a = some (.dK (ks.map labK)) ∧ ks.length ≤ 1000 ∧
  ∀ (H' : Hp) (l : Addr) (ps : List LabE), Same H H' → H l = none → (ps.map (·.2)).Perm ks → ps.Pairwise (fun e f => e.2.1.cps.toList < f.2.1.cps.toList) → H' l = some (.lst (ps.map fun z => V.ref z.1)) →
    (∀ z ∈ ps, H z.1 = none ∧ H' z.1 = some (.tup [.str z.2.1, .int z.2.2])) → Q (.ref l) H'
theorem cr_sortedItD {X : Cx} (hc : X.calm = true) (hu : X.A.units + 64 < cLine) : CallR X (.builtin "sorted") rSortItD := by
  intro pins s σ H xs us Q I r h
  obtain ⟨p, a, ks, rfl, hp, ha, few, q⟩ := h
  obtain rfl := Vals.ref1 r
  have view : s.heap.IsItemsView p a := (show ObjOk X.prog X.w H s.heap p (L2.DX.itemsO p a) from I.hok p _ hp).1
  obtain ⟨z, hd, vs, rel, o, es, ep, ho, hx, hdat, _, prs, hn⟩ := dk_of I.hok ha
  obtain ⟨l0, ent⟩ := lab_entries rel prs
  have l2 : es.size = ks.length := by rw [← Array.length_toList]; exact l0
  have hnd : (ks.map (·.1)).Nodup := by
    have e : (ks.map labK).map (·.1) = vs.map (·.1) := rel.keys
    rw [← e, List.map_map] at hn
    have : (Prod.fst ∘ labK) = (fun x : Str => (Sum.inr x : Key)) ∘ (Prod.fst : Str × Int → Str) := rfl
    rw [this, ← List.map_map] at hn
    exact List.Pairwise.of_map _ (fun a b h e => h (by rw [e])) hn
  have hh : X.A.handled = none := I.ok.hd hc
  refine DT.sortedI (es := es) (ep := ep) hh view ⟨o, ho, hx, hdat⟩ (by rw [sizeLine_eq]; omega) fun h' tk as hk hlt hl hG => ?_
  have lak : as.length = ks.length := by omega
  have nd : as.Nodup := List.Pairwise.imp (fun h => Nat.ne_of_lt h) hG.rise
  have pr : ∀ (j : Nat) (b : Addr), as[j]? = some b → ∃ (e : Str × Int) (t t' : Tok), ks[j]? = some e ∧ h'.get? b = some { cls := .type "tuple", data := .seq #[Value.str e.1 t, Value.int e.2 t'] } := by
    intro j b hj
    obtain ⟨en, he, hg⟩ := hG.pairs j b hj
    obtain ⟨k, h1, t, t', h2, h3⟩ := ent j en (by rw [Array.getElem?_toList]; exact he)
    refine ⟨k, t, t', h1, ?_⟩
    rw [hg, h2, h3]
  have hob : (h'.push { cls := .type "list", data := .seq (as.map Value.ref).toArray }).get? h'.objs.size = some (seqObj "list" (as.map Value.ref).toArray 0) := Heap.get?_push_size _ rfl
  have kb : ∀ b o, s.heap.get? b = some o → (h'.push { cls := .type "list", data := .seq (as.map Value.ref).toArray }).get? b = some o := fun b o e => Heap.get?_push_of_some _ (hk b o e)
  have ne0 : ∀ b o, h'.get? b = some o → b ≠ h'.objs.size := fun b o e => Nat.ne_of_lt (Heap.lt_size e)
  generalize hh2 : h'.push { cls := .type "list", data := .seq (as.map Value.ref).toArray } = h2 at hob kb ⊢
  have ka : ∀ b o, h'.get? b = some o → h2.get? b = some o := fun b o e => by rw [← hh2]; exact Heap.get?_push_of_some _ e
  let zs : List LabE := as.zip ks
  have hz1 : zs.map (fun z => Value.ref z.1) = as.map Value.ref := by
    show (as.zip ks).map (Value.ref ∘ Prod.fst) = _
    rw [← List.map_map, List.map_fst_zip (by omega)]
  have hz2 : zs.map (·.2) = ks := List.map_snd_zip (by omega)
  have idx : ∀ z ∈ zs, ∃ j : Nat, as[j]? = some z.1 ∧ ks[j]? = some z.2 := by
    intro z' hz'
    obtain ⟨j, hj⟩ := List.mem_iff_getElem?.mp hz'
    exact ⟨j, List.getElem?_zip_eq_some.mp hj⟩
  have eachOf : ∀ {R : Value → LabE → Prop} (l : List LabE), (∀ z ∈ l, R (Value.ref z.1) z) → PySem.W.EachIs R (l.map fun z => Value.ref z.1) l := by
    intro R l
    induction l with
    | nil => intro _; exact .nil
    | cons z l ih => intro h; exact .cons (h z List.mem_cons_self) (ih fun z hz => h z (List.mem_cons_of_mem _ hz))
  have e1 : PySem.W.EachIs (fun (v : Value) (z : LabE) => v = Value.ref z.1 ∧ z ∈ zs) (as.map Value.ref) zs := by
    rw [← hz1]
    exact eachOf zs fun z hz => ⟨rfl, hz⟩
  have e2 : PySem.W.EachIs (fun v z => ∃ ws, Reads h2 v (encI z) ws ∧ h'.objs.size ∉ ws) (as.map Value.ref) zs := by
    rw [← hz1]
    refine eachOf zs fun z hz => ?_
    obtain ⟨j, h1, h3⟩ := idx z hz
    obtain ⟨e, t, t', h4, h5⟩ := pr j _ h1
    obtain rfl : z.2 = e := Option.some.inj (h3.symm.trans h4)
    exact ⟨_, .tuple (ka _ _ h5) rfl rfl (.cons (.str _ t) (.cons (.int _ t') .nil)), by simp⟩
  refine PySem.W.list_sort_data (enc := encI) hob e1 e2 (PySem.W.AllAlike.of fun _ _ => rfl) (PySem.W.Sortable.tuples fun _ => ⟨_, _, rfl⟩) (by show (as.zip ks).length ≤ _; rw [List.length_zip, sizeLine_eq]; omega) (fun b _ => by
    show X.A.in1.units + 1 + _ < cLine
    rw [Around.in1_units]
    have : (encI b).depth = 1 := by simp [encI, PyData.depth, PyData.depthAll]
    omega) fun out _ hout => ?_
  rw [leI_eq] at hout
  have outs : out = (zs.mergeSort leI).map fun z => Value.ref z.1 := by
    have : ∀ {l : List Value} {m : List LabE}, PySem.W.EachIs (fun v z => v = Value.ref z.1 ∧ z ∈ zs) l m → l = m.map fun z => Value.ref z.1 := by
      intro l m q
      induction q with
      | nil => rfl
      | cons h _ ih => rw [List.map_cons, ← h.1, ← ih]
    exact this hout
  have pm : (zs.mergeSort leI).Perm zs := List.mergeSort_perm _ _
  have hsort : (zs.mergeSort leI).Pairwise fun e f => e.2.1.cps.toList < f.2.1.cps.toList := by
    have p1 := PySem.W.sort_pairwise leI_total zs
    have p2 : ((zs.mergeSort leI).map fun z => z.2.1).Nodup := by
      refine ((pm.map fun z => z.2.1).nodup_iff).mpr ?_
      have : zs.map (fun z => z.2.1) = ks.map (·.1) := by rw [← hz2, List.map_map]; rfl
      rw [this]
      exact hnd
    have p2 : (zs.mergeSort leI).Pairwise fun e f => e.2.1 ≠ f.2.1 := List.pairwise_map.mp p2
    refine List.Pairwise.imp₂ (fun e f h1 h2 => ?_) p1 p2
    unfold leI at h1
    rw [if_neg h2] at h1
    have h1 := of_decide_eq_true h1
    rcases Classical.em (e.2.1.cps.toList < f.2.1.cps.toList) with h | h
    · exact h
    · exact absurd (str_ext (le_antisymm_l h1 (List.not_lt.mp h))) h2
  subst outs
  generalize zs.mergeSort leI = ms at pm hsort
  have kF : ∀ b o, b ≠ h'.objs.size → h2.get? b = some o → (sortedHeap h2 h'.objs.size (as.map Value.ref) (ms.map fun z => Value.ref z.1).toArray).get? b = some o := fun b o hb e => (PyProof.Rows.sortedHeap_old hb (Heap.lt_size e)).trans e
  obtain ⟨eF, heF⟩ := PyProof.Rows.sortedHeap_at (vs := as.map Value.ref) (out := (ms.map fun z => Value.ref z.1).toArray) hob
  generalize sortedHeap h2 h'.objs.size (as.map Value.ref) (ms.map fun z => Value.ref z.1).toArray = h3 at kF heF
  have kS : ∀ b o, s.heap.get? b = some o → h3.get? b = some o := fun b o e => kF b o (ne0 _ _ (hk b o e)) (kb b o e)
  show EP X pins σ Q (.ref h'.objs.size) { s with heap := h3, toks := tk }
  have I1 : Inv X pins σ H { s with heap := h3, toks := tk } := I.kept (t' := tk) kS
  have hn0 : H h'.objs.size = none := I.hok.fresh (Nat.le_of_lt hlt)
  have lenM : ms.length = ks.length := by rw [pm.length_eq]; show (as.zip ks).length = _; rw [List.length_zip]; omega
  have hlen : (ms.map fun z => V.ref z.1).length ≤ sizeLine := by rw [List.length_map, sizeLine_eq]; omega
  have rv : Vals (ms.map fun z => V.ref z.1) (ms.map fun z => Value.ref z.1) := vals_maps (fun z : LabE => V.ref z.1) (fun z => Value.ref z.1) ms fun _ _ => rfl
  have I2 : Inv X pins σ (upd H h'.objs.size (.lst (ms.map fun z => V.ref z.1))) { s with heap := h3, toks := tk } :=
    I1.take (h' := h3) (t' := tk) (fun b ob _ e => e) (I.fpOk (Nat.le_of_lt hlt) hn0) ⟨hlen, _, eF, rv, heF⟩
  obtain ⟨H2, I3, g, qt⟩ := L2.DX.takeT (P := fun b vs => ∃ (j : Nat) (e : Str × Int), as[j]? = some b ∧ ks[j]? = some e ∧ vs = [.str e.1, .int e.2]) I as _ I2 nd fun b hb => by
    obtain ⟨j, hj⟩ := List.mem_iff_getElem?.mp hb
    obtain ⟨e, t, t', he, hg⟩ := pr j b hj
    have hbl : s.heap.objs.size ≤ b := Nat.le_of_lt (hG.above b hb)
    refine ⟨hbl, ?_, [.str e.1, .int e.2], ⟨j, e, hj, he, rfl⟩, fun H3 => ⟨(by rw [sizeLine_eq]; show 2 ≤ 16777216; omega), [Value.str e.1 t, Value.int e.2 t'], .cons ⟨t, rfl⟩ (.cons ⟨t', rfl⟩ .nil), ⟨_, kF _ _ (ne0 _ _ hg) (ka _ _ hg), rfl, 0, rfl⟩⟩⟩
    rw [upd_ne (ne0 _ _ hg)]
    exact I.hok.fresh hbl
  have gr : Same H H2 := fun b o e => g b o (by rw [upd_ne (ne_of_none e hn0)]; exact e)
  refine ⟨.ref h'.objs.size, H2, I3, rfl, q H2 h'.objs.size ms gr hn0 ?_ hsort (g _ _ upd_same) fun z hz => ?_⟩
  · rw [← hz2]
    exact pm.map _
  · obtain ⟨i, i1, i2⟩ := idx z (pm.mem_iff.mp hz)
    have hm := List.mem_of_getElem? i1
    refine ⟨I.hok.fresh (Nat.le_of_lt (hG.above _ hm)), ?_⟩
    obtain ⟨vs, ⟨j, e, j1, j2, ev⟩, hH⟩ := qt z.1 hm
    have eij : i = j := (List.getElem?_inj (List.getElem?_eq_some_iff.mp i1).1 nd).mp (i1.trans j1.symm)
    subst eij
    have ee : e = z.2 := Option.some.inj (j2.symm.trans i2)
    rw [ev, ee] at hH
    exact hH
end Fw

set_option Elab.async false
set_option linter.all false
set_option maxRecDepth 100000
set_option maxHeartbeats 4000000
/-! The forms of contents, where they are right. -/
namespace Fw
open PySem L2 RZ RT
abbrev rSlE (K : PySem.W.Frag) : V → Option Int → Option Int → Hp → VK → Prop := fun x lo hi H Q => rSlA K x lo hi H Q ∨ rSlL K x lo hi H Q
abbrev rLtSS : R2 := fun x y H Q => ∃ i j, x = .str i ∧ y = .str j ∧ Q (.bl (decide (i.cps.toList < j.cps.toList))) H
abbrev fLtIS : R2 := fun x y H Q => rLtI x y H Q ∨ rLtSS x y H Q
def ltV : V → V → Prop
  | .int i, .int j => i < j
  | .str i, .str j => ltS i j
  | _, _ => False
theorem ltV.run {x y : V} {H : Hp} {Q : VK} (h : ltV x y) (q : Q (.bl true) H) : fLtIS x y H Q := by
  cases x <;> cases y <;> try exact h.elim
  · exact .inl ⟨_, _, rfl, rfl, by rw [show (fun i j : Int => V.bl (decide (i < j))) _ _ = V.bl true from congrArg V.bl (decide_eq_true (show _ < _ from h))]; exact q⟩
  · exact .inr ⟨_, _, rfl, rfl, by rw [decide_eq_true (show _ < _ from h)]; exact q⟩
theorem drop1 (xs : List V) : cutV xs (some 1) none = xs.drop 1 := by
  unfold cutV
  rw [show HT.sIx xs.length 0 (some 1) = min 1 xs.length from HT.sIx_nat xs.length 0 1, HT.sIx_none]
  cases xs with
  | nil => rfl
  | cons x r =>
    rw [show min 1 (x :: r).length = 1 by
      rw [List.length_cons]
      omega]
    rw [List.take_of_length_le]
    rw [List.length_drop]
    omega
/-- a comprehension over zip of two tuples, or two lists -/
theorem lcz_tup {K : PySem.W.Frag} {a b : Addr} {xs ys : List V} {g : TG} {tt : TT} {te : TE} {vs : List Nat} {σ : L2.St} {H1 : Hp} {D : Addr} {Qd : Hp → Prop} (n : Nat) (hn : n = min xs.length ys.length) (Pv : Nat → Hp → Prop) (h0 : Pv 0 (upd H1 D (.lst [])))
    (hl : ∀ i H, Pv i H → SqT K H a xs ∧ SqT K H b ys)
    (hs : ∀ (i : Nat) (x y : V) (T : Addr) (H : Hp), xs[i]? = some x → ys[i]? = some y → Pv i H → H T = none → g (.ref T) (wipe σ vs) (upd H T (.tup [x, y])) fun σ2 H2 => wipe σ2 vs = wipe σ vs ∧ tt σ2 H2 fun b H3 =>
      if b = true then te σ2 H3 fun y H4 => ∃ acc, H4 D = some (.lst acc) ∧ acc.length < sizeLine ∧ Pv (i + 1) (upd H4 D (.lst (acc ++ [y]))) else Pv (i + 1) H3) (hd : ∀ H, Pv n H → Qd H) :
    ∃ W : Nat → Nat → Hp → Prop, (∃ m, W 0 m (upd H1 D (.lst []))) ∧ ∀ i m H, W i m H →
      ((ItzT K a b).stop i H ∧ Qd H) ∨ ((ItzT K a b).go i H ∧ ∃ Nx : Hp → Prop, (∀ H', Nx H' → ∃ m', m' < m ∧ W (i + 1) m' H') ∧ ∀ x H', (ItzT K a b).yld i H x H' → g x (wipe σ vs) H' fun σ2 H2 => wipe σ2 vs = wipe σ vs ∧ tt σ2 H2 fun b H3 =>
        if b = true then te σ2 H3 fun y H4 => ∃ acc, H4 D = some (.lst acc) ∧ acc.length < sizeLine ∧ Nx (upd H4 D (.lst (acc ++ [y]))) else Nx H3) := by
  refine ⟨fun i m H => m = n - i ∧ i ≤ n ∧ Pv i H, ⟨n, by simp, Nat.zero_le _, h0⟩, ?_⟩
  rintro i m H ⟨rfl, hi, p⟩
  obtain ⟨qa, qb⟩ := hl i H p
  by_cases hlt : i < n
  · have l1 : i < xs.length := by omega
    have l2 : i < ys.length := by omega
    refine .inr ⟨⟨xs, ys, xs[i], ys[i], qa, qb, List.getElem?_eq_getElem l1, List.getElem?_eq_getElem l2⟩, Pv (i + 1), fun H' p' => ⟨n - (i + 1), by omega, rfl, hlt, p'⟩, fun x H' y => ?_⟩
    obtain ⟨T, x1, x2, rfl, nT, rfl, f1, f2⟩ := y
    exact hs i x1 x2 T H (f1 _ qa) (f2 _ qb) p nT
  · have e : i = n := by omega
    subst e
    exact .inl ⟨⟨xs, ys, qa, qb, by omega⟩, hd H p⟩
theorem lcz_lst {K : PySem.W.Frag} {a b : Addr} {xs ys : List V} {g : TG} {tt : TT} {te : TE} {vs : List Nat} {σ : L2.St} {H1 : Hp} {D : Addr} {Qd : Hp → Prop} (n : Nat) (hn : n = min xs.length ys.length) (Pv : Nat → Hp → Prop) (h0 : Pv 0 (upd H1 D (.lst [])))
    (hl : ∀ i H, Pv i H → SqL K H a xs ∧ SqL K H b ys)
    (hs : ∀ (i : Nat) (x y : V) (T : Addr) (H : Hp), xs[i]? = some x → ys[i]? = some y → Pv i H → H T = none → g (.ref T) (wipe σ vs) (upd H T (.tup [x, y])) fun σ2 H2 => wipe σ2 vs = wipe σ vs ∧ tt σ2 H2 fun b H3 =>
      if b = true then te σ2 H3 fun y H4 => ∃ acc, H4 D = some (.lst acc) ∧ acc.length < sizeLine ∧ Pv (i + 1) (upd H4 D (.lst (acc ++ [y]))) else Pv (i + 1) H3) (hd : ∀ H, Pv n H → Qd H) :
    ∃ W : Nat → Nat → Hp → Prop, (∃ m, W 0 m (upd H1 D (.lst []))) ∧ ∀ i m H, W i m H →
      ((Itz K a b).stop i H ∧ Qd H) ∨ ((Itz K a b).go i H ∧ ∃ Nx : Hp → Prop, (∀ H', Nx H' → ∃ m', m' < m ∧ W (i + 1) m' H') ∧ ∀ x H', (Itz K a b).yld i H x H' → g x (wipe σ vs) H' fun σ2 H2 => wipe σ2 vs = wipe σ vs ∧ tt σ2 H2 fun b H3 =>
        if b = true then te σ2 H3 fun y H4 => ∃ acc, H4 D = some (.lst acc) ∧ acc.length < sizeLine ∧ Nx (upd H4 D (.lst (acc ++ [y]))) else Nx H3) := by
  refine ⟨fun i m H => m = n - i ∧ i ≤ n ∧ Pv i H, ⟨n, by simp, Nat.zero_le _, h0⟩, ?_⟩
  rintro i m H ⟨rfl, hi, p⟩
  obtain ⟨qa, qb⟩ := hl i H p
  by_cases hlt : i < n
  · have l1 : i < xs.length := by omega
    have l2 : i < ys.length := by omega
    refine .inr ⟨⟨xs, ys, xs[i], ys[i], qa, qb, List.getElem?_eq_getElem l1, List.getElem?_eq_getElem l2⟩, Pv (i + 1), fun H' p' => ⟨n - (i + 1), by omega, rfl, hlt, p'⟩, fun x H' y => ?_⟩
    obtain ⟨T, x1, x2, rfl, nT, rfl, f1, f2⟩ := y
    exact hs i x1 x2 T H (f1 _ qa) (f2 _ qb) p nT
  · have e : i = n := by omega
    subst e
    exact .inl ⟨⟨xs, ys, qa, qb, by omega⟩, hd H p⟩
/-- a comprehension over a tuple of pairs of a text and an int -/
theorem lc_pairs {K : PySem.W.Frag} {r : Addr} {as : List Addr} {es : List (Str × Int)} {i j : Nat} {te : TE} {vs : List Nat} {σ : L2.St} {H1 : Hp} {D : Addr} {Qd : Hp → Prop} {ys : List V}
    (hD : H1 D = none) (hr : H1 r = some (.tup (as.map V.ref))) (hl : as.length = es.length) (hz : es.length ≤ 100000) (hy : ys.length = es.length) (ha : ∀ (n : Nat) (b : Addr) (e : Str × Int), as[n]? = some b → es[n]? = some e → H1 b = some (.tup [.str e.1, .int e.2]))
    (hs : ∀ (n : Nat) (e : Str × Int) (y : V) (H' : Hp) (R : VK), es[n]? = some e → ys[n]? = some y → Same H1 H' → (∀ H'', Same H' H'' → R y H'') → wipe (((wipe σ vs).set i (some (.str e.1))).set j (some (.int e.2))) vs = wipe σ vs ∧ te (((wipe σ vs).set i (some (.str e.1))).set j (some (.int e.2))) H' R)
    (hd : ∀ H', Same H1 H' → H' D = some (.lst ys) → Qd H') :
    ∃ W : Nat → Nat → Hp → Prop, (∃ m, W 0 m (L2.upd H1 D (.lst []))) ∧ ∀ i' m H, W i' m H →
      ((Itt K r).stop i' H ∧ Qd H) ∨ ((Itt K r).go i' H ∧ ∃ Nx : Hp → Prop, (∀ H', Nx H' → ∃ m', m' < m ∧ W (i' + 1) m' H') ∧ ∀ x H', (Itt K r).yld i' H x H' → gTup K 2 (gCons (gName i) (gCons (gName j) gNil)) x (wipe σ vs) H' fun σ2 H2 => wipe σ2 vs = wipe σ vs ∧ tYes σ2 H2 fun b H3 =>
        if b = true then te σ2 H3 fun y H4 => ∃ acc, H4 D = some (.lst acc) ∧ acc.length < sizeLine ∧ Nx (L2.upd H4 D (.lst (acc ++ [y]))) else Nx H3) := by
  refine lc_it (walk_tup (xs := as.map V.ref)) (fun i H => Same H1 H ∧ H D = some (.lst (ys.take i))) ⟨Same.upd hD, updS⟩ (fun i H _ p => sqT (p.1 _ _ hr)) (fun n x H H' hi p hyy => ?_) (fun H p => hd H p.1 (by rw [p.2, List.length_map, List.take_of_length_le (by omega)]))
  obtain ⟨rfl, hx⟩ := hyy
  rw [List.length_map] at hi
  rw [List.getElem?_map, List.getElem?_eq_getElem hi] at hx
  cases Option.some.inj hx
  have he : es[n]? = some (es[n]'(by omega)) := List.getElem?_eq_getElem _
  have hi2 : n < ys.length := by omega
  have hb := p.1 _ _ (ha n _ _ (List.getElem?_eq_getElem hi) he)
  obtain ⟨q1, q2⟩ := hs n _ ys[n] H' (fun y H4 => ∃ acc, H4 D = some (.lst acc) ∧ acc.length < sizeLine ∧ (Same H1 (L2.upd H4 D (.lst (acc ++ [y]))) ∧ L2.upd H4 D (.lst (acc ++ [y])) D = some (.lst (ys.take (n + 1))))) he (List.getElem?_eq_getElem hi2) p.1 (fun H'' s => ⟨_, s _ _ p.2, Nat.lt_of_le_of_lt (by rw [List.length_take]; omega : (ys.take n).length ≤ 100000) (by decide), Same.updI (Same.trans p.1 s) hD, by rw [updS, List.take_add_one, List.getElem?_eq_getElem hi2]; rfl⟩)
  exact ⟨_, _, rfl, sqT hb, rfl, _, _, rfl, _, _, rfl, rfl, q1, q2⟩
def sp_is_rows (_ : PySem.W.Frag) : Sp := fun vs H Q _ => ∃ (r : Addr) (rows : List Str), vs = [.ref r] ∧ H r = some (.tup (rows.map V.str)) ∧ rows.length ≤ 40 ∧ (∀ z ∈ rows, OkS z) ∧ ∀ H', Same H H' → Q (.bl true) H'
def sp_is_label (_ : PySem.W.Frag) : Sp := fun vs H Q _ => ∃ z : Str, vs = [.str z] ∧ OkLab z ∧ ∀ H', Same H H' → Q (.bl true) H'
def sp_is_entry (_ : PySem.W.Frag) : Sp := fun vs H Q _ => ∃ (b : Addr) (z : Str) (n : Int), vs = [.ref b] ∧ H b = some (.tup [.str z, .int n]) ∧ OkLab z ∧ ∀ H', Same H H' → Q (.bl true) H'
def sp_rises (_ : PySem.W.Frag) : Sp := fun vs H Q _ => ∃ (p : Addr) (xs : List V), vs = [.ref p] ∧ (H p = some (.lst xs) ∨ H p = some (.tup xs)) ∧ xs.length ≤ 100000 ∧ (∀ (i : Nat) (x y : V), xs[i]? = some x → xs[i + 1]? = some y → ltV x y) ∧ ∀ H', Same H H' → Q (.bl true) H'
def sp_is_entries (_ : PySem.W.Frag) : Sp := fun vs H Q _ => ∃ (r : Addr) (as : List Addr) (es : List (Str × Int)), vs = [.ref r] ∧ H r = some (.tup (as.map V.ref)) ∧ as.length = es.length ∧ (∀ (i : Nat) (b : Addr) (e : Str × Int), as[i]? = some b → es[i]? = some e → H b = some (.tup [.str e.1, .int e.2])) ∧ es.length ≤ 20 ∧ (∀ e ∈ es, OkLab e.1) ∧ (es.Pairwise fun a b => ltS a.1 b.1) ∧ ∀ H', Same H H' → Q (.bl true) H'
def sp_is_ints (_ : PySem.W.Frag) : Sp := fun vs H Q _ => ∃ (r : Addr) (ns : List Int), vs = [.ref r] ∧ H r = some (.tup (ns.map V.int)) ∧ ns.length ≤ 1000 ∧ ∀ H', Same H H' → Q (.bl true) H'
def sp_is_rising (_ : PySem.W.Frag) : Sp := fun vs H Q _ => ∃ (r : Addr) (ns : List Int), vs = [.ref r] ∧ H r = some (.tup (ns.map V.int)) ∧ ns.length ≤ 1000 ∧ ns.Pairwise (· < ·) ∧ ∀ H', Same H H' → Q (.bl true) H'
def sp_is_stamp (_ : PySem.W.Frag) : Sp := fun vs H Q _ => ∃ s : Int, vs = [.int s] ∧ 0 ≤ s ∧ s ≤ 1000000000000000000 ∧ Q (.bl true) H
def sp_is_version_form (_ : PySem.W.Frag) : Sp := fun vs H Q _ => ∃ (a : Addr) (ps : List Int) (r s : Int), vs = [.ref a] ∧ CtAt H a (.ver ps r s) ∧ (Ct.ver ps r s).form ∧ ∀ H', Same H H' → Q (.bl true) H'
def sp_is_content_form (_ : PySem.W.Frag) : Sp := fun vs H Q _ => ∃ (a : Addr) (c : Ct), vs = [.ref a] ∧ CtAt H a c ∧ c.form ∧ ∀ H', Same H H' → Q (.bl true) H'
section
variable {K : PySem.W.Frag} {vs : List V} {H : Hp} {Q : VK} {E : XK}
theorem len_is_rows (h : sp_is_rows K vs H Q E) : vs.length = 1 := by obtain ⟨_, _, rfl, _⟩ := h; rfl
theorem len_is_label (h : sp_is_label K vs H Q E) : vs.length = 1 := by obtain ⟨_, rfl, _⟩ := h; rfl
theorem len_is_entry (h : sp_is_entry K vs H Q E) : vs.length = 1 := by obtain ⟨_, _, _, rfl, _⟩ := h; rfl
theorem len_rises (h : sp_rises K vs H Q E) : vs.length = 1 := by obtain ⟨_, _, rfl, _⟩ := h; rfl
theorem len_is_entries (h : sp_is_entries K vs H Q E) : vs.length = 1 := by obtain ⟨_, _, _, rfl, _⟩ := h; rfl
theorem len_is_ints (h : sp_is_ints K vs H Q E) : vs.length = 1 := by obtain ⟨_, _, rfl, _⟩ := h; rfl
theorem len_is_rising (h : sp_is_rising K vs H Q E) : vs.length = 1 := by obtain ⟨_, _, rfl, _⟩ := h; rfl
theorem len_is_stamp (h : sp_is_stamp K vs H Q E) : vs.length = 1 := by obtain ⟨_, rfl, _⟩ := h; rfl
theorem len_is_version_form (h : sp_is_version_form K vs H Q E) : vs.length = 1 := by obtain ⟨_, _, _, _, rfl, _⟩ := h; rfl
theorem len_is_content_form (h : sp_is_content_form K vs H Q E) : vs.length = 1 := by obtain ⟨_, _, rfl, _⟩ := h; rfl
end
abbrev N_is_rows : List Str := ["thing", "row"]
def t_is_rows (K : PySem.W.Frag) : TS := (tRet (tAndV (tCB (rIsi K) (tCons (tVar 0) (tCons (tC (.ty "tuple")) tNil))) (tAndV (tOp rLeI (tCB (fLen K) (tCons (tVar 0) tNil)) (tC (.int 40))) (tCB (rAll K) (tCons (tLc (iTup K (tVar 0)) (gName 1) tYes (tCall (sp_is_row K) [] E0 (tCons (tVar 1) tNil)) [1]) tNil)))))
abbrev N_is_label : List Str := ["thing", "sign"]
def t_is_label (K : PySem.W.Frag) : TS := (tSeq (tIfS (tOr (tNot (tB (tCB (rIsi K) (tCons (tVar 0) (tCons (tC (.ty "str")) tNil))))) (tNot (tTest (tChain rLeI rLeI (tC (.int 1)) (tCB (fLen K) (tCons (tVar 0) tNil)) (tC (.int 8)))))) (tRet (tC (.bl false))) tNext)
    (tRet (tCB (rAll K) (tCons (tLc (iStr (tVar 0)) (gName 1) tYes (tChain rLeS rLeS (tC (.str "a")) (tVar 1) (tC (.str "z"))) [1]) tNil))))
abbrev N_is_entry : List Str := ["thing"]
def t_is_entry (K : PySem.W.Frag) : TS := (tRet (tAndV (tCall (sp_is_pairT K) [] E0 (tCons (tVar 0) tNil)) (tAndV (tCall (sp_is_label K) [] E0 (tCons (tOp (rIx K) (tVar 0) (tC (.int 0))) tNil)) (tCall (sp_is_intI K) [] E0 (tCons (tOp (rIx K) (tVar 0) (tC (.int 1))) tNil)))))
abbrev N_rises : List Str := ["things", "low", "high"]
def t_rises (K : PySem.W.Frag) : TS := (tRet (tCB (rAll K) (tCons (tLc (iZipA K (tCons (tVar 0) (tCons (tSl (rSlE K) (tVar 0) (tPart (tC (.int 1))) tNoPart) tNil))) (gTup K 2 (gCons (gName 1) (gCons (gName 2) gNil))) tYes (tOp fLtIS (tVar 1) (tVar 2)) [1, 2]) tNil)))
abbrev N_is_entries : List Str := ["thing", "entry"]
def t_is_entries (K : PySem.W.Frag) : TS := (tSeq (tIfS (tOr (tNot (tB (tCB (rIsi K) (tCons (tVar 0) (tCons (tC (.ty "tuple")) tNil))))) (tTest (tOp rGtI (tCB (fLen K) (tCons (tVar 0) tNil)) (tC (.int 20))))) (tRet (tC (.bl false))) tNext)
    (tRet (tAndV (tCB (rAll K) (tCons (tLc (iTup K (tVar 0)) (gName 1) tYes (tCall (sp_is_entry K) [] E0 (tCons (tVar 1) tNil)) [1]) tNil)) (tCall (sp_rises K) [] E0 (tCons (tLc (iTup K (tVar 0)) (gName 1) tYes (tOp (rIx K) (tVar 1) (tC (.int 0))) [1]) tNil)))))
abbrev N_is_ints : List Str := ["thing", "part"]
def t_is_ints (K : PySem.W.Frag) : TS := (tRet (tAndV (tCB (rIsi K) (tCons (tVar 0) (tCons (tC (.ty "tuple")) tNil))) (tCB (rAll K) (tCons (tLc (iTup K (tVar 0)) (gName 1) tYes (tCall (sp_is_intI K) [] E0 (tCons (tVar 1) tNil)) [1]) tNil))))
abbrev N_is_rising : List Str := ["thing"]
def t_is_rising (K : PySem.W.Frag) : TS := (tRet (tAndV (tCall (sp_is_ints K) [] E0 (tCons (tVar 0) tNil)) (tCall (sp_rises K) [] E0 (tCons (tVar 0) tNil))))
abbrev N_is_stamp : List Str := ["thing"]
def t_is_stamp (K : PySem.W.Frag) : TS := (tRet (tAndV (tCall (sp_is_intI K) [] E0 (tCons (tVar 0) tNil)) (tChain rLeI rLeI (tC (.int 0)) (tVar 0) (tC (.int 1000000000000000000)))))
abbrev N_is_version_form : List Str := ["thing"]
def t_is_version_form (K : PySem.W.Frag) : TS := (tSeq (tIfS (tOr (tTest (tOp rNe (tCB (fLen K) (tCons (tVar 0) tNil)) (tC (.int 4)))) (tNot (tB (tCall (sp_is_rising K) [] E0 (tCons (tOp (rIx K) (tVar 0) (tC (.int 1))) tNil))))) (tRet (tC (.bl false))) tNext)
    (tRet (tAndV (tOp rLeI (tCB (fLen K) (tCons (tOp (rIx K) (tVar 0) (tC (.int 1))) tNil)) (tC (.int 4))) (tAndV (tCall (sp_is_intI K) [] E0 (tCons (tOp (rIx K) (tVar 0) (tC (.int 2))) tNil)) (tCall (sp_is_stamp K) [] E0 (tCons (tOp (rIx K) (tVar 0) (tC (.int 3))) tNil))))))
abbrev N_is_content_form : List Str := ["thing"]
def t_is_content_form (K : PySem.W.Frag) : TS := (tSeq (tIfS (tOr (tNot (tB (tCB (rIsi K) (tCons (tVar 0) (tCons (tC (.ty "tuple")) tNil))))) (tTest (tOp rEq (tCB (fLen K) (tCons (tVar 0) tNil)) (tC (.int 0))))) (tRet (tC (.bl false))) tNext)
    (tSeq (tIfS (tTest (tOp rEq (tOp (rIx K) (tVar 0) (tC (.int 0))) (tC (.str "leaf")))) (tRet (tAndV (tOp rEq (tCB (fLen K) (tCons (tVar 0) tNil)) (tC (.int 2))) (tCall (sp_is_rows K) [] E0 (tCons (tOp (rIx K) (tVar 0) (tC (.int 1))) tNil)))) tNext)
    (tSeq (tIfS (tTest (tOp rEq (tOp (rIx K) (tVar 0) (tC (.int 0))) (tC (.str "tree")))) (tRet (tAndV (tOp rEq (tCB (fLen K) (tCons (tVar 0) tNil)) (tC (.int 2))) (tCall (sp_is_entries K) [] E0 (tCons (tOp (rIx K) (tVar 0) (tC (.int 1))) tNil)))) tNext)
    (tRet (tAndV (tOp rEq (tOp (rIx K) (tVar 0) (tC (.int 0))) (tC (.str "version"))) (tCall (sp_is_version_form K) [] E0 (tCons (tVar 0) tNil)))))))
theorem one_le {c d : Nat} (h : d ≤ c) : (!decide ((⟨#[c]⟩ : Str).cps.toList < (⟨#[d]⟩ : Str).cps.toList)) = true := by
  show (!decide ([c] < [d])) = true
  rw [decide_eq_false]
  · rfl
  · intro h2
    rcases List.cons_lt_cons_iff.mp h2 with h3 | h3
    · omega
    · exact absurd h3.2 (by decide)
theorem str_a : ("a" : Str) = ⟨#[97]⟩ := by decide +kernel
theorem str_z : ("z" : Str) = ⟨#[122]⟩ := by decide +kernel
theorem samN {H : Hp} {p : Addr} {o : HO} (n : H p = none) : Same H (upd H p o) := Same.upd n
section
variable {K : PySem.W.Frag} {vs : List V} {H : Hp} {Q : VK} {E : XK}
theorem pure_is_rows (h : sp_is_rows K vs H Q E) : t_is_rows K { nx := fun _ H' => Q .non H', rt := Q } (start N_is_rows vs) H := by
  obtain ⟨r, rows, rfl, hr, few, ok, k⟩ := h
  refine ⟨_, rfl, isi (.base (.tup hr)) k_tt ⟨_, rfl, iteT ⟨_, rfl, lenT hr ⟨_, _, rfl, rfl, _, rfl, ?_⟩⟩⟩⟩
  rw [decide_eq_true (show ((rows.map V.str).length : Int) ≤ 40 by rw [List.length_map]; omega)]
  refine iteT ⟨_, rfl, r, rfl, ⟨_, sqT hr⟩, fun L nL => ?_⟩
  refine lc_grow (walk_tup (xs := rows.map V.str)) yAt (ys := List.replicate (rows.map V.str).length (.bl true)) nL List.length_replicate (by rw [List.length_map]; omega) (fun H' s => sqT (s _ _ hr)) ?_ ?_
  · rintro i x y H' R hi ⟨_, hx⟩ hy s q
    rw [List.getElem?_map] at hx
    cases e : rows[i]? with
    | none => rw [e] at hx; cases hx
    | some z =>
      rw [e] at hx
      cases Option.some.inj hx
      refine ⟨rfl, _, rfl, z, rfl, ok z (List.mem_of_getElem? e), fun H'' s2 => ?_⟩
      rw [rep_get hy] at q
      exact q _ s2
  · intro H' s hL
    refine ⟨L, List.replicate (rows.map V.str).length true, rfl, sqL (by rw [hL, List.map_replicate]), ?_⟩
    rw [all_rep]
    exact k _ s
theorem pure_is_label (h : sp_is_label K vs H Q E) : t_is_label K { nx := fun _ H' => Q .non H', rt := Q } (start N_is_label vs) H := by
  obtain ⟨z, rfl, ⟨h1, h2, h3⟩, k⟩ := h
  have hz : z.length ≤ 1000 := by show z.cps.size ≤ 1000; omega
  refine ⟨_, rfl, isi (.base (.str z)) k_ss ⟨_, rfl, iteF ⟨_, rfl, lenS hz ⟨_, _, rfl, rfl, _, rfl, ?_⟩⟩⟩⟩
  rw [decide_eq_true (show (1 : Int) ≤ (z.length : Int) by show (1 : Int) ≤ (z.cps.size : Int); omega)]
  refine iteT ⟨_, _, rfl, rfl, _, rfl, ?_⟩
  rw [decide_eq_true (show (z.length : Int) ≤ 8 by show (z.cps.size : Int) ≤ 8; omega)]
  refine iteF ⟨_, rfl, z, rfl, fun L nL => ?_⟩
  refine lc_grow walk_str yStr (ys := List.replicate z.cps.size (.bl true)) nL List.length_replicate (by omega) (fun _ _ => True.intro) ?_ ?_
  · rintro i x y H' R hi ⟨_, c, hc, rfl⟩ hy s r
    have hm : c ∈ z.cps.toList := by obtain ⟨q1, q2⟩ := Array.getElem?_eq_some_iff.mp hc; rw [← q2]; exact Array.getElem_mem_toList q1
    obtain ⟨l1, l2⟩ := h3 c hm
    refine ⟨rfl, _, rfl, _, _, rfl, rfl, _, rfl, ?_⟩
    rw [str_a, one_le l1]
    refine iteT ⟨_, _, rfl, rfl, ?_⟩
    rw [str_z, one_le l2]
    rw [← rep_get hy]
    exact r _ (Same.refl _)
  · intro H' s hL
    refine ⟨L, List.replicate z.cps.size true, rfl, sqL (by rw [hL, List.map_replicate]), ?_⟩
    rw [all_rep]
    exact k _ s
theorem pure_is_entry (h : sp_is_entry K vs H Q E) : t_is_entry K { nx := fun _ H' => Q .non H', rt := Q } (start N_is_entry vs) H := by
  obtain ⟨b, z, n, rfl, hb, ok, k⟩ := h
  refine ⟨_, rfl, b, _, _, rfl, hb, _, rfl, iteT ⟨_, rfl, ixT hb rfl ⟨z, rfl, ok, fun H' s => ⟨_, rfl, iteT ⟨_, rfl, ixT (s _ _ hb) rfl ⟨n, rfl, k _ s⟩⟩⟩⟩⟩⟩
theorem pure_rises (h : sp_rises K vs H Q E) : t_rises K { nx := fun _ H' => Q .non H', rt := Q } (start N_rises vs) H := by
  obtain ⟨p, xs, rfl, hp, hz, hc, k⟩ := h
  have fin : ∀ {H1 H2 : Hp} {D : Addr}, Same H H1 → Same H1 H2 → H2 D = some (.lst (List.replicate (xs.length - 1) (.bl true))) → rAll K [V.ref D] H2 Q := fun {H1 H2 D} s1 s2 hD => by
    refine ⟨D, List.replicate (xs.length - 1) true, rfl, sqL (by rw [hD, List.map_replicate]), ?_⟩
    rw [all_rep]
    exact k _ (s1.trans s2)
  have step : ∀ {H1 H2 : Hp} {D T : Addr} {i : Nat} {x y : V} {Qn : Hp → Prop}, xs[i]? = some x → (xs.drop 1)[i]? = some y → Same H1 H2 ∧ H2 D = some (.lst (List.replicate i (.bl true))) → H1 D = none → H2 T = none → (∀ H', Same H1 H' → H' D = some (.lst (List.replicate (i + 1) (.bl true))) → Qn H') →
      gTup K 2 (gCons (gName 1) (gCons (gName 2) gNil)) (.ref T) (wipe (start N_rises [V.ref p]) [1, 2]) (upd H2 T (.tup [x, y])) fun σ2 H2 => wipe σ2 [1, 2] = wipe (start N_rises [V.ref p]) [1, 2] ∧ tYes σ2 H2 fun b H3 =>
        if b = true then tOp fLtIS (tVar 1) (tVar 2) σ2 H3 fun y H4 => ∃ acc, H4 D = some (.lst acc) ∧ acc.length < sizeLine ∧ Qn (upd H4 D (.lst (acc ++ [y]))) else Qn H3 := by
    intro H1 H2 D T i x y Qn hx hy s2 nD nT q
    rw [List.getElem?_drop, Nat.add_comm] at hy
    have hi := (List.getElem?_eq_some_iff.mp hy).1
    have nTD : D ≠ T := ne_of_none s2.2 nT
    have sT : Same H1 (upd H2 T (.tup [x, y])) := fun b o e => updN (ne_of_none (s2.1 _ _ e) nT) (s2.1 _ _ e)
    refine ⟨T, [x, y], rfl, sqT updS, rfl, x, [y], rfl, y, [], rfl, rfl, rfl, ?_⟩
    refine ⟨_, rfl, _, rfl, (hc i x y hx hy).run ⟨_, updN nTD s2.2, ?_, q _ (fun b o e => updN (ne_of_none e nD) (sT _ _ e)) ?_⟩⟩
    · refine Nat.lt_of_le_of_lt (?_ : _ ≤ 100000) (by decide)
      rw [List.length_replicate]
      omega
    · rw [updS, List.replicate_succ']
  rcases hp with hp | hp
  · refine ⟨_, rfl, _, rfl, _, rfl, .inr ⟨p, _, rfl, sqL hp, fun q nq => ?_⟩⟩
    rw [drop1]
    have s1 : Same H (upd H q (.lst (xs.drop 1))) := samN nq
    refine ⟨p, q, xs, _, rfl, .inl ⟨sqL (s1 _ _ hp), sqL updS, fun D nD => ?_⟩⟩
    have hq1 : upd H q (.lst (xs.drop 1)) q = some (.lst (xs.drop 1)) := updS
    have hp1 := s1 _ _ hp
    generalize upd H q (.lst (xs.drop 1)) = H1 at s1 hq1 hp1 nD ⊢
    exact lcz_lst (K := K) (a := p) (b := q) (xs := xs) (ys := xs.drop 1) (xs.length - 1) (by rw [List.length_drop]; omega) (fun i H2 => Same H1 H2 ∧ H2 D = some (.lst (List.replicate i (.bl true)))) ⟨samN nD, updS⟩ (fun i H2 s2 => ⟨sqL (s2.1 _ _ hp1), sqL (s2.1 _ _ hq1)⟩) (fun i x y T H2 hx hy s2 nT => step hx hy s2 nD nT fun H' a b => ⟨a, b⟩) (fun H2 s2 => fin s1 s2.1 s2.2)
  · have main : ∀ (q : Addr) (H1 : Hp), Same H H1 → H1 q = some (.tup (xs.drop 1)) → ∀ D, H1 D = none → ∃ W : Nat → Nat → Hp → Prop, (∃ m, W 0 m (upd H1 D (.lst []))) ∧ ∀ i m H, W i m H →
        ((ItzT K p q).stop i H ∧ tNil (start N_rises [V.ref p]) H fun ys H2 => rAll K (.ref D :: ys) H2 Q) ∨ ((ItzT K p q).go i H ∧ ∃ Nx : Hp → Prop, (∀ H', Nx H' → ∃ m', m' < m ∧ W (i + 1) m' H') ∧ ∀ x H', (ItzT K p q).yld i H x H' → gTup K 2 (gCons (gName 1) (gCons (gName 2) gNil)) x (wipe (start N_rises [V.ref p]) [1, 2]) H' fun σ2 H2 => wipe σ2 [1, 2] = wipe (start N_rises [V.ref p]) [1, 2] ∧ tYes σ2 H2 fun b H3 =>
          if b = true then tOp fLtIS (tVar 1) (tVar 2) σ2 H3 fun y H4 => ∃ acc, H4 D = some (.lst acc) ∧ acc.length < sizeLine ∧ Nx (upd H4 D (.lst (acc ++ [y]))) else Nx H3) := by
      intro q H1 sm hq D nD
      exact lcz_tup (K := K) (a := p) (b := q) (xs := xs) (ys := xs.drop 1) (xs.length - 1) (by rw [List.length_drop]; omega) (fun i H2 => Same H1 H2 ∧ H2 D = some (.lst (List.replicate i (.bl true)))) ⟨samN nD, updS⟩ (fun i H2 s2 => ⟨sqT (s2.1 _ _ (sm _ _ hp)), sqT (s2.1 _ _ hq)⟩) (fun i x y T H2 hx hy s2 nT => step hx hy s2 nD nT fun H' a b => ⟨a, b⟩) (fun H2 s2 => fin sm s2.1 s2.2)
    refine ⟨_, rfl, _, rfl, _, rfl, .inl ⟨p, xs, rfl, sqT hp, fun e => ?_, fun e q nq => ?_⟩⟩
    · have e0 : xs.drop 1 = xs := by
        have e1 := e.1
        rw [show HT.sIx xs.length 0 (some 1) = min 1 xs.length from HT.sIx_nat xs.length 0 1] at e1
        have : xs.length = 0 := by omega
        rw [List.eq_nil_of_length_eq_zero this]
        rfl
      exact ⟨p, p, xs, xs, rfl, .inr ⟨sqT hp, sqT hp, main p H (Same.refl H) (by rw [e0]; exact hp)⟩⟩
    · have s1 : Same H (upd H q (.tup (cutV xs (some 1) none))) := fun b o e => updN (ne_of_none e nq) e
      refine ⟨p, q, xs, _, rfl, .inr ⟨sqT (s1 _ _ hp), sqT updS, main q _ s1 ?_⟩⟩
      rw [updS, drop1]
theorem pure_is_entries (h : sp_is_entries K vs H Q E) : t_is_entries K { nx := fun _ H' => Q .non H', rt := Q } (start N_is_entries vs) H := by
  obtain ⟨r, as, es, rfl, hr, hl, ha, few, ok, pw, k⟩ := h
  refine ⟨_, rfl, isi (.base (.tup hr)) k_tt ⟨_, rfl, iteF ⟨_, rfl, lenT hr ⟨_, _, rfl, rfl, _, rfl, ?_⟩⟩⟩⟩
  rw [decide_eq_false (show ¬ (20 : Int) < ((as.map V.ref).length : Int) by rw [List.length_map]; omega)]
  refine iteF ⟨_, rfl, r, rfl, ⟨_, sqT hr⟩, fun L nL => ?_⟩
  refine lc_grow (walk_tup (xs := as.map V.ref)) yAt (ys := List.replicate (as.map V.ref).length (.bl true)) nL List.length_replicate (by rw [List.length_map]; omega) (fun H' s => sqT (s _ _ hr)) ?_ ?_
  · rintro i x y H' R hi ⟨_, hx⟩ hy s q
    rw [List.length_map] at hi
    rw [List.getElem?_map, List.getElem?_eq_getElem hi] at hx
    cases Option.some.inj hx
    have he : es[i]? = some (es[i]'(by omega)) := List.getElem?_eq_getElem _
    refine ⟨rfl, _, rfl, as[i], _, _, rfl, s _ _ (ha i _ _ (List.getElem?_eq_getElem hi) he), ok _ (List.mem_of_getElem? he), fun H'' s2 => ?_⟩
    rw [rep_get hy] at q
    exact q _ s2
  · intro H' s hL
    refine ⟨L, List.replicate (as.map V.ref).length true, rfl, sqL (by rw [hL, List.map_replicate]), ?_⟩
    rw [all_rep]
    refine ⟨_, rfl, iteT ⟨_, rfl, r, rfl, ⟨_, sqT (s _ _ hr)⟩, fun L2 nL2 => ?_⟩⟩
    refine lc_grow (walk_tup (xs := as.map V.ref)) yAt (ys := (es.map fun e => V.str e.1)) nL2 (by rw [List.length_map, List.length_map, hl]) (by rw [List.length_map]; omega) (fun H2 s2 => sqT (s2 _ _ (s _ _ hr))) ?_ ?_
    · rintro i x y H2 R hi ⟨_, hx⟩ hy s2 q
      rw [List.length_map] at hi
      rw [List.getElem?_map, List.getElem?_eq_getElem hi] at hx
      cases Option.some.inj hx
      have he : es[i]? = some (es[i]'(by omega)) := List.getElem?_eq_getElem _
      have hb := ha i _ _ (List.getElem?_eq_getElem hi) he
      rw [List.getElem?_map, he] at hy
      cases Option.some.inj hy
      exact ⟨rfl, _, rfl, ixT (s2 _ _ (s _ _ hb)) rfl (q _ (Same.refl _))⟩
    · intro H2 s2 hL2
      refine ⟨L2, _, rfl, .inl hL2, by rw [List.length_map]; omega, fun i x y hx hy => ?_, fun H3 s3 => k _ ((s.trans s2).trans s3)⟩
      rw [List.getElem?_map] at hx hy
      cases e1 : es[i]? with
      | none => rw [e1] at hx; cases hx
      | some a =>
        cases e2 : es[i + 1]? with
        | none => rw [e2] at hy; cases hy
        | some b =>
          rw [e1] at hx
          rw [e2] at hy
          cases Option.some.inj hx
          cases Option.some.inj hy
          obtain ⟨h1, e1⟩ := List.getElem?_eq_some_iff.mp e1
          obtain ⟨h2, e2⟩ := List.getElem?_eq_some_iff.mp e2
          have := List.pairwise_iff_getElem.mp pw i (i + 1) h1 h2 (Nat.lt_succ_self _)
          rw [e1, e2] at this
          exact this
theorem pure_is_ints (h : sp_is_ints K vs H Q E) : t_is_ints K { nx := fun _ H' => Q .non H', rt := Q } (start N_is_ints vs) H := by
  obtain ⟨r, ns, rfl, hr, few, k⟩ := h
  refine ⟨_, rfl, isi (.base (.tup hr)) k_tt ⟨_, rfl, iteT ⟨_, rfl, r, rfl, ⟨_, sqT hr⟩, fun L nL => ?_⟩⟩⟩
  refine lc_grow (walk_tup (xs := ns.map V.int)) yAt (ys := List.replicate (ns.map V.int).length (.bl true)) nL List.length_replicate (by rw [List.length_map]; omega) (fun H' s => sqT (s _ _ hr)) ?_ ?_
  · rintro i x y H' R hi ⟨_, hx⟩ hy s q
    rw [List.getElem?_map] at hx
    cases e : ns[i]? with
    | none => rw [e] at hx; cases hx
    | some z =>
      rw [e] at hx
      cases Option.some.inj hx
      refine ⟨rfl, _, rfl, z, rfl, ?_⟩
      rw [rep_get hy] at q
      exact q _ (Same.refl _)
  · intro H' s hL
    refine ⟨L, List.replicate (ns.map V.int).length true, rfl, sqL (by rw [hL, List.map_replicate]), ?_⟩
    rw [all_rep]
    exact k _ s
theorem pure_is_rising (h : sp_is_rising K vs H Q E) : t_is_rising K { nx := fun _ H' => Q .non H', rt := Q } (start N_is_rising vs) H := by
  obtain ⟨r, ns, rfl, hr, few, pw, k⟩ := h
  refine ⟨_, rfl, r, ns, rfl, hr, few, fun H' s => ⟨_, rfl, iteT ⟨_, rfl, r, ns.map V.int, rfl, .inr (s _ _ hr), by rw [List.length_map]; omega, fun i x y hx hy => ?_, fun H'' s2 => k _ (s.trans s2)⟩⟩⟩
  rw [List.getElem?_map] at hx hy
  cases e1 : ns[i]? with
  | none => rw [e1] at hx; cases hx
  | some a =>
    cases e2 : ns[i + 1]? with
    | none => rw [e2] at hy; cases hy
    | some b =>
      rw [e1] at hx
      rw [e2] at hy
      cases Option.some.inj hx
      cases Option.some.inj hy
      obtain ⟨h1, e1⟩ := List.getElem?_eq_some_iff.mp e1
      obtain ⟨h2, e2⟩ := List.getElem?_eq_some_iff.mp e2
      have := List.pairwise_iff_getElem.mp pw i (i + 1) h1 h2 (Nat.lt_succ_self _)
      rw [e1, e2] at this
      exact this
theorem pure_is_stamp (h : sp_is_stamp K vs H Q E) : t_is_stamp K { nx := fun _ H' => Q .non H', rt := Q } (start N_is_stamp vs) H := by
  obtain ⟨s, rfl, h0, h1, k⟩ := h
  refine ⟨_, rfl, s, rfl, _, rfl, iteT ⟨_, rfl, _, _, rfl, rfl, _, rfl, ?_⟩⟩
  rw [decide_eq_true h0]
  refine iteT ⟨_, _, rfl, rfl, ?_⟩
  exact blT (Q := Q) h1 k
theorem pure_is_version_form (h : sp_is_version_form K vs H Q E) : t_is_version_form K { nx := fun _ H' => Q .non H', rt := Q } (start N_is_version_form vs) H := by
  obtain ⟨a, ps, r, s, rfl, ⟨p, ha, hp⟩, ⟨f1, f2, f3, f4⟩, k⟩ := h
  refine ⟨_, rfl, lenT ha ⟨rfl, _, rfl, iteF ⟨_, rfl, ixT ha rfl ⟨p, ps, rfl, hp, by omega, f2, fun H' s1 => ⟨_, rfl, iteF ?_⟩⟩⟩⟩⟩
  refine ⟨_, rfl, ixT (s1 _ _ ha) rfl (lenT (s1 _ _ hp) ⟨_, _, rfl, rfl, _, rfl, ?_⟩)⟩
  rw [decide_eq_true (show ((ps.map V.int).length : Int) ≤ 4 by rw [List.length_map]; omega)]
  refine iteT ⟨_, rfl, ixT (s1 _ _ ha) rfl ⟨r, rfl, _, rfl, iteT ⟨_, rfl, ixT (s1 _ _ ha) rfl ⟨s, rfl, f3, f4, k _ s1⟩⟩⟩⟩
theorem pure_is_content_form (h : sp_is_content_form K vs H Q E) : t_is_content_form K { nx := fun _ H' => Q .non H', rt := Q } (start N_is_content_form vs) H := by
  obtain ⟨a, c, rfl, ha, f, k⟩ := h
  have ww : ∀ {x y : Str}, x ≠ y → decide (V.str x = V.str y) = false := fun {x y} h => decide_eq_false fun e => h (by injection e)
  cases c with
  | leaf rows =>
    obtain ⟨r, h1, h2⟩ := ha
    refine ⟨_, rfl, isi (.base (.tup h1)) k_tt ⟨_, rfl, iteF ⟨_, rfl, lenT h1 ⟨rfl, _, rfl, iteF ⟨_, rfl, ixT h1 rfl ⟨rfl, _, rfl, ?_⟩⟩⟩⟩⟩⟩
    rw [decide_eq_true rfl]
    refine iteT ⟨_, rfl, lenT h1 ⟨rfl, _, rfl, iteT ⟨_, rfl, ixT h1 rfl ⟨r, rows, rfl, h2, f.1, f.2, k⟩⟩⟩⟩
  | tree es =>
    obtain ⟨r, as, h1, h2, h3, h4⟩ := ha
    refine ⟨_, rfl, isi (.base (.tup h1)) k_tt ⟨_, rfl, iteF ⟨_, rfl, lenT h1 ⟨rfl, _, rfl, iteF ⟨_, rfl, ixT h1 rfl ⟨rfl, _, rfl, ?_⟩⟩⟩⟩⟩⟩
    rw [ww wv_lt.symm]
    refine iteF ⟨_, rfl, ixT h1 rfl ⟨rfl, _, rfl, ?_⟩⟩
    rw [decide_eq_true rfl]
    refine iteT ⟨_, rfl, lenT h1 ⟨rfl, _, rfl, iteT ⟨_, rfl, ixT h1 rfl ⟨r, as, es, rfl, h2, h3, h4, f.1, f.2.1, f.2.2, k⟩⟩⟩⟩
  | ver ps r s =>
    obtain ⟨p, h1, h2⟩ := id ha
    refine ⟨_, rfl, isi (.base (.tup h1)) k_tt ⟨_, rfl, iteF ⟨_, rfl, lenT h1 ⟨rfl, _, rfl, iteF ⟨_, rfl, ixT h1 rfl ⟨rfl, _, rfl, ?_⟩⟩⟩⟩⟩⟩
    rw [ww wv_lv.symm]
    refine iteF ⟨_, rfl, ixT h1 rfl ⟨rfl, _, rfl, ?_⟩⟩
    rw [ww wv_tv.symm]
    refine iteF ⟨_, rfl, ixT h1 rfl ⟨rfl, _, rfl, ?_⟩⟩
    rw [decide_eq_true rfl]
    exact iteT ⟨_, rfl, a, ps, r, s, rfl, ha, f, k⟩
end
end Fw

set_option Elab.async false
set_option linter.all false
set_option maxRecDepth 100000
set_option maxHeartbeats 4000000
/-! The book's methods, where nothing is refused. -/
namespace Fw
open PySem L2 RZ RT
section
variable [HasW]
def sp_Book_init (K : PySem.W.Frag) : Sp := fun vs H Q _ => ∃ (x dx : Addr), vs = [.ref x] ∧ BkC K ∧ H x = some (.ins (He.ga K "Book") dx []) ∧
  ∀ (b : BkA) (H' : Hp), b.B = x → (∀ a o, H a = some o → a ≠ x → H' a = some o) → H b.L = none → H b.E = none → H b.G = none → BkAt K H' b [] [] → Q .non H'
def sp_Book_len (K : PySem.W.Frag) : Sp := fun vs H Q _ => ∃ (b : BkA) (cs : List Ct) (as : List Addr), vs = [.ref b.B] ∧ BkAt K H b cs as ∧ Q (.int (cs.length : Nat)) H
def sp_Book_is_name (K : PySem.W.Frag) : Sp := fun vs H Q _ => ∃ (b : BkA) (cs : List Ct) (as : List Addr) (i : Int), vs = [.ref b.B, .int i] ∧ BkAt K H b cs as ∧ Q (.bl (decide (0 ≤ i) && decide (i < (cs.length : Nat)))) H
def sp_Book_thing (K : PySem.W.Frag) : Sp := fun vs H Q _ => ∃ (b : BkA) (cs : List Ct) (as : List Addr) (i : Nat) (a : Addr), vs = [.ref b.B, .int (i : Int)] ∧ BkAt K H b cs as ∧ as[i]? = some a ∧ Q (.ref a) H
def sp_Book_kind (K : PySem.W.Frag) : Sp := fun vs H Q _ => ∃ (b : BkA) (cs : List Ct) (as : List Addr) (i : Nat) (c : Ct), vs = [.ref b.B, .int (i : Int)] ∧ BkAt K H b cs as ∧ cs[i]? = some c ∧ Q (.str c.word) H
def sp_Book_parts (K : PySem.W.Frag) : Sp := fun vs H Q _ => ∃ (b : BkA) (cs : List Ct) (as : List Addr) (i : Nat) (c : Ct), vs = [.ref b.B, .int (i : Int)] ∧ BkAt K H b cs as ∧ cs[i]? = some c ∧
  ∀ (r : Addr) (H' : Hp), Same H H' → H' r = some (.tup (c.parts.map V.int)) → Q (.ref r) H'
def sp_Book_has_kinds (K : PySem.W.Frag) : Sp := fun vs H Q _ => ∃ (b : BkA) (cs : List Ct) (as : List Addr) (n q : Addr) (ns : List Int) (ks : List Str), vs = [.ref b.B, .ref n, .ref q] ∧ BkAt K H b cs as ∧ (H n = some (.lst (ns.map V.int)) ∨ H n = some (.tup (ns.map V.int))) ∧ ns.length ≤ 1000 ∧ H q = some (.tup (ks.map V.str)) ∧
  ∀ H', Same H H' → Q (.bl (ns.all (hasK cs ks))) H'
def sp_Book_depth (K : PySem.W.Frag) : Sp := fun vs H Q _ => ∃ (b : BkA) (ds : List Int) (a : Addr) (c : Ct), vs = [.ref b.B, .ref a] ∧ BkC K ∧ BO K H b ∧ H b.E = some (.lst (ds.map V.int)) ∧ CtAt H a c ∧ c.form ∧ (∀ es, c = .tree es → ∀ e ∈ es, 0 ≤ e.2 ∧ e.2.toNat < ds.length) ∧
  ∀ H', Same H H' → Q (.int (depOf ds c)) H'
def sp_Book_is_content (K : PySem.W.Frag) : Sp := fun vs H Q _ => ∃ (b : BkA) (cs : List Ct) (as : List Addr) (a : Addr) (c : Ct), vs = [.ref b.B, .ref a] ∧ BkAt K H b cs as ∧ CtAt H a c ∧ c.form ∧ ∀ H', Same H H' → Q (.bl (c.inB cs)) H'
def sp_Book_give_next (K : PySem.W.Frag) : Sp := fun vs H Q _ => ∃ (b : BkA) (cs : List Ct) (as : List Addr) (a : Addr) (c : Ct), vs = [.ref b.B, .ref a] ∧ BkAt K H b cs as ∧ CtAt H a c ∧ c.form ∧ c.inB cs = true ∧ c ∉ cs ∧ cs.length < 400 ∧
  ∀ H', Kb b H H' → BkAt K H' b (cs ++ [c]) (as ++ [a]) → Q .non H'
def sp_Book_named (K : PySem.W.Frag) : Sp := fun vs H Q _ => ∃ (b : BkA) (cs : List Ct) (as : List Addr) (a : Addr) (c : Ct), vs = [.ref b.B, .ref a] ∧ BkAt K H b cs as ∧ CtAt H a c ∧ c.form ∧ c.inB cs = true ∧ (c ∉ cs → cs.length < 400) ∧
  (∀ (i : Nat) (H' : Hp), cs[i]? = some c → Same H H' → Q (.int (i : Int)) H') ∧ (c ∉ cs → ∀ H', Kb b H H' → BkAt K H' b (cs ++ [c]) (as ++ [a]) → Q (.int (cs.length : Nat)) H')
def sp_Book_name_of (K : PySem.W.Frag) : Sp := fun vs H Q _ => ∃ (b : BkA) (cs : List Ct) (as : List Addr) (a : Addr) (c : Ct), vs = [.ref b.B, .ref a] ∧ BkAt K H b cs as ∧ CtAt H a c ∧ c.form ∧
  (∀ (i : Nat) (H' : Hp), cs[i]? = some c → Same H H' → Q (.int (i : Int)) H') ∧ (c ∉ cs → ∀ H', Same H H' → Q .non H')
end
section
variable [HasW] {K : PySem.W.Frag} {vs : List V} {H : Hp} {Q : VK} {E : XK}
theorem len_Book_init (h : sp_Book_init K vs H Q E) : vs.length = 1 := by obtain ⟨_, _, rfl, _⟩ := h; rfl
theorem len_Book_len (h : sp_Book_len K vs H Q E) : vs.length = 1 := by obtain ⟨_, _, _, rfl, _⟩ := h; rfl
theorem len_Book_is_name (h : sp_Book_is_name K vs H Q E) : vs.length = 2 := by obtain ⟨_, _, _, _, rfl, _⟩ := h; rfl
theorem len_Book_thing (h : sp_Book_thing K vs H Q E) : vs.length = 2 := by obtain ⟨_, _, _, _, _, rfl, _⟩ := h; rfl
theorem len_Book_kind (h : sp_Book_kind K vs H Q E) : vs.length = 2 := by obtain ⟨_, _, _, _, _, rfl, _⟩ := h; rfl
theorem len_Book_parts (h : sp_Book_parts K vs H Q E) : vs.length = 2 := by obtain ⟨_, _, _, _, _, rfl, _⟩ := h; rfl
theorem len_Book_has_kinds (h : sp_Book_has_kinds K vs H Q E) : vs.length = 3 := by obtain ⟨_, _, _, _, _, _, _, rfl, _⟩ := h; rfl
theorem len_Book_depth (h : sp_Book_depth K vs H Q E) : vs.length = 2 := by obtain ⟨_, _, _, _, rfl, _⟩ := h; rfl
theorem len_Book_is_content (h : sp_Book_is_content K vs H Q E) : vs.length = 2 := by obtain ⟨_, _, _, _, _, rfl, _⟩ := h; rfl
theorem len_Book_give_next (h : sp_Book_give_next K vs H Q E) : vs.length = 2 := by obtain ⟨_, _, _, _, _, rfl, _⟩ := h; rfl
theorem len_Book_named (h : sp_Book_named K vs H Q E) : vs.length = 2 := by obtain ⟨_, _, _, _, _, rfl, _⟩ := h; rfl
theorem len_Book_name_of (h : sp_Book_name_of K vs H Q E) : vs.length = 2 := by obtain ⟨_, _, _, _, _, rfl, _⟩ := h; rfl
end
section
variable [HasW]
abbrev N_Book_init : List Str := ["self"]
def t_Book_init (K : PySem.W.Frag) : TS := (tSeq (sFld K (tVar 0) (tLst tNil) "contents")
    (tSeq (sFld K (tVar 0) (tLst tNil) "depths")
    (sFld K (tVar 0) tNNew "given")))
abbrev N_Book_len : List Str := ["self"]
def t_Book_len (K : PySem.W.Frag) : TS := (tRet (tCB (fLen K) (tCons (tFld K (tVar 0) "contents") tNil)))
abbrev N_Book_is_name : List Str := ["self", "thing"]
def t_Book_is_name (K : PySem.W.Frag) : TS := (tRet (tAndV (tCall (sp_is_intI K) [] E0 (tCons (tVar 1) tNil)) (tChain rLeI rLtI (tC (.int 0)) (tVar 1) (tCB (fLen K) (tCons (tFld K (tVar 0) "contents") tNil)))))
abbrev N_Book_thing : List Str := ["self", "name"]
def t_Book_thing (K : PySem.W.Frag) : TS := (tSeq (tIfS (tNot (tB (tMeth (He.ga K "Book") "is_name" (sp_Book_is_name K) [] E0 (tVar 0) (tCons (tVar 1) tNil)))) tNever tNext)
    (tRet (tOp (rIx K) (tFld K (tVar 0) "contents") (tVar 1))))
abbrev N_Book_kind : List Str := ["self", "name"]
def t_Book_kind (K : PySem.W.Frag) : TS := (tRet (tOp (rIx K) (tMeth (He.ga K "Book") "thing" (sp_Book_thing K) [] E0 (tVar 0) (tCons (tVar 1) tNil)) (tC (.int 0))))
abbrev N_Book_parts : List Str := ["self", "name", "content", "label", "part"]
def t_Book_parts (K : PySem.W.Frag) : TS := (tSeq (tAsg (tMeth (He.ga K "Book") "thing" (sp_Book_thing K) [] E0 (tVar 0) (tCons (tVar 1) tNil)) (gName 2))
    (tSeq (tIfS (tTest (tOp rEq (tOp (rIx K) (tVar 2) (tC (.int 0))) (tC (.str "tree")))) (tRet (tCB (fTupleOf K) (tCons (tLc (iTup K (tOp (rIx K) (tVar 2) (tC (.int 1)))) (gTup K 2 (gCons (gName 3) (gCons (gName 4) gNil))) tYes (tVar 4) [3, 4]) tNil))) tNext)
    (tSeq (tIfS (tTest (tOp rEq (tOp (rIx K) (tVar 2) (tC (.int 0))) (tC (.str "version")))) (tRet (tOp (rCatA K) (tOp (rIx K) (tVar 2) (tC (.int 1))) (tTup (tCons (tOp (rIx K) (tVar 2) (tC (.int 2))) tNil)))) tNext)
    (tRet (tTup tNil)))))
abbrev N_Book_has_kinds : List Str := ["self", "names", "kinds", "name"]
def t_Book_has_kinds (K : PySem.W.Frag) : TS := (tRet (tCB (rAll K) (tCons (tLc (iOr (iList K (tVar 1)) (iTup K (tVar 1))) (gName 3) tYes (tAndV (tMeth (He.ga K "Book") "is_name" (sp_Book_is_name K) [] E0 (tVar 0) (tCons (tVar 3) tNil)) (tOp (rIn K false) (tOp (rIx K) (tOp (rIx K) (tFld K (tVar 0) "contents") (tVar 3)) (tC (.int 0))) (tVar 2))) [3]) tNil)))
abbrev N_Book_depth : List Str := ["self", "content", "label", "part"]
def t_Book_depth (K : PySem.W.Frag) : TS := (tSeq (tIfS (tTest (tOp rNe (tOp (rIx K) (tVar 1) (tC (.int 0))) (tC (.str "tree")))) (tRet (tC (.int 0))) tNext)
    (tRet (tOp rAddI (tC (.int 1)) (tCKw (rMaxD0 K) (tCons (tLc (iTup K (tOp (rIx K) (tVar 1) (tC (.int 1)))) (gTup K 2 (gCons (gName 2) (gCons (gName 3) gNil))) tYes (tOp (rIx K) (tFld K (tVar 0) "depths") (tVar 3)) [2, 3]) tNil) (tCons (tC (.int 0)) tNil)))))
abbrev N_Book_is_content : List Str := ["self", "thing", "label", "part"]
def t_Book_is_content (K : PySem.W.Frag) : TS := (tSeq (tIfS (tNot (tB (tCall (sp_is_content_form K) [] E0 (tCons (tVar 1) tNil)))) (tRet (tC (.bl false))) tNext)
    (tSeq (tIfS (tTest (tOp rEq (tOp (rIx K) (tVar 1) (tC (.int 0))) (tC (.str "tree")))) (tRet (tAndV (tMeth (He.ga K "Book") "has_kinds" (sp_Book_has_kinds K) [] E0 (tVar 0) (tCons (tLc (iTup K (tOp (rIx K) (tVar 1) (tC (.int 1)))) (gTup K 2 (gCons (gName 2) (gCons (gName 3) gNil))) tYes (tVar 3) [2, 3]) (tCons (tTup (tCons (tC (.str "leaf")) (tCons (tC (.str "tree")) tNil))) tNil))) (tOp rLeI (tMeth (He.ga K "Book") "depth" (sp_Book_depth K) [] E0 (tVar 0) (tCons (tVar 1) tNil)) (tC (.int 8))))) tNext)
    (tSeq (tIfS (tTest (tOp rEq (tOp (rIx K) (tVar 1) (tC (.int 0))) (tC (.str "version")))) (tRet (tAndV (tMeth (He.ga K "Book") "has_kinds" (sp_Book_has_kinds K) [] E0 (tVar 0) (tCons (tOp (rIx K) (tVar 1) (tC (.int 1))) (tCons (tTup (tCons (tC (.str "version")) tNil)) tNil))) (tMeth (He.ga K "Book") "has_kinds" (sp_Book_has_kinds K) [] E0 (tVar 0) (tCons (tLst (tCons (tOp (rIx K) (tVar 1) (tC (.int 2))) tNil)) (tCons (tTup (tCons (tC (.str "tree")) tNil)) tNil))))) tNext)
    (tRet (tC (.bl true))))))
abbrev N_Book_give_next : List Str := ["self", "content"]
def t_Book_give_next (K : PySem.W.Frag) : TS := (tSeq (tIfS (tTest (tOp rGeI (tCB (fLen K) (tCons (tFld K (tVar 0) "contents") tNil)) (tC (.int 400)))) tNever tNext)
    (tSeq (sNPut (tFld K (tVar 0) "given") (tVar 1) (tCB (fLen K) (tCons (tFld K (tVar 0) "contents") tNil)))
    (tSeq (tDrop (tBM K "list" rAppend (tFld K (tVar 0) "depths") (tCons (tMeth (He.ga K "Book") "depth" (sp_Book_depth K) [] E0 (tVar 0) (tCons (tVar 1) tNil)) tNil)))
    (tDrop (tBM K "list" rAppend (tFld K (tVar 0) "contents") (tCons (tVar 1) tNil))))))
abbrev N_Book_named : List Str := ["self", "content"]
def t_Book_named (K : PySem.W.Frag) : TS := (tSeq (tIfS (tNot (tB (tMeth (He.ga K "Book") "is_content" (sp_Book_is_content K) [] E0 (tVar 0) (tCons (tVar 1) tNil)))) tNever tNext)
    (tSeq (tIfS (tB (tNNotIn (tVar 1) (tFld K (tVar 0) "given"))) (tDrop (tMeth (He.ga K "Book") "give_next" (sp_Book_give_next K) [] E0 (tVar 0) (tCons (tVar 1) tNil))) tNext)
    (tRet (tNGet (tFld K (tVar 0) "given") (tVar 1)))))
abbrev N_Book_name_of : List Str := ["self", "thing"]
def t_Book_name_of (K : PySem.W.Frag) : TS := (tRet (tIf (tB (tMeth (He.ga K "Book") "is_content" (sp_Book_is_content K) [] E0 (tVar 0) (tCons (tVar 1) tNil))) (tNGet1 (tFld K (tVar 0) "given") (tVar 1)) (tC .non)))
end
theorem strD {x y : Str} : decide (V.str x = V.str y) = decide (x = y) := by
  by_cases h : x = y
  · rw [h, decide_eq_true rfl, decide_eq_true rfl]
  · rw [decide_eq_false h, decide_eq_false fun e => h (by injection e)]
theorem strN {x y : Str} (h : x ≠ y) : decide (V.str x = V.str y) = false := decide_eq_false fun e => h (by injection e)
theorem eqV_str (x y : Str) : eqV (.str x) (.str y) = (y == x) := by
  show (x == y) = (y == x)
  by_cases h : x = y
  · rw [h]
  · rw [beq_eq_false_iff_ne.mpr h, beq_eq_false_iff_ne.mpr fun e => h e.symm]
theorem inV_strs (w : Str) : ∀ ns : List Str, inV (.str w) (ns.map V.str) = ns.contains w
  | [] => rfl
  | n :: r => by
    have ih := inV_strs w r
    unfold inV at ih ⊢
    rw [List.map_cons, List.any_cons, ih, List.contains_cons, eqV_str]
theorem flat_strs : ∀ ns : List Str, (ns.map V.str).all flatV = true
  | [] => rfl
  | n :: r => by rw [List.map_cons, List.all_cons, flat_strs r]; rfl
theorem CtAt.fst {K : PySem.W.Frag} {H : Hp} {a : Addr} {c : Ct} {Q : VK} (h : CtAt H a c) (q : Q (.str c.word) H) : rIx K (.ref a) (.int 0) H Q := by
  cases c with
  | leaf rows => obtain ⟨r, h1, h2⟩ := h; exact ixT h1 rfl q
  | tree es => obtain ⟨r, as, h1, h2⟩ := h; exact ixT h1 rfl q
  | ver ps r s => obtain ⟨r, h1, h2⟩ := h; exact ixT h1 rfl q
theorem BkAt.lenC [HasW] {K : PySem.W.Frag} {H : Hp} {b : BkA} {cs : List Ct} {as : List Addr} {Q : VK} {σ : L2.St} {i : Nat} (k : BkAt K H b cs as) (e : σ[i]? = some (some (.ref b.B))) (q : Q (.int (cs.length : Nat)) H) : tCB (fLen K) (tCons (tFld K (tVar i) "contents") tNil) σ H Q :=
  k.fL e (show tNil σ H fun ys H2 => fLen K (.ref b.L :: ys) H2 Q from lenL k.hL (by rw [List.length_map, k.at_.1]; exact q))
theorem dmax_eq (l : List Int) : dmax l = maxD 0 l := by cases l <;> rfl
theorem BO.fE {K : PySem.W.Frag} {H : Hp} {b : BkA} {Q : VK} {σ : L2.St} {i : Nat} (bc : BkC K) (o : BO K H b) (e : σ[i]? = some (some (.ref b.B))) (q : Q (.ref b.E) H) : tFld K (tVar i) "depths" σ H Q := by
  obtain ⟨dx, fs, hx, h1, h2, h3, h4⟩ := o
  exact ⟨_, e, b.B, _, dx, fs, _, rfl, hx, bc.cl, bc.n2, h2, q⟩
theorem BO.fL {K : PySem.W.Frag} {H : Hp} {b : BkA} {Q : VK} {σ : L2.St} {i : Nat} (bc : BkC K) (o : BO K H b) (e : σ[i]? = some (some (.ref b.B))) (q : Q (.ref b.L) H) : tFld K (tVar i) "contents" σ H Q := by
  obtain ⟨dx, fs, hx, h1, h2, h3, h4⟩ := o
  exact ⟨_, e, b.B, _, dx, fs, _, rfl, hx, bc.cl, bc.n1, h1, q⟩
theorem BO.me {K : PySem.W.Frag} {H : Hp} {b : BkA} {Q : VK} {σ : L2.St} {i : Nat} {m : Str} {sp : Sp} {E : XK} {ta : TA} (o : BO K H b) (hm : m ∈ (["named", "name_of", "thing", "kind", "parts", "parents", "root", "stamp", "entries", "leaf_rows", "is_name", "is_version", "is_content", "has_kinds", "depth", "give_next"] : List Str)) (e : σ[i]? = some (some (.ref b.B))) (q : ta σ H fun vs H2 => sp (.ref b.B :: (vs ++ [])) H2 Q E) : tMeth (He.ga K "Book") m sp [] E (tVar i) ta σ H Q := by
  obtain ⟨dx, fs, hx, h1, h2, h3, h4⟩ := o
  exact ⟨_, e, b.B, dx, fs, rfl, hx, h4 m hm, q⟩
theorem ints_all : ∀ (ns : List Int) (p : Int → Bool), ((ns.map fun n => p n).all id) = ns.all p
  | [], _ => rfl
  | n :: ns, p => by rw [List.map_cons, List.all_cons, List.all_cons, ints_all ns p]; rfl
section
variable [HasW] {K : PySem.W.Frag} {vs : List V} {H : Hp} {Q : VK} {E : XK}
theorem pure_Book_init (h : sp_Book_init K vs H Q E) : t_Book_init K { nx := fun _ H' => Q .non H', rt := Q } (start N_Book_init vs) H := by
  obtain ⟨x, dx, rfl, bc, hx, k⟩ := h
  refine ⟨by decide, fun L nL => ?_⟩
  have nxL : x ≠ L := ne_of_none hx nL
  refine ⟨_, rfl, x, _, dx, _, rfl, updN nxL hx, bc.cl, bc.n1, by decide, ?_⟩
  refine ⟨by decide, fun E0 nE => ?_⟩
  have nE0 : H E0 = none := by
    by_cases e : E0 = x
    · rw [e, updS] at nE; cases nE
    · rw [upd_ne e] at nE
      by_cases e2 : E0 = L
      · rw [e2, updS] at nE; cases nE
      · rw [upd_ne e2] at nE; exact nE
  have nxE : x ≠ E0 := ne_of_none hx nE0
  have nLE : L ≠ E0 := by
    intro e
    rw [← e, updN nxL.symm updS] at nE
    cases nE
  refine ⟨_, rfl, x, _, dx, _, rfl, updN nxE updS, bc.cl, bc.n2, by show (1 : Nat) < 1000; decide, ?_⟩
  refine fun G nG => ?_
  have nxG : x ≠ G := by intro e; rw [← e, updS] at nG; cases nG
  have nEG : E0 ≠ G := by intro e; rw [← e, updN nxE.symm updS] at nG; cases nG
  have nLG : L ≠ G := by intro e; rw [← e, updN nxL.symm (updN nLE (updN nxL.symm updS))] at nG; cases nG
  have nG0 : H G = none := by
    rw [upd_ne nxG.symm, upd_ne nEG.symm, upd_ne nxG.symm, upd_ne nLG.symm] at nG
    exact nG
  refine ⟨_, rfl, x, _, dx, _, rfl, updN nxG updS, bc.cl, bc.n3, by show (2 : Nat) < 1000; decide, ?_⟩
  refine k ⟨x, L, E0, G⟩ _ rfl (fun a o e n => updN n (updN (ne_of_none e nG0) (updN n (updN (ne_of_none e nE0) (updN n (updN (ne_of_none e nL) e)))))) nL nE0 nG0 ?_
  refine ⟨bc, ⟨dx, _, updS, rfl, rfl, rfl, ?_⟩, updN nxL.symm (updN nLG (updN nxL.symm (updN nLE (updN nxL.symm updS)))), updN nxE.symm (updN nEG (updN nxE.symm updS)), updN nxG.symm updS, CsAt.nil, List.nodup_nil, Nat.zero_le _, (fun c h => nomatch h), nLE⟩
  intro m hm
  simp only [List.mem_cons, List.not_mem_nil, or_false] at hm
  rcases hm with rfl | rfl | rfl | rfl | rfl | rfl | rfl | rfl | rfl | rfl | rfl | rfl | rfl | rfl | rfl | rfl <;> rfl
theorem pure_Book_len (h : sp_Book_len K vs H Q E) : t_Book_len K { nx := fun _ H' => Q .non H', rt := Q } (start N_Book_len vs) H := by
  obtain ⟨b, cs, as, rfl, bk, k⟩ := h
  exact bk.lenC rfl k
theorem pure_Book_is_name (h : sp_Book_is_name K vs H Q E) : t_Book_is_name K { nx := fun _ H' => Q .non H', rt := Q } (start N_Book_is_name vs) H := by
  obtain ⟨b, cs, as, i, rfl, bk, k⟩ := h
  refine ⟨_, rfl, i, rfl, _, rfl, iteT ⟨_, rfl, _, _, rfl, rfl, _, rfl, ?_⟩⟩
  by_cases h : (0 : Int) ≤ i
  · rw [decide_eq_true h] at k ⊢
    exact iteT (bk.lenC rfl ⟨_, _, rfl, rfl, k⟩)
  · rw [decide_eq_false h] at k ⊢
    exact iteF k
theorem pure_Book_thing (h : sp_Book_thing K vs H Q E) : t_Book_thing K { nx := fun _ H' => Q .non H', rt := Q } (start N_Book_thing vs) H := by
  obtain ⟨b, cs, as, i, a, rfl, bk, hi, k⟩ := h
  have hl := (List.getElem?_eq_some_iff.mp hi).1
  refine bk.me (by decide) rfl ⟨_, rfl, b, cs, as, _, rfl, bk, _, rfl, ?_⟩
  rw [decide_eq_true (show (0 : Int) ≤ (i : Int) by omega), decide_eq_true (show (i : Int) < (cs.length : Nat) by rw [← bk.at_.1]; omega)]
  obtain ⟨dx, fs, hx, h1, _⟩ := id bk.bo
  exact iteF ⟨_, rfl, b.B, _, dx, fs, _, rfl, hx, bk.bc.cl, bk.bc.n1, h1, _, rfl, ixL bk.hL (atI_nat (by rw [List.getElem?_map, hi]; rfl)) k⟩
theorem pure_Book_kind (h : sp_Book_kind K vs H Q E) : t_Book_kind K { nx := fun _ H' => Q .non H', rt := Q } (start N_Book_kind vs) H := by
  obtain ⟨b, cs, as, i, c, rfl, bk, hi, k⟩ := h
  obtain ⟨a, ha, hc⟩ := bk.at_.get hi
  exact bk.me (by decide) rfl ⟨_, rfl, b, cs, as, i, a, rfl, bk, ha, hc.fst k⟩
theorem pure_Book_parts (h : sp_Book_parts K vs H Q E) : t_Book_parts K { nx := fun _ H' => Q .non H', rt := Q } (start N_Book_parts vs) H := by
  obtain ⟨b, cs, as, i, c, rfl, bk, hi, k⟩ := h
  obtain ⟨a, ha, hc⟩ := bk.at_.get hi
  have fo := (bk.ok c (List.mem_of_getElem? hi)).1
  refine bk.me (by decide) rfl ⟨_, rfl, b, cs, as, i, a, rfl, bk, ha, ?_⟩
  refine ⟨_, rfl, hc.fst ⟨rfl, _, rfl, ?_⟩⟩
  cases c with
  | tree es =>
    obtain ⟨r, bs, h1, h2, h3, h4⟩ := hc
    have hz : es.length ≤ 20 := fo.1
    rw [show decide (V.str (Ct.tree es).word = V.str "tree") = true from decide_eq_true rfl]
    refine iteT ⟨_, rfl, ixT h1 rfl ⟨r, rfl, ⟨_, sqT h2⟩, fun L nL => ?_⟩⟩
    refine lc_pairs (ys := es.map fun e => V.int e.2) nL h2 h3 (by omega) (by rw [List.length_map]) h4 ?_ ?_
    · intro n e y H' R he hy s q
      rw [List.getElem?_map, he] at hy
      cases Option.some.inj hy
      exact ⟨rfl, _, rfl, q _ (Same.refl _)⟩
    · intro H' s hL
      refine ⟨L, _, rfl, .inl ⟨sqL hL, fun p np => k p _ (s.trans (samN np)) ?_⟩⟩
      rw [updS]
      show some (HO.tup (es.map fun e => V.int e.2)) = some (HO.tup ((es.map (·.2)).map V.int))
      rw [List.map_map]
      rfl
  | leaf rows =>
    obtain ⟨r, h1, h2⟩ := hc
    rw [show decide (V.str (Ct.leaf rows).word = V.str "tree") = false from strN wv_lt]
    refine iteF ⟨_, rfl, ixT h1 rfl ⟨rfl, _, rfl, ?_⟩⟩
    rw [strN wv_lv]
    exact iteF ⟨by show (0 : Nat) ≤ sizeLine; decide, fun p np => k p _ (samN np) updS⟩
  | ver ps r s =>
    obtain ⟨q, h1, h2⟩ := hc
    rw [show decide (V.str (Ct.ver ps r s).word = V.str "tree") = false from strN wv_tv.symm]
    refine iteF ⟨_, rfl, ixT h1 rfl ⟨rfl, _, rfl, ?_⟩⟩
    rw [decide_eq_true rfl]
    refine iteT ⟨_, rfl, ixT h1 rfl ⟨_, rfl, ixT h1 rfl ⟨by show (1 : Nat) ≤ sizeLine; decide, fun T nT => ?_⟩⟩⟩
    have hq := samN (o := .tup [.int r]) nT _ _ h2
    have e : ps.map V.int ++ [V.int r] = (Ct.ver ps r s).parts.map V.int := by
      show _ = (ps ++ [r]).map V.int
      rw [List.map_append]
      rfl
    have hz : ps.length ≤ 4 := fo.1
    refine ⟨q, T, _, _, rfl, rfl, sqT hq, sqT updS, ?_, fun e0 => ?_, fun _ z => (by cases z), fun _ _ p np => k p _ ((samN nT).trans (samN np)) (by rw [updS, e])⟩
    · rw [List.length_map]
      exact Nat.le_trans (show _ ≤ 1000 by rw [List.length_singleton]; omega) (by decide)
    · refine k T _ (samN nT) ?_
      rw [updS, ← e, e0]
      rfl
theorem pure_Book_has_kinds (h : sp_Book_has_kinds K vs H Q E) : t_Book_has_kinds K { nx := fun _ H' => Q .non H', rt := Q } (start N_Book_has_kinds vs) H := by
  obtain ⟨b, cs, as, n, q, ns, ks, rfl, bk, hn, hz, hq, k⟩ := h
  have step : ∀ (i : Nat) (x y : V) (H' : Hp) (R : VK), (ns.map V.int)[i]? = some x → (ns.map fun i => V.bl (hasK cs ks i))[i]? = some y → Same H H' → (∀ H'', Same H' H'' → R y H'') →
      tAndV (tMeth (He.ga K "Book") "is_name" (sp_Book_is_name K) [] E0 (tVar 0) (tCons (tVar 3) tNil)) (tOp (rIn K false) (tOp (rIx K) (tOp (rIx K) (tFld K (tVar 0) "contents") (tVar 3)) (tC (.int 0))) (tVar 2)) [some (.ref b.B), some (.ref n), some (.ref q), some x] H' R := by
    intro i x y H' R hx hy s r
    rw [List.getElem?_map] at hx hy
    cases e : ns[i]? with
    | none => rw [e] at hx; cases hx
    | some j =>
      rw [e] at hx hy
      cases Option.some.inj hx
      cases Option.some.inj hy
      have bk' := bk.same s
      refine bk'.me (by decide) rfl ⟨_, rfl, b, cs, as, j, rfl, bk', _, rfl, ?_⟩
      have r : ∀ H'', Same H' H'' → R (.bl (hasK cs ks j)) H'' := r
      unfold hasK at r
      by_cases h0 : (0 : Int) ≤ j
      · by_cases h1 : j < (cs.length : Nat)
        · rw [decide_eq_true h0, decide_eq_true h1] at r ⊢
          obtain ⟨m, rfl⟩ := Int.eq_ofNat_of_zero_le h0
          have hm : m < cs.length := by omega
          obtain ⟨a, ha, hc⟩ := bk'.at_.get (List.getElem?_eq_getElem hm)
          obtain ⟨dx, fs, hx, hf1, _⟩ := id bk'.bo
          refine iteT ⟨_, rfl, b.B, _, dx, fs, _, rfl, hx, bk.bc.cl, bk.bc.n1, hf1, _, rfl, ixL bk'.hL (atI_nat (by rw [List.getElem?_map, ha]; rfl)) (hc.fst ⟨_, rfl, q, _, rfl, .inr (sqT (s _ _ hq)), rfl, flat_strs _, ?_⟩)⟩
          rw [inV_strs]
          have e2 : (cs.getD (Int.toNat (m : Int)) (.leaf [])) = cs[m] := by
            rw [Int.toNat_natCast, List.getD_eq_getElem?_getD, List.getElem?_eq_getElem hm]
            rfl
          rw [e2] at r
          exact r _ (Same.refl _)
        · rw [decide_eq_true h0, decide_eq_false h1] at r ⊢
          exact iteF (r _ (Same.refl _))
      · rw [decide_eq_false h0] at r ⊢
        exact iteF (r _ (Same.refl _))
  have fin : ∀ (H' : Hp) (L : Addr), Same H H' → H' L = some (.lst (ns.map fun i => V.bl (hasK cs ks i))) → rAll K [V.ref L] H' Q := fun H' L s hL => by
    refine ⟨L, ns.map (hasK cs ks), rfl, sqL (by rw [hL, List.map_map]; rfl), ?_⟩
    rw [show (ns.map (hasK cs ks)).all id = ns.all (hasK cs ks) from ints_all ns _]
    exact k _ s
  rcases hn with hn | hn
  · refine .inl ⟨_, rfl, n, rfl, ⟨_, sqL hn⟩, fun L nL => ?_⟩
    refine lc_grow (walk_list (xs := ns.map V.int)) yAt (ys := ns.map fun i => V.bl (hasK cs ks i)) nL (by rw [List.length_map, List.length_map]) (by rw [List.length_map]; omega) (fun H' s => sqL (s _ _ hn)) ?_ ?_
    · rintro i x y H' R hi ⟨_, hx⟩ hy s r
      exact ⟨rfl, step i x y H' R hx hy s r⟩
    · intro H' s hL
      exact fin H' L s hL
  · refine .inr ⟨_, rfl, n, rfl, ⟨_, sqT hn⟩, fun L nL => ?_⟩
    refine lc_grow (walk_tup (xs := ns.map V.int)) yAt (ys := ns.map fun i => V.bl (hasK cs ks i)) nL (by rw [List.length_map, List.length_map]) (by rw [List.length_map]; omega) (fun H' s => sqT (s _ _ hn)) ?_ ?_
    · rintro i x y H' R hi ⟨_, hx⟩ hy s r
      exact ⟨rfl, step i x y H' R hx hy s r⟩
    · intro H' s hL
      exact fin H' L s hL
theorem pure_Book_depth (h : sp_Book_depth K vs H Q E) : t_Book_depth K { nx := fun _ H' => Q .non H', rt := Q } (start N_Book_depth vs) H := by
  obtain ⟨b, ds, a, c, rfl, bc, bo, hE, hc, fo, hp, k⟩ := h
  refine ⟨_, rfl, hc.fst ⟨rfl, _, rfl, ?_⟩⟩
  cases c with
  | leaf rows =>
    rw [show decide (V.str (Ct.leaf rows).word = V.str "tree") = false from strN wv_lt]
    exact iteT (k _ (Same.refl _))
  | ver ps r s =>
    rw [show decide (V.str (Ct.ver ps r s).word = V.str "tree") = false from strN wv_tv.symm]
    exact iteT (k _ (Same.refl _))
  | tree es =>
    obtain ⟨r, bs, h1, h2, h3, h4⟩ := hc
    have hz : es.length ≤ 20 := fo.1
    rw [show decide (V.str (Ct.tree es).word = V.str "tree") = true from decide_eq_true rfl]
    refine iteF ⟨_, rfl, ixT h1 rfl ⟨r, rfl, ⟨_, sqT h2⟩, fun L nL => ?_⟩⟩
    refine lc_pairs (ys := es.map fun e => V.int (ds.getD e.2.toNat 0)) nL h2 h3 (by omega) (by rw [List.length_map]) h4 ?_ ?_
    · intro n e y H' R he hy s q
      rw [List.getElem?_map, he] at hy
      cases Option.some.inj hy
      obtain ⟨p0, p1⟩ := hp es rfl e (List.mem_of_getElem? he)
      obtain ⟨m, hm⟩ := Int.eq_ofNat_of_zero_le p0
      rw [hm, Int.toNat_natCast] at p1
      have bo' : BO K H' b := by
        obtain ⟨dx, fs, hb, r⟩ := bo
        exact ⟨dx, fs, s _ _ hb, r⟩
      refine ⟨rfl, bo'.fE bc rfl ⟨_, rfl, ?_⟩⟩
      rw [hm]
      refine ixL (s _ _ hE) (atI_nat (by rw [List.getElem?_map, List.getElem?_eq_getElem p1]; rfl)) ?_
      have : R (.int (ds.getD e.2.toNat 0)) H' := q _ (Same.refl _)
      rw [hm, Int.toNat_natCast, List.getD_eq_getElem?_getD, List.getElem?_eq_getElem p1] at this
      exact this
    · intro H' s hL
      refine ⟨L, es.map fun e => ds.getD e.2.toNat 0, 0, rfl, rfl, sqL (by rw [hL, List.map_map]; rfl), _, _, rfl, rfl, ?_⟩
      rw [← dmax_eq]
      exact k _ s
theorem pure_Book_is_content (h : sp_Book_is_content K vs H Q E) : t_Book_is_content K { nx := fun _ H' => Q .non H', rt := Q } (start N_Book_is_content vs) H := by
  obtain ⟨b, cs, as, a, c, rfl, bk, hc, fo, k⟩ := h
  refine ⟨_, rfl, a, c, rfl, hc, fo, fun H1 s1 => ⟨_, rfl, iteF ?_⟩⟩
  have bk1 := bk.same s1
  have hc1 := hc.mono (TM.of s1)
  refine ⟨_, rfl, hc1.fst ⟨rfl, _, rfl, ?_⟩⟩
  cases c with
  | leaf rows =>
    rw [show decide (V.str (Ct.leaf rows).word = V.str "tree") = false from strN wv_lt]
    refine iteF ⟨_, rfl, hc1.fst ⟨rfl, _, rfl, ?_⟩⟩
    rw [show decide (V.str (Ct.leaf rows).word = V.str "version") = false from strN wv_lv]
    exact iteF (k _ s1)
  | tree es =>
    obtain ⟨r, bs, h1, h2, h3, h4⟩ := id hc1
    have hz : es.length ≤ 20 := fo.1
    rw [show decide (V.str (Ct.tree es).word = V.str "tree") = true from decide_eq_true rfl]
    refine iteT (bk1.me (by decide) rfl ⟨_, rfl, ixT h1 rfl ⟨r, rfl, ⟨_, sqT h2⟩, fun L nL => ?_⟩⟩)
    refine lc_pairs (ys := es.map fun e => V.int e.2) nL h2 h3 (by omega) (by rw [List.length_map]) h4 ?_ ?_
    · intro n e y H' R he hy s q
      rw [List.getElem?_map, he] at hy
      cases Option.some.inj hy
      exact ⟨rfl, _, rfl, q _ (Same.refl _)⟩
    · intro H2 s2 hL
      refine ⟨by show (2 : Nat) ≤ sizeLine; decide, fun T nT => ?_⟩
      have s3 : Same H1 (upd H2 T (.tup [.str "leaf", .str "tree"])) := s2.trans (samN nT)
      have bk3 := bk1.same s3
      refine ⟨b, cs, as, L, T, es.map (·.2), ["leaf", "tree"], rfl, bk3, .inl (samN nT _ _ (by rw [hL, List.map_map]; rfl)), by rw [List.length_map]; omega, updS, fun H4 s4 => ⟨_, rfl, ?_⟩⟩
      have s5 := s3.trans s4
      have bk5 := bk1.same s5
      have eA : (es.map (·.2)).all (hasK cs ["leaf", "tree"]) = es.all fun e => hasK cs ["leaf", "tree"] e.2 := by rw [List.all_map]; rfl
      have kk : ∀ H', Same H H' → Q (.bl (es.all (fun e => hasK cs ["leaf", "tree"] e.2) && decide (depOf (deps cs) (.tree es) ≤ 8))) H' := k
      rw [eA]
      cases hA : es.all (fun e => hasK cs ["leaf", "tree"] e.2) with
      | false =>
        refine iteF ?_
        have := kk _ (s1.trans s5)
        rw [hA] at this
        exact this
      | true =>
        refine iteT (bk5.bo.me (by decide) rfl ⟨_, rfl, b, deps cs, a, .tree es, rfl, bk5.bc, bk5.bo, bk5.hE, hc1.mono (TM.of s5), fo, fun es' e' e he => ?_, fun H6 s6 => ⟨_, _, rfl, rfl, ?_⟩⟩)
        · cases e'
          have := hasK_lt (List.all_eq_true.mp hA e he)
          rw [deps_len]
          exact this
        · have := kk _ (s1.trans (s5.trans s6))
          rw [hA] at this
          exact this
  | ver ps r s =>
    obtain ⟨p, h1, h2⟩ := id hc1
    have hz : ps.length ≤ 4 := fo.1
    rw [show decide (V.str (Ct.ver ps r s).word = V.str "tree") = false from strN wv_tv.symm]
    refine iteF ⟨_, rfl, hc1.fst ⟨rfl, _, rfl, ?_⟩⟩
    rw [show decide (V.str (Ct.ver ps r s).word = V.str "version") = true from decide_eq_true rfl]
    refine iteT (bk1.me (by decide) rfl ⟨_, rfl, ixT h1 rfl ⟨by show (1 : Nat) ≤ sizeLine; decide, fun T nT => ?_⟩⟩)
    have s2 : Same H1 (upd H1 T (.tup [.str "version"])) := samN nT
    have bk2 := bk1.same s2
    refine ⟨b, cs, as, p, T, ps, ["version"], rfl, bk2, .inr (s2 _ _ h2), by omega, updS, fun H3 s3 => ⟨_, rfl, ?_⟩⟩
    have s13 := s2.trans s3
    have bk3 := bk1.same s13
    have kk : ∀ H', Same H H' → Q (.bl (ps.all (hasK cs ["version"]) && hasK cs ["tree"] r)) H' := k
    cases hA : ps.all (hasK cs ["version"]) with
    | false =>
      refine iteF ?_
      have := kk _ (s1.trans s13)
      rw [hA] at this
      exact this
    | true =>
      refine iteT (bk3.me (by decide) rfl ⟨_, rfl, ixT (s13 _ _ h1) rfl ⟨by show (1 : Nat) ≤ sizeLine; decide, fun L nL => ⟨by show (1 : Nat) ≤ sizeLine; decide, fun T2 nT2 => ?_⟩⟩⟩)
      have s4 : Same H3 (upd (upd H3 L (.lst [.int r])) T2 (.tup [.str "tree"])) := (samN nL).trans (samN nT2)
      have bk4 := bk3.same s4
      refine ⟨b, cs, as, L, T2, [r], ["tree"], rfl, bk4, .inl (samN nT2 _ _ updS), by show (1 : Nat) ≤ 1000; decide, updS, fun H5 s5 => ?_⟩
      have := kk _ (s1.trans (s13.trans (s4.trans s5)))
      rw [hA] at this
      rw [List.all_cons, List.all_nil, Bool.and_true]
      exact this
theorem pure_Book_give_next (h : sp_Book_give_next K vs H Q E) : t_Book_give_next K { nx := fun _ H' => Q .non H', rt := Q } (start N_Book_give_next vs) H := by
  obtain ⟨b, cs, as, a, c, rfl, bk, hc, fo, inb, new, few, k⟩ := h
  refine bk.lenC rfl ⟨_, _, rfl, rfl, _, rfl, ?_⟩
  rw [decide_eq_false (show ¬ (400 : Int) ≤ ((cs.length : Nat) : Int) by omega)]
  refine iteF ?_
  refine bk.lenC (σ := [some (.ref b.B), some (.ref a)]) (i := 0) rfl ?_
  refine bk.fG (σ := [some (.ref b.B), some (.ref a)]) (i := 0) rfl ⟨_, rfl, b.G, _, rfl, ⟨ents 0 cs as, c.key, a, bk.hG, ents_keys 0 cs as bk.at_, rfl, hc.nkey, c.depth, ?_, rfl⟩, ?_⟩
  · exact Nat.lt_of_le_of_lt (Nat.le_trans (ents_len 0 cs as) bk.few) (by decide)
  rw [nPut_new (ents_none 0 cs as new)]
  have eS := ents_snoc 0 cs as c a bk.at_.1
  rw [Nat.zero_add] at eS
  rw [← eS]
  have kb1 : Kb b H (upd H b.G (ND b.G (ents 0 (cs ++ [c]) (as ++ [a])))) := Kb.refl.up (.inr (.inr rfl))
  have tm1 : TM H (upd H b.G (ND b.G (ents 0 (cs ++ [c]) (as ++ [a])))) := bk.tup kb1
  have bo1 := bk.boK kb1
  have hL1 : upd H b.G (ND b.G (ents 0 (cs ++ [c]) (as ++ [a]))) b.L = some (.lst (as.map V.ref)) := updN bk.neG.1 bk.hL
  have hE1 : upd H b.G (ND b.G (ents 0 (cs ++ [c]) (as ++ [a]))) b.E = some (.lst ((deps cs).map V.int)) := updN bk.neG.2 bk.hE
  have hG1 : upd H b.G (ND b.G (ents 0 (cs ++ [c]) (as ++ [a]))) b.G = some (ND b.G (ents 0 (cs ++ [c]) (as ++ [a]))) := updS
  generalize upd H b.G (ND b.G (ents 0 (cs ++ [c]) (as ++ [a]))) = H1 at kb1 tm1 bo1 hL1 hE1 hG1 ⊢
  obtain ⟨dx1, fs1, hx1, _, hf2, _, hf4⟩ := id bo1
  refine ⟨_, rfl, b.B, _, dx1, fs1, _, rfl, hx1, bk.bc.cl, bk.bc.n2, hf2, .inl ⟨rfl, _, sqL hE1⟩, _, rfl, b.B, dx1, fs1, rfl, hx1, hf4 "depth" (by decide), ⟨_, rfl, b, deps cs, a, c, rfl, bk.bc, bo1, hE1, hc.mono tm1, fo, fun es e' e he => ?_, fun H2 s2 => ?_⟩⟩
  · subst e'
    unfold Ct.inB at inb
    rw [Bool.and_eq_true] at inb
    have := hasK_lt (List.all_eq_true.mp inb.1 e he)
    rw [deps_len]
    exact this
  have lenD : ((deps cs).map V.int).length < sizeLine := by
    rw [List.length_map, deps_len]
    exact Nat.lt_of_le_of_lt bk.few (by decide)
  refine ⟨b.E, _, _, rfl, rfl, s2 _ _ hE1, lenD, ?_⟩
  have kb3 : Kb b H (upd H2 b.E (.lst ((deps cs).map V.int ++ [.int (depOf (deps cs) c)]))) := (kb1.trans (.same s2)).up (.inr (.inl rfl))
  have bo3 := bk.boK kb3
  obtain ⟨dx3, fs3, hx3, hg1, _⟩ := id bo3
  refine ⟨_, rfl, b.B, _, dx3, fs3, _, rfl, hx3, bk.bc.cl, bk.bc.n1, hg1, .inl ⟨rfl, _, sqL (updN bk.ne (s2 _ _ hL1))⟩, _, rfl, b.L, _, _, rfl, rfl, updN bk.ne (s2 _ _ hL1), ?_, ?_⟩
  · rw [List.length_map, bk.at_.1]
    exact Nat.lt_of_le_of_lt bk.few (by decide)
  have kb4 : Kb b H (upd (upd H2 b.E (.lst ((deps cs).map V.int ++ [.int (depOf (deps cs) c)]))) b.L (.lst (as.map V.ref ++ [.ref a]))) := kb3.up (.inl rfl)
  refine k _ kb4 ⟨bk.bc, bk.boK kb4, ?_, ?_, ?_, (bk.at_.mono (bk.tup kb4)).snoc (hc.mono (bk.tup kb4)), ?_, ?_, ?_, bk.ne⟩
  · rw [updS, List.map_append]
    rfl
  · rw [upd_ne bk.ne.symm, updS, deps_snoc, List.map_append]
    rfl
  · exact updN bk.neG.1.symm (updN bk.neG.2.symm (s2 _ _ hG1))
  · rw [List.nodup_append]
    exact ⟨bk.nd, by simp, fun x hx y hy e => new (by rw [List.mem_singleton.mp hy] at e; rw [← e]; exact hx)⟩
  · rw [List.length_append, List.length_singleton]
    omega
  · intro d hd
    rcases List.mem_append.mp hd with hd | hd
    · exact ⟨(bk.ok d hd).1, Ct.inB_mono (bk.ok d hd).2⟩
    · cases List.mem_singleton.mp hd
      exact ⟨fo, Ct.inB_mono inb⟩
theorem pure_Book_named (h : sp_Book_named K vs H Q E) : t_Book_named K { nx := fun _ H' => Q .non H', rt := Q } (start N_Book_named vs) H := by
  obtain ⟨b, cs, as, a, c, rfl, bk, hc, fo, inb, few, k1, k2⟩ := h
  refine bk.me (by decide) rfl ⟨_, rfl, b, cs, as, a, c, rfl, bk, hc, fo, fun H1 s1 => ⟨_, rfl, ?_⟩⟩
  rw [inb]
  have bk1 := bk.same s1
  have hc1 := hc.mono (TM.of s1)
  refine iteF ⟨_, rfl, bk1.fG rfl ⟨b.G, _, rfl, ⟨_, c.key, a, bk1.hG, ents_keys 0 cs as bk1.at_, rfl, hc1.nkey, c.depth, rfl⟩, _, rfl, ?_⟩⟩
  by_cases hm : c ∈ cs
  · obtain ⟨i, hi⟩ := List.mem_iff_getElem?.mp hm
    have e := ents_some 0 cs as bk.at_.1 bk.nd hi
    rw [e]
    refine iteF ?_
    show tNGet (tFld K (tVar 0) "given") (tVar 1) [some (.ref b.B), some (.ref a)] H1 Q
    refine bk1.fG rfl ⟨_, rfl, b.G, _, rfl, ⟨_, c.key, a, bk1.hG, ents_keys 0 cs as bk1.at_, rfl, hc1.nkey, c.depth, e.symm⟩, ?_⟩
    rw [Nat.zero_add]
    exact k1 i _ hi s1
  · rw [ents_none 0 cs as hm]
    refine iteT (bk1.me (by decide) rfl ⟨_, rfl, b, cs, as, a, c, rfl, bk1, hc1, fo, inb, hm, few hm, fun H2 kb2 bk2 => ?_⟩)
    have hc2 := hc1.mono (bk1.tup kb2)
    have e := ents_some 0 (cs ++ [c]) (as ++ [a]) bk2.at_.1 bk2.nd (i := cs.length) (c := c) (by rw [List.getElem?_append_right (Nat.le_refl _), Nat.sub_self]; rfl)
    show tNGet (tFld K (tVar 0) "given") (tVar 1) [some (.ref b.B), some (.ref a)] H2 Q
    refine bk2.fG rfl ⟨_, rfl, b.G, _, rfl, ⟨_, c.key, a, bk2.hG, ents_keys 0 _ _ bk2.at_, rfl, hc2.nkey, c.depth, e.symm⟩, ?_⟩
    rw [Nat.zero_add]
    exact k2 hm _ (Kb.trans (.same s1) kb2) bk2
theorem pure_Book_name_of (h : sp_Book_name_of K vs H Q E) : t_Book_name_of K { nx := fun _ H' => Q .non H', rt := Q } (start N_Book_name_of vs) H := by
  obtain ⟨b, cs, as, a, c, rfl, bk, hc, fo, k1, k2⟩ := h
  refine bk.me (by decide) rfl ⟨_, rfl, b, cs, as, a, c, rfl, bk, hc, fo, fun H1 s1 => ⟨_, rfl, ?_⟩⟩
  have bk1 := bk.same s1
  have hc1 := hc.mono (TM.of s1)
  cases hb : c.inB cs with
  | false => exact iteF (k2 (fun hm => by rw [(bk.ok c hm).2] at hb; cases hb) _ s1)
  | true =>
    refine iteT (bk1.fG rfl ⟨b.G, _, rfl, bk1.hG, _, rfl, _, ⟨_, c.key, a, bk1.hG, ents_keys 0 cs as bk1.at_, rfl, hc1.nkey, c.depth, rfl⟩, ?_⟩)
    by_cases hm : c ∈ cs
    · obtain ⟨i, hi⟩ := List.mem_iff_getElem?.mp hm
      rw [ents_some 0 cs as bk.at_.1 bk.nd hi, Nat.zero_add]
      exact k1 i _ hi s1
    · rw [ents_none 0 cs as hm]
      exact k2 hm _ s1
end
end Fw

set_option Elab.async false
set_option linter.all false
set_option maxRecDepth 100000
set_option maxHeartbeats 4000000
/-! Contents as data. -/
namespace Fw
open PySem L2 RZ RT
abbrev enD (e : Str × Int) : PyData := .tuple [.str e.1, .int e.2]
def Ct.data : Ct → PyData
  | .leaf rows => .tuple [.str "leaf", .tuple (rows.map PyData.str)]
  | .tree es => .tuple [.str "tree", .tuple (es.map enD)]
  | .ver ps r s => .tuple [.str "version", .tuple (ps.map PyData.int), .int r, .int s]
theorem dp_strsC {K : PySem.W.Frag} {H : Hp} : ∀ zs : List Str, DpAll K H (zs.map V.str) (zs.map PyData.str)
  | [] => .nil
  | z :: zs => .cons (.str z) (dp_strsC zs)
theorem dp_entsC {K : PySem.W.Frag} {H : Hp} : ∀ (as : List Addr) (es : List (Str × Int)), as.length = es.length → (∀ (i : Nat) (b : Addr) (e : Str × Int), as[i]? = some b → es[i]? = some e → H b = some (.tup [.str e.1, .int e.2])) → DpAll K H (as.map V.ref) (es.map enD)
  | [], [], _, _ => .nil
  | [], _ :: _, h, _ => by simp at h
  | _ :: _, [], h, _ => by simp at h
  | a :: as, e :: es, h, f => .cons (.tup (sqT (f 0 a e rfl rfl)) (.cons (.str _) (.cons (.int _) .nil))) (dp_entsC as es (by simpa using h) fun i b e' h1 h2 => f (i + 1) b e' (by simpa using h1) (by simpa using h2))
theorem CtAt.dp {K : PySem.W.Frag} {H : Hp} {a : Addr} {c : Ct} (h : CtAt H a c) : Dp K H (.ref a) c.data := by
  cases c with
  | leaf rows =>
    obtain ⟨r, h1, h2⟩ := h
    exact .tup (sqT h1) (.cons (.str _) (.cons (.tup (sqT h2) (dp_strsC rows)) .nil))
  | tree es =>
    obtain ⟨r, as, h1, h2, h3, h4⟩ := h
    exact .tup (sqT h1) (.cons (.str _) (.cons (.tup (sqT h2) (dp_entsC as es h3 h4)) .nil))
  | ver ps r s =>
    obtain ⟨r, h1, h2⟩ := h
    exact .tup (sqT h1) (.cons (.str _) (.cons (.tup (sqT h2) (dp_intsD ps)) (.cons (.int _) (.cons (.int _) .nil))))
theorem dp_contents {K : PySem.W.Frag} {H : Hp} : ∀ (as : List Addr) (cs : List Ct), CsAt H as cs → DpAll K H (as.map V.ref) (cs.map Ct.data)
  | [], [], _ => .nil
  | [], _ :: _, h => by have := h.1; simp at this
  | _ :: _, [], h => by have := h.1; simp at this
  | a :: as, c :: cs, h => .cons (h.2 0 a c rfl rfl).dp (dp_contents as cs ⟨by simpa using h.1, fun i b d h1 h2 => h.2 (i + 1) b d (by simpa using h1) (by simpa using h2)⟩)
theorem okS_str {z : Str} (h : ∀ c ∈ z.cps.toList, c ≤ 126) : PyData.strOk z = true := by
  unfold PyData.strOk
  rw [← Array.all_toList, List.all_eq_true]
  intro c hc
  have := h c hc
  exact decide_eq_true (by omega)
theorem lay_strs : ∀ zs : List Str, (∀ z ∈ zs, PyData.strOk z = true) → PyData.canLayAll0 (zs.map PyData.str) = true
  | [], _ => rfl
  | z :: zs, h => by
    show (PyData.strOk z && PyData.canLayAll0 (zs.map PyData.str)) = true
    rw [h z List.mem_cons_self, lay_strs zs fun y hy => h y (List.mem_cons_of_mem _ hy)]
    rfl
theorem lay_ents : ∀ es : List (Str × Int), (∀ e ∈ es, PyData.strOk e.1 = true) → PyData.canLayAll0 (es.map enD) = true
  | [], _ => rfl
  | e :: es, h => by
    show ((PyData.strOk e.1 && true) && PyData.canLayAll0 (es.map enD)) = true
    rw [h e List.mem_cons_self, lay_ents es fun y hy => h y (List.mem_cons_of_mem _ hy)]
    rfl
theorem lay_intsC : ∀ ns : List Int, PyData.canLayAll0 (ns.map PyData.int) = true
  | [] => rfl
  | _ :: ns => lay_intsC ns
theorem dep_flatC {f : α → PyData} (h : ∀ a, (f a).depth ≤ 1) : ∀ l : List α, PyData.depthAll (l.map f) ≤ 1
  | [] => Nat.zero_le _
  | a :: l => by
    show max (PyData.depth (f a)) (PyData.depthAll (l.map f)) ≤ 1
    have := h a
    have := dep_flatC h l
    omega
theorem Ct.form_lay {c : Ct} (h : c.form) : c.data.canLay0 = true := by
  cases c with
  | leaf rows =>
    show (PyData.strOk "leaf" && (PyData.canLayAll0 (rows.map PyData.str) && true)) = true
    rw [lay_strs rows fun z hz => okS_str fun c hc => ((h.2 z hz).2 c hc).2.1]
    decide +kernel
  | tree es =>
    show (PyData.strOk "tree" && (PyData.canLayAll0 (es.map enD) && true)) = true
    rw [lay_ents es fun e he => okS_str fun c hc => Nat.le_trans ((h.2.1 e he).2.2 c hc).2 (by decide)]
    decide +kernel
  | ver ps r s =>
    show (PyData.strOk "version" && (PyData.canLayAll0 (ps.map PyData.int) && true)) = true
    rw [lay_intsC]
    decide +kernel
theorem Ct.data_depth (c : Ct) : c.data.depth ≤ 3 := by
  cases c with
  | leaf rows =>
    have := dep_flatC (f := PyData.str) (fun z => by show (0 : Nat) ≤ 1; decide) rows
    show max 0 (max (PyData.depthAll (rows.map PyData.str) + 1) 0) + 1 ≤ 3
    omega
  | tree es =>
    have := dep_flatC (f := enD) (fun z => by show max 0 (max 0 0) + 1 ≤ 1; decide) es
    show max 0 (max (PyData.depthAll (es.map enD) + 1) 0) + 1 ≤ 3
    omega
  | ver ps r s =>
    have := dep_flatC (f := PyData.int) (fun z => by show (0 : Nat) ≤ 1; decide) ps
    show max 0 (max (PyData.depthAll (ps.map PyData.int) + 1) (max 0 (max 0 0))) + 1 ≤ 3
    omega
theorem Ct.shaped {c : Ct} (h : c.form) : SeqAt.shaped c.data = true := by
  have := c.data_depth
  show (c.data.canLay0 && decide (c.data.depth ≤ 64)) = true
  rw [Ct.form_lay h, decide_eq_true (show c.data.depth ≤ 64 by omega)]
  rfl
theorem lay_contents : ∀ cs : List Ct, (∀ c ∈ cs, c.form) → PyData.canLayAll0 (cs.map Ct.data) = true
  | [], _ => rfl
  | c :: cs, h => by
    show (c.data.canLay0 && PyData.canLayAll0 (cs.map Ct.data)) = true
    rw [Ct.form_lay (h c List.mem_cons_self), lay_contents cs fun y hy => h y (List.mem_cons_of_mem _ hy)]
    rfl
theorem dep_contents : ∀ cs : List Ct, PyData.depthAll (cs.map Ct.data) ≤ 3
  | [] => Nat.zero_le _
  | c :: cs => by
    show max c.data.depth (PyData.depthAll (cs.map Ct.data)) ≤ 3
    have := c.data_depth
    have := dep_contents cs
    omega
theorem shaped_contents {cs : List Ct} (h : ∀ c ∈ cs, c.form) : SeqAt.shaped (.list (cs.map Ct.data)) = true := by
  have := dep_contents cs
  show (PyData.canLayAll0 (cs.map Ct.data) && decide (PyData.depthAll (cs.map Ct.data) + 1 ≤ 64)) = true
  rw [lay_contents cs h, decide_eq_true (by omega)]
  rfl
theorem eqv_strs : ∀ a b : List Str, PyData.eqvAll (a.map PyData.str) (b.map PyData.str) = decide (a = b)
  | [], [] => rfl
  | [], _ :: _ => rfl
  | _ :: _, [] => rfl
  | x :: a, y :: b => by
    show (x == y && PyData.eqvAll (a.map PyData.str) (b.map PyData.str)) = _
    rw [eqv_strs a b]
    by_cases h : x = y
    · by_cases h2 : a = b
      · simp [h, h2]
      · simp [h, h2]
    · simp [h]
theorem eqv_intsC : ∀ a b : List Int, PyData.eqvAll (a.map PyData.int) (b.map PyData.int) = decide (a = b)
  | [], [] => rfl
  | [], _ :: _ => rfl
  | _ :: _, [] => rfl
  | x :: a, y :: b => by
    show (x == y && PyData.eqvAll (a.map PyData.int) (b.map PyData.int)) = _
    rw [eqv_intsC a b]
    by_cases h : x = y
    · by_cases h2 : a = b
      · simp [h, h2]
      · simp [h, h2]
    · simp [h]
theorem eqv_ents : ∀ a b : List (Str × Int), PyData.eqvAll (a.map enD) (b.map enD) = decide (a = b)
  | [], [] => rfl
  | [], _ :: _ => rfl
  | _ :: _, [] => rfl
  | x :: a, y :: b => by
    show ((x.1 == y.1 && (x.2 == y.2 && true)) && PyData.eqvAll (a.map enD) (b.map enD)) = _
    rw [eqv_ents a b]
    obtain ⟨x1, x2⟩ := x
    obtain ⟨y1, y2⟩ := y
    by_cases h : x1 = y1
    · by_cases h2 : x2 = y2
      · by_cases h3 : a = b
        · simp [h, h2, h3]
        · simp [h, h2, h3]
      · simp [h, h2]
    · simp [h]
theorem eqv_hd {x y : Str} (h : x ≠ y) (xs ys : List PyData) : PyData.eqv (.tuple (.str x :: xs)) (.tuple (.str y :: ys)) = false := by
  show (x == y && PyData.eqvAll xs ys) = false
  rw [beq_eq_false_iff_ne.mpr h]
  rfl
theorem Ct.eqv (c d : Ct) : PyData.eqv c.data d.data = decide (c = d) := by
  cases c with
  | leaf a =>
    cases d with
    | leaf b =>
      show (("leaf" : Str) == "leaf" && (PyData.eqvAll (a.map PyData.str) (b.map PyData.str) && true)) = _
      rw [eqv_strs]
      simp
    | tree b => rw [decide_eq_false (by simp)]; exact eqv_hd wv_lt _ _
    | ver p r s => rw [decide_eq_false (by simp)]; exact eqv_hd wv_lv _ _
  | tree a =>
    cases d with
    | tree b =>
      show (("tree" : Str) == "tree" && (PyData.eqvAll (a.map enD) (b.map enD) && true)) = _
      rw [eqv_ents]
      simp
    | leaf b => rw [decide_eq_false (by simp)]; exact eqv_hd wv_lt.symm _ _
    | ver p r s => rw [decide_eq_false (by simp)]; exact eqv_hd wv_tv _ _
  | ver p r s =>
    cases d with
    | ver p2 r2 s2 =>
      show (("version" : Str) == "version" && (PyData.eqvAll (p.map PyData.int) (p2.map PyData.int) && (r == r2 && (s == s2 && true)))) = _
      rw [eqv_intsC]
      by_cases h1 : p = p2 <;> by_cases h2 : r = r2 <;> by_cases h3 : s = s2 <;> simp [h1, h2, h3]
    | leaf b => rw [decide_eq_false (by simp)]; exact eqv_hd wv_lv.symm _ _
    | tree b => rw [decide_eq_false (by simp)]; exact eqv_hd wv_tv.symm _ _
theorem units65b {k : Nat} {A : Around} (r : Room k A) : A.units + 65 < cLine := by have := r.un; omega
end Fw

set_option Elab.async false
set_option linter.all false
set_option maxRecDepth 100000
set_option maxHeartbeats 4000000
/-! What the laws draw for a book: labels, rows, entries, names. -/
namespace Fw
open PySem L2 RZ RT
def fInsert : V → List V → Hp → VK → Prop := fun x vs H Q => ∃ (l : Addr) (xs : List V) (i : Int) (y : V), x = .ref l ∧ vs = [.int i, y] ∧ H l = some (.lst xs) ∧ xs.length < sizeLine ∧ 0 ≤ i ∧ i < 2 ^ 63 ∧ Q .non (upd H l (.lst (xs.take i.toNat ++ [y] ++ xs.drop i.toNat)))
abbrev sp_l_alike (K : PySem.W.Frag) : Sp := sp_same2N K 6
abbrev N_l_alike : List Str := ["_law_found", "_law_due", "_law_k"]
def t_l_alike_loop (K : PySem.W.Frag) (n : Nat) : TS := (tSeq (tIfS (tTest (tOp rNe (tCB (fLen K) (tCons (tVar 0) tNil)) (tCB (fLen K) (tCons (tVar 1) tNil)))) (tRet (tC (.bl false))) tNext)
    (tSeq (tFor (iRng1 (tCons (tCB (fLen K) (tCons (tVar 1) tNil)) tNil)) (gName 2) (tIfS (tNot (tB (tCall (sp_same2N K n) [] E0 (tCons (tOp (rIx K) (tVar 0) (tVar 2)) (tCons (tOp (rIx K) (tVar 1) (tVar 2)) tNil))))) (tRet (tC (.bl false))) tNext))
    (tRet (tC (.bl true)))))
def t_l_alike (K : PySem.W.Frag) (n : Nat) : TS := (tSeq (tIfS (tB (tCB (rIsiT K) (tCons (tVar 1) (tCons (tTup (tCons (tC (.ty "tuple")) (tCons (tC (.ty "list")) tNil))) tNil)))) (tSeq (tIfS (tOr (tTest (tOp rNe (tCB (rIsi K) (tCons (tVar 1) (tCons (tC (.ty "tuple")) tNil))) (tCB (rIsi K) (tCons (tVar 0) (tCons (tC (.ty "tuple")) tNil))))) (tNot (tB (tCB (rIsiT K) (tCons (tVar 0) (tCons (tTup (tCons (tC (.ty "tuple")) (tCons (tC (.ty "list")) tNil))) tNil)))))) (tRet (tC (.bl false))) tNext)
    (t_l_alike_loop K n)) tNext)
    (tSeq (tIfS (tOr (tB (tCB (rIsi K) (tCons (tVar 1) (tCons (tC (.ty "bool")) tNil)))) (tB (tCB (rIsi K) (tCons (tVar 0) (tCons (tC (.ty "bool")) tNil))))) (tRet (tAndV (tCB (rIsi K) (tCons (tVar 1) (tCons (tC (.ty "bool")) tNil))) (tAndV (tCB (rIsi K) (tCons (tVar 0) (tCons (tC (.ty "bool")) tNil))) (tOp rEq (tVar 0) (tVar 1))))) tNext)
    (tSeq (tIfS (tB (tCB (rIsi K) (tCons (tVar 1) (tCons (tC (.ty "int")) tNil)))) (tRet (tAndV (tCB (rIsi K) (tCons (tVar 0) (tCons (tC (.ty "int")) tNil))) (tOp rEq (tVar 0) (tVar 1)))) tNext)
    (tSeq (tIfS (tB (tCB (rIsi K) (tCons (tVar 1) (tCons (tC (.ty "str")) tNil)))) (tRet (tAndV (tCB (rIsi K) (tCons (tVar 0) (tCons (tC (.ty "str")) tNil))) (tOp rEq (tVar 0) (tVar 1)))) tNext)
    (tRet (tAndV (tOp fIsN (tVar 1) (tC .non)) (tOp fIsN (tVar 0) (tC .non))))))))
theorem bbN (a b : Bool) : (decide (V.bl a = V.bl b)) = (a == b) := by cases a <;> cases b <;> rfl
theorem pure_l_alike {K : PySem.W.Frag} {n : Nat} {vs : List V} {H : Hp} {Q : VK} {E : XK} (h : sp_same2N K (n + 1) vs H Q E) : t_l_alike K n { nx := fun _ H' => Q .non H', rt := Q } (start N_l_alike vs) H := by
  obtain ⟨x, y, rfl, h, k⟩ := h
  rcases h with ⟨rfl, h⟩ | ⟨p, q, xs, ys, rfl, rfl, h, hl, hz, hs⟩
  · rcases h with rfl | ⟨i, rfl⟩ | ⟨b, rfl⟩ | ⟨z, rfl⟩
    · refine ⟨_, rfl, isi2 (fun _ _ => .base .non) k_nt k_nl fun T nT => ⟨_, rfl, iteF ?_⟩⟩
      refine ⟨_, rfl, isi (.base .non) k_nb ⟨_, rfl, iteF ⟨_, rfl, isi (.base .non) k_nb ⟨_, rfl, iteF ?_⟩⟩⟩⟩
      refine ⟨_, rfl, isi (.base .non) k_ni ⟨_, rfl, iteF ?_⟩⟩
      refine ⟨_, rfl, isi (.base .non) k_ns ⟨_, rfl, iteF ?_⟩⟩
      exact ⟨_, rfl, rfl, _, rfl, iteT ⟨_, rfl, rfl, k _ (Same.upd nT)⟩⟩
    · refine ⟨_, rfl, isi2 (fun _ _ => .base (.int i)) k_it k_il fun T nT => ⟨_, rfl, iteF ?_⟩⟩
      refine ⟨_, rfl, isi (.base (.int i)) k_ib ⟨_, rfl, iteF ⟨_, rfl, isi (.base (.int i)) k_ib ⟨_, rfl, iteF ?_⟩⟩⟩⟩
      refine ⟨_, rfl, isi (.base (.int i)) k_ii ⟨_, rfl, iteT ?_⟩⟩
      refine ⟨_, rfl, isi (.base (.int i)) k_ii ⟨_, rfl, iteT ⟨_, rfl, _, rfl, rfl, ?_⟩⟩⟩
      rw [decide_eq_true rfl]
      exact k _ (Same.upd nT)
    · refine ⟨_, rfl, isi2 (fun _ _ => .base (.bl b)) k_bt k_bl fun T nT => ⟨_, rfl, iteF ?_⟩⟩
      refine ⟨_, rfl, isi (.base (.bl b)) k_bb ⟨_, rfl, iteT ?_⟩⟩
      refine ⟨_, rfl, isi (.base (.bl b)) k_bb ⟨_, rfl, iteT ⟨_, rfl, isi (.base (.bl b)) k_bb ⟨_, rfl, iteT ⟨_, rfl, _, rfl, rfl, ?_⟩⟩⟩⟩⟩
      rw [decide_eq_true rfl]
      exact k _ (Same.upd nT)
    · refine ⟨_, rfl, isi2 (fun _ _ => .base (.str z)) k_st k_sl fun T nT => ⟨_, rfl, iteF ?_⟩⟩
      refine ⟨_, rfl, isi (.base (.str z)) k_sb ⟨_, rfl, iteF ⟨_, rfl, isi (.base (.str z)) k_sb ⟨_, rfl, iteF ?_⟩⟩⟩⟩
      refine ⟨_, rfl, isi (.base (.str z)) k_si ⟨_, rfl, iteF ?_⟩⟩
      refine ⟨_, rfl, isi (.base (.str z)) k_ss ⟨_, rfl, iteT ?_⟩⟩
      refine ⟨_, rfl, isi (.base (.str z)) k_ss ⟨_, rfl, iteT ⟨_, rfl, _, rfl, rfl, ?_⟩⟩⟩
      rw [decide_eq_true rfl]
      exact k _ (Same.upd nT)
  · have loop : ∀ (H0 : Hp) (N : L2.St → Hp → Prop), Same H H0 → (∃ o, (H p = some o ∧ (o = .lst xs ∨ o = .tup xs))) → (∃ o, (H q = some o ∧ (o = .lst ys ∨ o = .tup ys))) → ∀ z2 : Option V,
        t_l_alike_loop K n { nx := N, rt := Q } [some (.ref p), some (.ref q), z2] H0 := by
      intro H0 N s0 hp hq z2
      have hlen : ∀ {r : Addr} {zs : List V} {R : VK} {σ : L2.St} {H1 : Hp}, (∃ o, (H r = some o ∧ (o = .lst zs ∨ o = .tup zs))) → Same H H1 → R (.int zs.length) H1 → tNil σ H1 fun ws H2 => fLen K (.ref r :: ws) H2 R := by
        rintro r zs R σ H1 ⟨o, h1, rfl | rfl⟩ s h2
        · exact lenL (s _ _ h1) h2
        · exact lenT (s _ _ h1) h2
      have hix : ∀ {r : Addr} {zs : List V} {R : VK} {i : Int} {v : V} {H1 : Hp}, (∃ o, (H r = some o ∧ (o = .lst zs ∨ o = .tup zs))) → Same H H1 → atI zs i = some v → R v H1 → rIx K (.ref r) (.int i) H1 R := by
        rintro r zs R i v H1 ⟨o, h1, rfl | rfl⟩ s h2 h3
        · exact ixL (s _ _ h1) h2 h3
        · exact ixT (s _ _ h1) h2 h3
      refine ⟨_, rfl, hlen hp s0 ⟨_, rfl, hlen hq s0 ⟨rfl, _, rfl, ?_⟩⟩⟩
      rw [decide_eq_true (show V.int (xs.length : Int) = V.int (ys.length : Int) by rw [hl])]
      refine iteF ?_
      refine ⟨_, rfl, hlen hq s0 ⟨_, rfl, (len_le (by omega)).1, (len_le (by omega)).2, for_range (lo := 0) (n := ((ys.length : Int)).toNat) (fun i σ H' => Same H H' ∧ ∃ z, σ = [some (.ref p), some (.ref q), z]) ⟨s0, _, rfl⟩ ?_ ?_⟩⟩
      · rintro i σ H' hi ⟨s1, z, rfl⟩
        have hi1 : i < ys.length := by omega
        have hi2 : i < xs.length := by omega
        have e1 : atI xs (0 + (i : Int)) = some xs[i] := by rw [Int.zero_add]; exact atI_nat (List.getElem?_eq_getElem hi2)
        have e2 : atI ys (0 + (i : Int)) = some ys[i] := by rw [Int.zero_add]; exact atI_nat (List.getElem?_eq_getElem hi1)
        refine ⟨_, rfl, _, rfl, hix hp s1 e1 ⟨_, rfl, _, rfl, hix hq s1 e2 ⟨_, _, rfl, (hs i _ _ (List.getElem?_eq_getElem hi2) (List.getElem?_eq_getElem hi1)).mono s1, fun H2 s2 => ⟨_, rfl, iteF ?_⟩⟩⟩⟩
        exact ⟨s1.trans s2, _, rfl⟩
      · rintro σ H' ⟨s1, z, rfl⟩
        exact k _ s1
    rcases h with ⟨h1, h2⟩ | ⟨h1, h2⟩
    · have t1 : ∀ H', Same H H' → TyX K H' (.ref p) (.type "list") := fun H' s => .base (.lst (s _ _ h1))
      have t2 : ∀ H', Same H H' → TyX K H' (.ref q) (.type "list") := fun H' s => .base (.lst (s _ _ h2))
      refine ⟨_, rfl, isi2 t2 k_lt k_ll fun T nT => ⟨_, rfl, iteT ?_⟩⟩
      have s0 : Same H (upd H T (.tup [.ty "tuple", .ty "list"])) := Same.upd nT
      refine ⟨_, rfl, isi (t2 _ s0) k_lt ⟨_, rfl, isi (t1 _ s0) k_lt ⟨rfl, _, rfl, iteF ?_⟩⟩⟩
      refine ⟨_, rfl, isi2 (fun H' s => t1 H' (s0.trans s)) k_lt k_ll fun T2 nT2 => ⟨_, rfl, iteF ?_⟩⟩
      exact loop _ _ (s0.trans (Same.upd nT2)) ⟨_, h1, .inl rfl⟩ ⟨_, h2, .inl rfl⟩ _
    · have t1 : ∀ H', Same H H' → TyX K H' (.ref p) (.type "tuple") := fun H' s => .base (.tup (s _ _ h1))
      have t2 : ∀ H', Same H H' → TyX K H' (.ref q) (.type "tuple") := fun H' s => .base (.tup (s _ _ h2))
      refine ⟨_, rfl, isi2 t2 k_tt k_tl fun T nT => ⟨_, rfl, iteT ?_⟩⟩
      have s0 : Same H (upd H T (.tup [.ty "tuple", .ty "list"])) := Same.upd nT
      refine ⟨_, rfl, isi (t2 _ s0) k_tt ⟨_, rfl, isi (t1 _ s0) k_tt ⟨rfl, _, rfl, iteF ?_⟩⟩⟩
      refine ⟨_, rfl, isi2 (fun H' s => t1 H' (s0.trans s)) k_tt k_tl fun T2 nT2 => ⟨_, rfl, iteF ?_⟩⟩
      exact loop _ _ (s0.trans (Same.upd nT2)) ⟨_, h1, .inr rfl⟩ ⟨_, h2, .inr rfl⟩ _
/-! ### promises -/
def sp_l_label (_ : PySem.W.Frag) : Sp := fun vs H Q _ => ∃ (c D : Addr) (ns : List Int) (t : Nat), vs = [.ref D] ∧ Dk c D ns t H ∧ t + 10 < 1000000000 ∧
  ∀ (z : Str) (H' : Hp), OkLab z → Kp D H H' → Dk c D ns (t + 10) H' → Q (.str z) H'
def sp_l_give (_ : PySem.W.Frag) : Sp := fun vs H Q _ => ∃ (T a : Addr) (as : List Addr) (cs : List Ct) (c : Ct), vs = [.ref T, .ref a] ∧ H T = some (.lst (as.map V.ref)) ∧ CsAt H as cs ∧ CtAt H a c ∧ c.form ∧ (∀ d ∈ cs, d.form) ∧ cs.Nodup ∧ cs.length ≤ 1000 ∧
  (∀ i : Nat, cs[i]? = some c → Q (.int (i : Int)) H) ∧ (c ∉ cs → Q (.int (cs.length : Nat)) (upd H T (.lst ((as ++ [a]).map V.ref))))
def sp_l_rows (_ : PySem.W.Frag) : Sp := fun vs H Q _ => ∃ (c D r : Addr) (ns : List Int) (t : Nat) (rows : List Str), vs = [.ref D, .ref r] ∧ Dk c D ns t H ∧ H r = some (.tup (rows.map V.str)) ∧ rows.length ≤ 7 ∧ (∀ z ∈ rows, OkS z) ∧ t + 320 < 1000000000 ∧
  ∀ (r' : Addr) (rows' : List Str) (H' : Hp), H' r' = some (.tup (rows'.map V.str)) → rows'.length ≤ 7 → (∀ z ∈ rows', OkS z) → Kp D H H' → Dk c D ns (t + 320) H' → Q (.ref r') H'
def sp_l_entries (_ : PySem.W.Frag) : Sp := fun vs H Q _ => ∃ (c D w : Addr) (ns ls : List Int) (t : Nat), vs = [.ref D, .ref w] ∧ Dk c D ns t H ∧ H w = some (.lst (ls.map V.int)) ∧ w ≠ D ∧ ls ≠ [] ∧ ls.length ≤ 1000 ∧ t + 40 < 1000000000 ∧
  ∀ (r : Addr) (as : List Addr) (es : List (Str × Int)) (H' : Hp), H' r = some (.tup (as.map V.ref)) → as.length = es.length → (∀ (i : Nat) (b : Addr) (e : Str × Int), as[i]? = some b → es[i]? = some e → H' b = some (.tup [.str e.1, .int e.2])) → es.length ≤ 3 → (∀ e ∈ es, OkLab e.1 ∧ e.2 ∈ ls) → (es.Pairwise fun a b => ltS a.1 b.1) → Kp D H H' → Dk c D ns (t + 40) H' → Q (.ref r) H'
def sp_l_some (_ : PySem.W.Frag) : Sp := fun vs H Q _ => ∃ (c D w : Addr) (ns ls : List Int) (t : Nat) (most : Int), vs = [.ref D, .ref w, .int most] ∧ Dk c D ns t H ∧ H w = some (.lst (ls.map V.int)) ∧ w ≠ D ∧ ls.length ≤ 1000 ∧ 0 ≤ most ∧ most ≤ 40 ∧ t + 40 < 1000000000 ∧
  ∀ (r : Addr) (ys : List Int) (H' : Hp), H' r = some (.tup (ys.map V.int)) → ys.Pairwise (· < ·) → (∀ y ∈ ys, y ∈ ls) → (ys.length : Int) ≤ most → Kp D H H' → Dk c D ns (t + 40) H' → Q (.ref r) H'
section
variable {K : PySem.W.Frag} {vs : List V} {H : Hp} {Q : VK} {E : XK}
theorem len_l_label (h : sp_l_label K vs H Q E) : vs.length = 1 := by obtain ⟨_, _, _, _, rfl, _⟩ := h; rfl
theorem len_l_give (h : sp_l_give K vs H Q E) : vs.length = 2 := by obtain ⟨_, _, _, _, _, rfl, _⟩ := h; rfl
theorem len_l_rows (h : sp_l_rows K vs H Q E) : vs.length = 2 := by obtain ⟨_, _, _, _, _, _, rfl, _⟩ := h; rfl
theorem len_l_entries (h : sp_l_entries K vs H Q E) : vs.length = 2 := by obtain ⟨_, _, _, _, _, _, rfl, _⟩ := h; rfl
theorem len_l_some (h : sp_l_some K vs H Q E) : vs.length = 3 := by obtain ⟨_, _, _, _, _, _, _, rfl, _⟩ := h; rfl
end
abbrev N_l_label : List Str := ["_law_deck_here", "_law_letters", "_law_k"]
def t_l_label_long (K : PySem.W.Frag) : TS := (tSeq (tAsg (tC (.str "abcdefghijklmnopqrstuvwxyz")) (gName 1))
    (tRet (tM1 (fJoin K) (tC (.str "")) (tLc (iRng1 (tCons (tOp rAddI (tC (.int 1)) (tCall (sp_l_draw K) [] E0 (tCons (tVar 0) (tCons (tC (.int 8)) tNil)))) tNil)) (gName 2) tYes (tOp (rIx K) (tVar 1) (tCall (sp_l_draw K) [] E0 (tCons (tVar 0) (tCons (tC (.int 26)) tNil)))) [2]))))
def t_l_label (K : PySem.W.Frag) : TS := (tSeq (tIfS (tTest (tOp rGtI (tCall (sp_l_draw K) [] E0 (tCons (tVar 0) (tCons (tC (.int 3)) tNil))) (tC (.int 0)))) (tRet (tOp (rIx K) (tC (.str "abcd")) (tCall (sp_l_draw K) [] E0 (tCons (tVar 0) (tCons (tC (.int 4)) tNil))))) tNext)
    (t_l_label_long K))
abbrev N_l_give : List Str := ["_law_things", "_law_content"]
def t_l_give (K : PySem.W.Frag) : TS := (tSeq (tIfS (tTest (tOp (rInD K) (tVar 1) (tVar 0))) (tRet (tBM K "list" (rIndexD K) (tVar 0) (tCons (tVar 1) tNil))) tNext)
    (tSeq (tDrop (tBM K "list" rAppend (tVar 0) (tCons (tVar 1) tNil)))
    (tRet (tOp rSubI (tCB (fLen K) (tCons (tVar 0) tNil)) (tC (.int 1))))))
abbrev N_l_rows : List Str := ["_law_deck_here", "_law_elder", "_law_rows_here", "_law_k"]
def t_l_rows_d (K : PySem.W.Frag) : TS := (tRet (tCB (fTupleOf K) (tCons (tVar 2) tNil)))
def t_l_rows_c (K : PySem.W.Frag) : TS := (tSeq (tIfS (tTest (tOp rGtI (tCB (fLen K) (tCons (tVar 2) tNil)) (tC (.int 7)))) (tDrop (tBM K "list" rPopAt (tVar 2) (tCons (tCall (sp_l_draw K) [] E0 (tCons (tVar 0) (tCons (tCB (fLen K) (tCons (tVar 2) tNil)) tNil))) tNil))) tNext)
    (t_l_rows_d K))
def t_l_rows_b (K : PySem.W.Frag) : TS := (tSeq (tIfS (tTest (tOp rEq (tCall (sp_l_draw K) [] E0 (tCons (tVar 0) (tCons (tC (.int 2)) tNil))) (tC (.int 0)))) (tDrop (tBM K "list" fInsert (tVar 2) (tCons (tCall (sp_l_draw K) [] E0 (tCons (tVar 0) (tCons (tOp rAddI (tCB (fLen K) (tCons (tVar 2) tNil)) (tC (.int 1))) tNil))) (tCons (tCall (sp_l_text K) [] E0 (tCons (tVar 0) (tCons (tC (.int 3)) tNil))) tNil)))) tNext)
    (t_l_rows_c K))
def t_l_rows_a (K : PySem.W.Frag) : TS := (tSeq (tIfS (tTest (tOp rEq (tCall (sp_l_draw K) [] E0 (tCons (tVar 0) (tCons (tC (.int 2)) tNil))) (tC (.int 0)))) (tAsg (tLc (iRng1 (tCons (tCall (sp_l_draw K) [] E0 (tCons (tVar 0) (tCons (tC (.int 5)) tNil))) tNil)) (gName 3) tYes (tCall (sp_l_text K) [] E0 (tCons (tVar 0) (tCons (tC (.int 3)) tNil))) [3]) (gName 2)) tNext)
    (t_l_rows_b K))
def t_l_rows (K : PySem.W.Frag) : TS := (tSeq (tAsg (tCB (fListOf K) (tCons (tVar 1) tNil)) (gName 2))
    (t_l_rows_a K))
abbrev N_l_entries : List Str := ["_law_deck_here", "_law_lows", "_law_entries_here", "_law_k"]
def t_l_entries (K : PySem.W.Frag) : TS := (tSeq (tAsg tDNewK (gName 2))
    (tSeq (tFor (iRng1 (tCons (tCall (sp_l_draw K) [] E0 (tCons (tVar 0) (tCons (tC (.int 4)) tNil))) tNil)) (gName 3) (sDPut (tVar 2) (tCall (sp_l_label K) [] E0 (tCons (tVar 0) tNil)) (tOp (rIx K) (tVar 1) (tCall (sp_l_draw K) [] E0 (tCons (tVar 0) (tCons (tCB (fLen K) (tCons (tVar 1) tNil)) tNil))))))
    (tRet (tCB (fTupleOf K) (tCons (tCB rSortItD (tCons (tBM0 K "dict" rItemsD (tVar 2)) tNil)) tNil)))))
abbrev N_l_some : List Str := ["_law_deck_here", "_law_names", "_law_most", "_law_some_here", "_law_k"]
def t_l_some (K : PySem.W.Frag) : TS := (tSeq (tAsg (tLst tNil) (gName 3))
    (tSeq (tFor (iRng1 (tCons (tCB fMin2 (tCons (tVar 2) (tCons (tCB (fLen K) (tCons (tVar 1) tNil)) tNil))) tNil)) (gName 4) (tDrop (tBM K "list" rAppend (tVar 3) (tCons (tOp (rIx K) (tVar 1) (tCall (sp_l_draw K) [] E0 (tCons (tVar 0) (tCons (tCB (fLen K) (tCons (tVar 1) tNil)) tNil)))) tNil))))
    (tRet (tCB (fTupleOf K) (tCons (tSortSet K (tVar 3)) tNil)))))
theorem okLab1 {c : Nat} (h1 : 97 ≤ c) (h2 : c ≤ 122) : OkLab ⟨#[c]⟩ := ⟨Nat.le_refl _, by show (1 : Nat) ≤ 8; decide, fun x hx => by
  have : x = c := by simpa using hx
  rw [this]
  exact ⟨h1, h2⟩⟩
theorem abcd_ok : ∀ x ∈ ("abcd" : Str).cps.toList, 97 ≤ x ∧ x ≤ 122 := by
  have h : (("abcd" : Str).cps.toList.all fun x => decide (97 ≤ x) && decide (x ≤ 122)) = true := by decide +kernel
  intro x hx
  have := List.all_eq_true.mp h x hx
  simpa using this
theorem az_ok : ∀ x ∈ ("abcdefghijklmnopqrstuvwxyz" : Str).cps.toList, 97 ≤ x ∧ x ≤ 122 := by
  have h : (("abcdefghijklmnopqrstuvwxyz" : Str).cps.toList.all fun x => decide (97 ≤ x) && decide (x ≤ 122)) = true := by decide +kernel
  intro x hx
  have := List.all_eq_true.mp h x hx
  simpa using this
theorem az_len : ("abcdefghijklmnopqrstuvwxyz" : Str).cps.toList.length = 26 := by decide +kernel
theorem abcd_len : ("abcd" : Str).cps.toList.length = 4 := by decide +kernel
section
variable {K : PySem.W.Frag} {vs : List V} {H : Hp} {Q : VK} {E : XK}
theorem pure_l_label (h : sp_l_label K vs H Q E) : t_l_label K { nx := fun _ H' => Q .non H', rt := Q } (start N_l_label vs) H := by
  obtain ⟨c, D, ns, t, rfl, dk, ht, k⟩ := h
  refine ⟨_, rfl, c, D, ns, t, 3, rfl, dk, by omega, by decide, by decide, fun v H1 v0 v1 d1 fr1 => ⟨_, _, rfl, rfl, _, rfl, ite2 (fun _ => ?_) (fun _ => ?_)⟩⟩
  · refine ⟨_, rfl, c, D, ns, _, 4, rfl, d1, by omega, by decide, by decide, fun v2 H2 w0 w1 d2 fr2 => ?_⟩
    obtain ⟨j, rfl⟩ := Int.eq_ofNat_of_zero_le w0
    have hj : j < ("abcd" : Str).cps.toList.length := by rw [abcd_len]; omega
    have ho := abcd_ok _ (List.getElem_mem hj)
    refine ixS (by decide +kernel) (atI_nat (List.getElem?_eq_getElem hj)) (k _ _ (okLab1 ho.1 ho.2) ((Kp.fr fr1).trans (.fr fr2)) (d2.le (by omega)))
  · show t_l_label_long K { nx := fun _ H' => Q .non H', rt := Q } [some (.ref D), none, none] H1
    refine ⟨⟨_, rfl⟩, _, rfl, c, D, ns, _, 8, rfl, d1, by omega, by decide, by decide, fun n H2 n0 n1 d2 fr2 => ⟨_, _, rfl, rfl, _, rfl, by omega, by omega, fun L nL => ?_⟩⟩
    refine lc_deck (walk_range (lo := 0) (n := (1 + n).toNat)) yFn (fun x : Nat => V.str ⟨#[x]⟩) (fun x => 97 ≤ x ∧ x ≤ 122) 1 nL d2 (by omega) ?_ ?_
    · intro i x H3 R hi kp d3 r
      refine ⟨rfl, ⟨_, rfl, _, rfl, c, D, ns, _, 26, rfl, d3, by omega, by decide, by decide, fun v H4 v0 v1 d4 fr4 => ?_⟩⟩
      obtain ⟨j, rfl⟩ := Int.eq_ofNat_of_zero_le v0
      have hj : j < ("abcdefghijklmnopqrstuvwxyz" : Str).cps.toList.length := by rw [az_len]; omega
      exact ixS (by decide +kernel) (atI_nat (List.getElem?_eq_getElem hj)) (r _ _ (az_ok _ (List.getElem_mem hj)) (.fr fr4) d4)
    · intro ys H3 hl hp kp d3 hL
      have hlen : ys.length = (1 + n).toNat := hl
      refine ⟨_, L, (ys.map fun c => (⟨#[c]⟩ : Str)), rfl, rfl, .inl (sqL (by rw [hL, List.map_map]; rfl)), ?_, ?_⟩
      · rw [sum_ones, List.length_map]
        show ys.length + ys.length * 0 ≤ _
        omega
      · rw [join_chars]
        refine k _ _ ⟨?_, ?_, ?_⟩ ((Kp.fr fr1).trans ((Kp.fr fr2).trans kp)) (d3.le (by omega))
        · show 1 ≤ ys.toArray.size
          rw [List.size_toArray]
          omega
        · show ys.toArray.size ≤ 8
          rw [List.size_toArray]
          omega
        · intro x hx
          exact hp x (by simpa using hx)
theorem pure_l_give (h : sp_l_give K vs H Q E) : t_l_give K { nx := fun _ H' => Q .non H', rt := Q } (start N_l_give vs) H := by
  obtain ⟨T, a, as, cs, c, rfl, hT, hcs, hc, fo, fos, nd, few, k1, k2⟩ := h
  have any : ((cs.map Ct.data).any fun z => PyData.eqv z c.data) = decide (c ∈ cs) := by
    rw [List.any_map]
    by_cases h : c ∈ cs
    · rw [decide_eq_true h, List.any_eq_true]
      exact ⟨c, h, by show PyData.eqv c.data c.data = true; rw [Ct.eqv, decide_eq_true rfl]⟩
    · rw [decide_eq_false h, List.any_eq_false]
      intro d hd
      show ¬ PyData.eqv d.data c.data = true
      rw [Ct.eqv, decide_eq_true_eq]
      exact fun e => h (by rw [← e]; exact hd)
  refine ⟨_, rfl, _, rfl, c.data, cs.map Ct.data, hc.dp, .lst (sqL hT) (dp_contents as cs hcs), Ct.shaped fo, shaped_contents fos, _, rfl, ?_⟩
  rw [any]
  by_cases h : c ∈ cs
  · rw [decide_eq_true h]
    obtain ⟨i, hi⟩ := List.mem_iff_getElem?.mp h
    refine iteT ⟨_, rfl, .inl ⟨rfl, _, sqL hT⟩, _, rfl, T, .ref a, c.data, cs.map Ct.data, i, c.data, rfl, rfl, .lst (sqL hT) (dp_contents as cs hcs), hc.dp, shaped_contents fos, Ct.shaped fo, by rw [List.getElem?_map, hi]; rfl, by rw [Ct.eqv, decide_eq_true rfl], fun m z hm hz => ?_, k1 i hi⟩
    rw [List.getElem?_map] at hz
    cases e : cs[m]? with
    | none => rw [e] at hz; cases hz
    | some d =>
      rw [e] at hz
      cases Option.some.inj hz
      rw [Ct.eqv, decide_eq_false]
      rintro rfl
      have := (List.getElem?_inj (List.getElem?_eq_some_iff.mp e).1 nd).mp (e.trans hi.symm)
      omega
  · rw [decide_eq_false h]
    refine iteF ⟨_, rfl, .inl ⟨rfl, _, sqL hT⟩, _, rfl, T, _, _, rfl, rfl, hT, ?_, ?_⟩
    · rw [List.length_map, hcs.1]
      exact Nat.lt_of_le_of_lt few (by decide)
    · refine ⟨_, rfl, lenL updS ⟨_, _, rfl, rfl, ?_⟩⟩
      have := k2 h
      rw [List.map_append] at this
      rw [List.length_append, List.length_map, hcs.1]
      show Q (.int (((cs.length + 1 : Nat) : Int) - 1)) _
      rw [show (((cs.length + 1 : Nat) : Int) - 1) = ((cs.length : Nat) : Int) from by omega]
      exact this
/-- all but the deck and L stands -/
def Kp2 (D L : Addr) (H H' : Hp) : Prop := ∀ b o, H b = some o → b ≠ D → b ≠ L → H' b = some o
theorem Kp2.refl {D L : Addr} {H : Hp} : Kp2 D L H H := fun _ _ h _ _ => h
theorem Kp2.trans {D L : Addr} {H H1 H2 : Hp} (a : Kp2 D L H H1) (b : Kp2 D L H1 H2) : Kp2 D L H H2 := fun x o h h1 h2 => b x o (a x o h h1 h2) h1 h2
theorem Kp2.kp {D L : Addr} {H H' : Hp} (k : Kp D H H') : Kp2 D L H H' := fun b o h h1 _ => k b o h h1
theorem Kp2.up {D L : Addr} {H H' : Hp} {o : HO} (k : Kp2 D L H H') : Kp2 D L H (upd H' L o) := fun b u h h1 h2 => updN h2 (k b u h h1 h2)
theorem Kp2.out {D L : Addr} {H H1 H' : Hp} (s : Kp D H H1) (k : Kp2 D L H1 H') (nL : H L = none) : Kp D H H' := fun b o h h1 => k b o (s b o h h1) h1 (ne_of_none h nL)
theorem rows_d {c D L r0 : Addr} {ns : List Int} {t : Nat} {rows : List Str} {z3 : Option V} (dk : Dk c D ns t H) (hL : H L = some (.lst (rows.map V.str)))
    (k : ∀ (r' : Addr) (H' : Hp), H' r' = some (.tup (rows.map V.str)) → Kp2 D L H H' → Dk c D ns t H' → Q (.ref r') H') :
    t_l_rows_d K { nx := fun _ H' => Q .non H', rt := Q } [some (.ref D), some (.ref r0), some (.ref L), z3] H :=
  ⟨_, rfl, L, _, rfl, .inl ⟨sqL hL, fun r' nr => k r' _ updS (.kp (.new nr)) (dk.upd (dk.neC nr) (dk.neD nr))⟩⟩
theorem rows_c {c D L r0 : Addr} {ns : List Int} {t : Nat} {rows : List Str} {z3 : Option V} (dk : Dk c D ns t H) (hL : H L = some (.lst (rows.map V.str))) (nLD : L ≠ D) (nLc : L ≠ c) (few : rows.length ≤ 8) (ok : ∀ z ∈ rows, OkS z) (ht : t + 1 < 1000000000)
    (k : ∀ (r' : Addr) (rows' : List Str) (H' : Hp), H' r' = some (.tup (rows'.map V.str)) → rows'.length ≤ 7 → (∀ z ∈ rows', OkS z) → Kp2 D L H H' → Dk c D ns (t + 1) H' → Q (.ref r') H') :
    t_l_rows_c K { nx := fun _ H' => Q .non H', rt := Q } [some (.ref D), some (.ref r0), some (.ref L), z3] H := by
  refine ⟨_, rfl, lenL hL ⟨_, _, rfl, rfl, _, rfl, ite2 (fun e => ?_) (fun e => ?_)⟩⟩
  · have e := of_decide_eq_true e
    rw [List.length_map] at e
    refine ⟨_, rfl, .inl ⟨rfl, _, sqL hL⟩, _, rfl, _, rfl, lenL hL ⟨c, D, ns, t, _, rfl, dk, by omega, by rw [List.length_map]; omega, by rw [List.length_map]; exact small100 (by omega), fun v H1 v0 v1 d1 fr1 => ?_⟩⟩
    rw [List.length_map] at v1
    obtain ⟨j, rfl⟩ := Int.eq_ofNat_of_zero_le v0
    have hj : j < rows.length := by omega
    have hL1 : H1 L = some (.lst (rows.map V.str)) := by rw [fr1 _ nLD]; exact hL
    refine ⟨L, _, (j : Int), j, V.str rows[j], rfl, rfl, hL1, by omega, by omega, ?_, by rw [List.getElem?_map, List.getElem?_eq_getElem hj]; rfl, ?_⟩
    · rw [List.length_map]
      unfold seqIndex?
      simp
      omega
    · have e2 : (rows.map V.str).eraseIdx j = (rows.eraseIdx j).map V.str := (DT.map_erase V.str rows j).symm
      rw [e2]
      refine rows_d (d1.upd nLc nLD) updS fun r' H' hr kp d => k r' _ H' hr ?_ (fun z hz => ok z (List.mem_of_mem_eraseIdx hz)) ((Kp2.up (.kp (.fr fr1))).trans kp) d
      rw [List.length_eraseIdx]
      split <;> omega
  · have e : ¬ (7 : Int) < ((rows.map V.str).length : Int) := fun q => e (decide_eq_true q)
    rw [List.length_map] at e
    exact rows_d dk hL fun r' H' hr kp d => k r' rows H' hr (by omega) ok kp (d.le (by omega))
theorem rows_b {c D L r0 : Addr} {ns : List Int} {t : Nat} {rows : List Str} {z3 : Option V} (dk : Dk c D ns t H) (hL : H L = some (.lst (rows.map V.str))) (nLD : L ≠ D) (nLc : L ≠ c) (few : rows.length ≤ 7) (ok : ∀ z ∈ rows, OkS z) (ht : t + 60 < 1000000000)
    (k : ∀ (r' : Addr) (rows' : List Str) (H' : Hp), H' r' = some (.tup (rows'.map V.str)) → rows'.length ≤ 7 → (∀ z ∈ rows', OkS z) → Kp2 D L H H' → Dk c D ns (t + 60) H' → Q (.ref r') H') :
    t_l_rows_b K { nx := fun _ H' => Q .non H', rt := Q } [some (.ref D), some (.ref r0), some (.ref L), z3] H := by
  refine ⟨_, rfl, c, D, ns, t, 2, rfl, dk, by omega, by decide, by decide, fun v H1 v0 v1 d1 fr1 => ⟨rfl, _, rfl, ?_⟩⟩
  have hL1 : H1 L = some (.lst (rows.map V.str)) := by rw [fr1 _ nLD]; exact hL
  refine ite2 (fun _ => ?_) (fun _ => ?_)
  · refine ⟨_, rfl, .inl ⟨rfl, _, sqL hL1⟩, _, rfl, _, rfl, lenL hL1 ⟨_, _, rfl, rfl, c, D, ns, _, _, rfl, d1, by omega, by rw [List.length_map]; omega, by rw [List.length_map]; exact small100 (by omega), fun v H2 v0 v1 d2 fr2 => ?_⟩⟩
    rw [List.length_map] at v1
    have hL2 : H2 L = some (.lst (rows.map V.str)) := by rw [fr2 _ nLD]; exact hL1
    refine ⟨_, rfl, c, D, ns, _, 3, rfl, d2, by decide, by decide, by omega, fun z H3 oz kp3 d3 => ?_⟩
    have hL3 := kp3 _ _ hL2 nLD
    refine ⟨L, _, v, .str z, rfl, rfl, hL3, ?_, v0, by omega, ?_⟩
    · rw [List.length_map]
      exact Nat.lt_of_le_of_lt (show _ ≤ 1000 by omega) (by decide)
    · have e2 : (rows.map V.str).take v.toNat ++ [V.str z] ++ (rows.map V.str).drop v.toNat = (rows.take v.toNat ++ [z] ++ rows.drop v.toNat).map V.str := by
        rw [List.map_append, List.map_append, List.map_take, List.map_drop]
        rfl
      rw [e2]
      refine rows_c (d3.upd nLc nLD) updS nLD nLc ?_ ?_ (by omega) fun r' rows' H' hr hf ho kp d => k r' rows' H' hr hf ho ((Kp2.up ((Kp2.kp (.fr fr1)).trans ((Kp2.kp (.fr fr2)).trans (Kp2.kp kp3)))).trans kp) (d.le (by omega))
      · rw [List.length_append, List.length_append, List.length_take, List.length_drop, List.length_singleton]
        omega
      · intro y hy
        rw [List.mem_append, List.mem_append] at hy
        rcases hy with (hy | hy) | hy
        · exact ok y (List.mem_of_mem_take hy)
        · rw [List.mem_singleton.mp hy]; exact oz
        · exact ok y (List.mem_of_mem_drop hy)
  · exact rows_c d1 hL1 nLD nLc (by omega) ok (by omega) fun r' rows' H' hr hf ho kp d => k r' rows' H' hr hf ho ((Kp2.kp (.fr fr1)).trans kp) (d.le (by omega))
theorem pure_l_rows (h : sp_l_rows K vs H Q E) : t_l_rows K { nx := fun _ H' => Q .non H', rt := Q } (start N_l_rows vs) H := by
  obtain ⟨c, D, r, ns, t, rows, rfl, dk, hr, few, ok, ht, k⟩ := h
  refine ⟨_, rfl, r, _, rfl, .inr (sqT hr), fun L nL => ?_⟩
  show t_l_rows_a K { nx := fun _ H' => Q .non H', rt := Q } [some (.ref D), some (.ref r), some (.ref L), none] _
  have dk1 := dk.upd (o := .lst (rows.map V.str)) (dk.neC nL) (dk.neD nL)
  have s1 : Kp D H (upd H L (.lst (rows.map V.str))) := .new nL
  have hL1 : upd H L (.lst (rows.map V.str)) L = some (.lst (rows.map V.str)) := updS
  generalize upd H L (.lst (rows.map V.str)) = H1 at dk1 s1 hL1
  refine ⟨_, rfl, c, D, ns, t, 2, rfl, dk1, by omega, by decide, by decide, fun v H2 v0 v1 d2 fr2 => ⟨rfl, _, rfl, ?_⟩⟩
  have hL2 : H2 L = some (.lst (rows.map V.str)) := by rw [fr2 _ (dk.neD nL)]; exact hL1
  refine ite2 (fun _ => ?_) (fun _ => ?_)
  · refine ⟨_, rfl, c, D, ns, _, 5, rfl, d2, by omega, by decide, by decide, fun n H3 n0 n1 d3 fr3 => ⟨_, rfl, by omega, by omega, fun M nM => ?_⟩⟩
    refine lc_deck (walk_range (lo := 0) (n := n.toNat)) yFn V.str OkS 50 nM d3 (by omega) ?_ ?_
    · intro i x H4 R hi kp d4 q
      refine ⟨rfl, ⟨_, rfl, c, D, ns, _, 3, rfl, d4, by decide, by decide, by omega, fun z H5 o kp5 d5 => q z H5 o kp5 d5⟩⟩
    · intro ys H4 hl hp kp d4 hM
      have nM3 : H2 M = none := by rw [← fr3 M (d3.neD nM)]; exact nM
      refine rows_b (d4.le (show _ ≤ t + 1 + 1 + 50 * 5 by have : n.toNat ≤ 5 := by omega
                                                           have := Nat.mul_le_mul_left 50 this
                                                           omega)) hM (d3.neD nM) (d3.neC nM) (by omega) hp (by omega) fun r' rows' H' hr hf ho kp' d => k r' rows' H' hr hf ho ?_ (d.le (by omega))
      have a1 : Kp D H1 H4 := (Kp.fr fr2).trans ((Kp.fr fr3).trans kp)
      have nM1 : H1 M = none := by rw [← fr2 M (d3.neD nM)]; exact nM3
      exact s1.trans (Kp2.out a1 kp' nM1)
  · exact rows_b d2 hL2 (dk.neD nL) (dk.neC nL) few ok (by omega) fun r' rows' H' hr hf ho kp d => k r' rows' H' hr hf ho (Kp2.out (L := L) (H1 := H2) (fun b o h h1 => by rw [fr2 b h1]; exact s1 b o h h1) kp nL) (d.le (by omega))
theorem putK_lab (ks : List (Str × Int)) (z : Str) (v : Int) : ∃ ks' : List (Str × Int), putK (ks.map labK) (Sum.inr z) (.int v) = ks'.map labK ∧ (∀ e ∈ ks', e ∈ ks ∨ e = (z, v)) ∧ ks'.length ≤ ks.length + 1 := by
  unfold putK
  by_cases h : ((ks.map labK).any fun kv => decide (kv.1 = Sum.inr z)) = true
  · rw [if_pos h]
    refine ⟨ks.map fun e => if e.1 = z then (e.1, v) else e, ?_, fun e he => ?_, by rw [List.length_map]; omega⟩
    · rw [List.map_map, List.map_map]
      refine List.map_congr_left fun e _ => ?_
      show (if (Sum.inr e.1 : Key) = Sum.inr z then _ else _) = labK (if e.1 = z then _ else _)
      by_cases h2 : e.1 = z
      · rw [if_pos h2, if_pos (by rw [h2])]
      · rw [if_neg h2, if_neg (fun q => h2 (Sum.inr.inj q))]
    · obtain ⟨d, hd, rfl⟩ := List.mem_map.mp he
      by_cases h2 : d.1 = z
      · rw [if_pos h2]; exact .inr (by rw [h2])
      · rw [if_neg h2]; exact .inl hd
  · rw [if_neg h]
    refine ⟨ks ++ [(z, v)], by rw [List.map_append]; rfl, fun e he => ?_, by rw [List.length_append]; exact Nat.le_refl _⟩
    rcases List.mem_append.mp he with he | he
    · exact .inl he
    · exact .inr (List.mem_singleton.mp he)
theorem pure_l_entries (h : sp_l_entries K vs H Q E) : t_l_entries K { nx := fun _ H' => Q .non H', rt := Q } (start N_l_entries vs) H := by
  obtain ⟨c, D, w, ns, ls, t, rfl, dk, hw, nwD, ne, few, ht, k⟩ := h
  refine fun G nG => ?_
  have nGD := dk.neD nG
  have nGc := dk.neC nG
  have nwG : w ≠ G := ne_of_none hw nG
  refine ⟨_, rfl, c, D, ns, t, 4, rfl, dk.upd nGc nGD, by omega, by decide, by decide, fun n H1 n0 n1 d1 fr1 => ⟨_, rfl, by omega, by omega, ?_⟩⟩
  have lpos : 0 < ls.length := List.length_pos_iff.mpr ne
  refine for_range (lo := 0) (n := n.toNat) (fun i σ H' => Kp2 D G H H' ∧ Dk c D ns (t + 1 + 11 * i) H' ∧ (∃ ks : List (Str × Int), H' G = some (.dK (ks.map labK)) ∧ (∀ e ∈ ks, OkLab e.1 ∧ e.2 ∈ ls) ∧ ks.length ≤ i) ∧ ∃ z, σ = [some (.ref D), some (.ref w), some (.ref G), z]) ⟨(Kp2.kp (Kp.new nG)).trans (Kp2.kp (Kp.fr fr1)), d1, ⟨[], by rw [fr1 _ nGD, updS]; rfl, (fun e h => nomatch h), Nat.zero_le _⟩, _, rfl⟩ ?_ ?_
  · rintro i σ H' hi ⟨kp, d, ⟨ks, hG, hk, hl⟩, z, rfl⟩
    have hi4 : i < 4 := by omega
    have hw' := kp _ _ hw nwD nwG
    refine ⟨_, rfl, _, rfl, _, rfl, lenL hw' ⟨c, D, ns, _, _, rfl, d, by omega, by rw [List.length_map]; omega, by rw [List.length_map]; exact small100 (by omega), fun v H2 v0 v1 d2 fr2 => ?_⟩⟩
    rw [List.length_map] at v1
    obtain ⟨j, rfl⟩ := Int.eq_ofNat_of_zero_le v0
    have hj : j < ls.length := by omega
    refine ixL (by rw [fr2 _ nwD]; exact hw') (atI_nat (by rw [List.getElem?_map, List.getElem?_eq_getElem hj]; rfl)) ⟨_, rfl, _, rfl, c, D, ns, _, rfl, d2, by omega, fun lab H3 ol kp3 d3 => ?_⟩
    have hG3 : H3 G = some (.dK (ks.map labK)) := kp3 _ _ (by rw [fr2 _ nGD]; exact hG) nGD
    refine ⟨G, _, rfl, DPut.k (k := Sum.inr lab) hG3 ?_, ?_⟩
    · rw [List.length_map]
      exact Nat.lt_of_le_of_lt (show _ ≤ 1000 by omega) (by decide)
    obtain ⟨ks', e1, e2, e3⟩ := putK_lab ks lab ls[j]
    rw [show putK (ks.map labK) (Sum.inr lab) (V.int ls[j]) = ks'.map labK from e1]
    refine ⟨Kp2.up (kp.trans ((Kp2.kp (.fr fr2)).trans (Kp2.kp kp3))), (d3.upd nGc nGD).le (by omega), ⟨ks', updS, fun e he => ?_, by omega⟩, _, rfl⟩
    rcases e2 e he with h | h
    · exact hk e h
    · rw [h]
      exact ⟨ol, List.getElem_mem hj⟩
  · rintro σ H' ⟨kp, d, ⟨ks, hG, hk, hl⟩, z, rfl⟩
    refine ⟨_, rfl, .inr (.inr (.inl ⟨rfl, .inl ⟨_, hG⟩⟩)), G, _, rfl, rfl, hG, fun p np => ?_⟩
    have s1 : Same H' (upd H' p (L2.DX.itemsO p G)) := samN np
    refine ⟨p, G, ks, rfl, updS, s1 _ _ hG, by omega, fun H2 l ps s2 nl pm srt hl2 hps => ?_⟩
    have s3 := s1.trans s2
    have d3 : Dk c D ns (t + 1 + 11 * n.toNat) H2 := by
      obtain ⟨x1, x2, x3, i, m, u, x4, r⟩ := d
      exact ⟨x1, s3 _ _ x2, x3, i, m, u, s3 _ _ x4, r⟩
    have nf : n.toNat ≤ 3 := by omega
    have plen : ps.length ≤ 3 := by
      have := pm.length_eq
      rw [List.length_map] at this
      omega
    refine ⟨l, _, rfl, .inl ⟨sqL hl2, fun q nq => ?_⟩⟩
    have s4 : Same H2 (upd H2 q (.tup (ps.map fun z => V.ref z.1))) := samN nq
    refine k q (ps.map (·.1)) (ps.map (·.2)) _ (by rw [updS, List.map_map]; rfl) (by rw [List.length_map, List.length_map]) (fun i b e h1 h2 => ?_) (by rw [List.length_map]; exact plen) (fun e he => ?_) ?_ ?_ ((d3.upd (d3.neC nq) (d3.neD nq)).le (by omega))
    · rw [List.getElem?_map] at h1 h2
      cases e3 : ps[i]? with
      | none => rw [e3] at h1; cases h1
      | some x =>
        rw [e3] at h1 h2
        cases Option.some.inj h1
        cases Option.some.inj h2
        exact s4 _ _ (hps x (List.mem_of_getElem? e3)).2
    · exact hk e (pm.mem_iff.mp he)
    · rw [List.pairwise_map]
      exact srt
    · exact fun b o h h1 => (s3.trans s4) b o (kp b o h h1 (ne_of_none h nG))
theorem pure_l_some (h : sp_l_some K vs H Q E) : t_l_some K { nx := fun _ H' => Q .non H', rt := Q } (start N_l_some vs) H := by
  obtain ⟨c, D, w, ns, ls, t, most, rfl, dk, hw, nwD, few, m0, m1, ht, k⟩ := h
  refine ⟨by decide, fun L nL => ?_⟩
  have nLD := dk.neD nL
  have nLc := dk.neC nL
  have nwL : w ≠ L := ne_of_none hw nL
  refine ⟨_, rfl, _, rfl, lenL (updN nwL hw) ⟨_, _, rfl, ?_⟩⟩
  have hn : ∃ n : Nat, (if ((ls.map V.int).length : Int) < most then ((ls.map V.int).length : Int) else most) = (n : Int) ∧ (n : Int) ≤ most ∧ (n ≤ ls.length) := by
    rw [List.length_map]
    by_cases h : (ls.length : Int) < most
    · rw [if_pos h]; exact ⟨ls.length, rfl, by omega, by omega⟩
    · rw [if_neg h]; exact ⟨most.toNat, by omega, by omega, by omega⟩
  obtain ⟨n, en, n1, n2⟩ := hn
  rw [en]
  refine ⟨_, rfl, by omega, by omega, ?_⟩
  refine for_range (lo := 0) (n := (n : Int).toNat) (fun i σ H' => Kp2 D L H H' ∧ Dk c D ns (t + i) H' ∧ (∃ xs : List Int, H' L = some (.lst (xs.map V.int)) ∧ (∀ x ∈ xs, x ∈ ls) ∧ xs.length = i) ∧ ∃ z, σ = [some (.ref D), some (.ref w), some (.int most), some (.ref L), z]) ⟨Kp2.kp (Kp.new nL), dk.upd nLc nLD, ⟨[], updS, (fun e h => nomatch h), rfl⟩, _, rfl⟩ ?_ ?_
  · rintro i σ H' hi ⟨kp, d, ⟨xs, hL, hx, hl⟩, z, rfl⟩
    have hw' := kp _ _ hw nwD nwL
    refine ⟨_, rfl, .inl ⟨rfl, _, sqL hL⟩, _, rfl, _, rfl, _, rfl, lenL hw' ⟨c, D, ns, _, _, rfl, d, by omega, by rw [List.length_map]; omega, by rw [List.length_map]; exact small100 (by omega), fun v H2 v0 v1 d2 fr2 => ?_⟩⟩
    rw [List.length_map] at v1
    obtain ⟨j, rfl⟩ := Int.eq_ofNat_of_zero_le v0
    have hj : j < ls.length := by omega
    refine ixL (by rw [fr2 _ nwD]; exact hw') (atI_nat (by rw [List.getElem?_map, List.getElem?_eq_getElem hj]; rfl)) ⟨L, _, _, rfl, rfl, by rw [fr2 _ nLD]; exact hL, ?_, ?_⟩
    · rw [List.length_map]
      exact Nat.lt_of_le_of_lt (show _ ≤ 1000 by omega) (by decide)
    · refine ⟨Kp2.up (kp.trans (Kp2.kp (.fr fr2))), (d2.upd nLc nLD).le (by omega), ⟨xs ++ [ls[j]], by rw [updS, List.map_append]; rfl, fun x hx2 => ?_, by rw [List.length_append, hl]; rfl⟩, _, rfl⟩
      rcases List.mem_append.mp hx2 with h | h
      · exact hx x h
      · rw [List.mem_singleton.mp h]; exact List.getElem_mem hj
  · rintro σ H' ⟨kp, d, ⟨xs, hL, hx, hl⟩, z, rfl⟩
    refine ⟨_, rfl, L, xs, rfl, sqL hL, by omega, fun ys q p u nq np inc mem len => ?_⟩
    have s1 : Same H' (upd (upd H' q u) p (.lst (ys.map V.int))) := (samN nq).trans (samN np)
    refine ⟨p, _, rfl, .inl ⟨sqL updS, fun r nr => ?_⟩⟩
    have s2 := s1.trans (samN (o := .tup (ys.map V.int)) nr)
    have d2 : Dk c D ns (t + (n : Int).toNat) (upd (upd (upd H' q u) p (.lst (ys.map V.int))) r (.tup (ys.map V.int))) := by
      obtain ⟨x1, x2, x3, i, m, u, x4, r⟩ := d
      exact ⟨x1, s2 _ _ x2, x3, i, m, u, s2 _ _ x4, r⟩
    exact k r ys _ updS inc (fun y hy => hx y ((mem y).mp hy)) (by omega) (fun b o h h1 => s2 b o (kp b o h h1 (ne_of_none h nL))) (d2.le (by omega))
end
end Fw

set_option Elab.async false
set_option linter.all false
set_option maxRecDepth 100000
set_option maxHeartbeats 4000000
/-! The family of contents that a law draws. -/
namespace Fw
open PySem L2 RZ RT
def addC (cs : List Ct) (c : Ct) : List Ct := if c ∈ cs then cs else cs ++ [c]
structure FamOk (cs : List Ct) : Prop where
  nd : cs.Nodup
  form : ∀ c ∈ cs, c.form
  inb : ∀ (i : Nat) (c : Ct), cs[i]? = some c → c.inB (cs.take i) = true
theorem FamOk.nil : FamOk [] := ⟨List.nodup_nil, (fun c h => nomatch h), (fun i c h => by cases h)⟩
theorem FamOk.add {cs : List Ct} {c : Ct} (f : FamOk cs) (fo : c.form) (inb : c.inB cs = true) : FamOk (addC cs c) := by
  unfold addC
  by_cases h : c ∈ cs
  · rw [if_pos h]; exact f
  · rw [if_neg h]
    refine ⟨?_, fun d hd => ?_, fun i d hd => ?_⟩
    · rw [List.nodup_append]
      exact ⟨f.nd, by simp, fun x hx y hy e => h (by rw [List.mem_singleton.mp hy] at e; rw [← e]; exact hx)⟩
    · rcases List.mem_append.mp hd with hd | hd
      · exact f.form d hd
      · rw [List.mem_singleton.mp hd]; exact fo
    · by_cases hi : i < cs.length
      · rw [List.getElem?_append_left hi] at hd
        rw [List.take_append_of_le_length (Nat.le_of_lt hi)]
        exact f.inb i d hd
      · have hi2 := (List.getElem?_eq_some_iff.mp hd).1
        rw [List.length_append, List.length_singleton] at hi2
        have e : i = cs.length := by omega
        subst e
        rw [List.getElem?_append_right (Nat.le_refl _), Nat.sub_self] at hd
        cases Option.some.inj hd
        rw [List.take_append_of_le_length (Nat.le_refl _), List.take_length]
        exact inb
theorem addC_len (cs : List Ct) (c : Ct) : (addC cs c).length ≤ cs.length + 1 := by
  unfold addC
  split
  · omega
  · rw [List.length_append]; exact Nat.le_refl _
theorem addC_pre (cs : List Ct) (c : Ct) : ∃ m, addC cs c = cs ++ m := by
  unfold addC
  split
  · exact ⟨[], by simp⟩
  · exact ⟨[c], rfl⟩
theorem addC_app {c1 c2 : List Ct} {c : Ct} (h : c ∉ c1) : addC (c1 ++ c2) c = c1 ++ addC c2 c := by
  unfold addC
  by_cases h2 : c ∈ c2
  · rw [if_pos h2, if_pos (List.mem_append_right _ h2)]
  · rw [if_neg h2, if_neg (fun z => (List.mem_append.mp z).elim h h2), List.append_assoc]
theorem addC_ne (cs : List Ct) (c : Ct) : addC cs c ≠ [] := by
  unfold addC
  split
  · rename_i h; exact fun e => by rw [e] at h; cases h
  · simp
theorem addC_mem {cs : List Ct} {c d : Ct} (h : d ∈ addC cs c) : d ∈ cs ∨ d = c := by
  unfold addC at h
  split at h
  · exact .inl h
  · exact (List.mem_append.mp h).imp id fun z => List.mem_singleton.mp z
theorem hasK_add {cs : List Ct} {c : Ct} {ks : List Str} {i : Int} (h : hasK cs ks i = true) : hasK (addC cs c) ks i = true := by
  obtain ⟨m, e⟩ := addC_pre cs c
  rw [e]
  exact hasK_mono h
theorem hasK_at {cs : List Ct} {c : Ct} {ks : List Str} {i : Nat} (h : cs[i]? = some c) (hk : ks.contains c.word = true) : hasK cs ks (i : Int) = true := by
  unfold hasK
  have hi := (List.getElem?_eq_some_iff.mp h).1
  rw [decide_eq_true (show (0 : Int) ≤ (i : Int) by omega), decide_eq_true (show (i : Int) < (cs.length : Int) by omega), Int.toNat_natCast, List.getD_eq_getElem?_getD, h]
  exact hk
def isTree : Ct → Bool
  | .tree _ => true
  | _ => false
theorem foldl_max_le : ∀ (l : List Int) (x m : Int), x ≤ m → (∀ y ∈ l, y ≤ m) → l.foldl max x ≤ m
  | [], _, _, h, _ => h
  | y :: l, x, m, h, hl => by
    rw [List.foldl_cons]
    exact foldl_max_le l _ m (Int.max_le.mpr ⟨h, hl y List.mem_cons_self⟩) fun z hz => hl z (List.mem_cons_of_mem _ hz)
theorem dmax_le {l : List Int} {m : Int} (h0 : 0 ≤ m) (h : ∀ y ∈ l, y ≤ m) : dmax l ≤ m := by
  cases l with
  | nil => exact h0
  | cons x l => exact foldl_max_le l x m (h x List.mem_cons_self) fun y hy => h y (List.mem_cons_of_mem _ hy)
theorem depOf_le {ds : List Int} {c : Ct} {m : Int} (h0 : 0 ≤ m) (h : ∀ d ∈ ds, d ≤ m) : depOf ds c ≤ 1 + m := by
  cases c with
  | leaf rows => show (0 : Int) ≤ 1 + m; omega
  | ver ps r s => show (0 : Int) ≤ 1 + m; omega
  | tree es =>
    show 1 + dmax _ ≤ 1 + m
    have := dmax_le (l := es.map fun e => ds.getD e.2.toNat 0) h0 fun y hy => by
      obtain ⟨e, _, rfl⟩ := List.mem_map.mp hy
      rw [List.getD_eq_getElem?_getD]
      cases q : ds[e.2.toNat]? with
      | none => exact h0
      | some z => exact h z (List.mem_of_getElem? q)
    omega
theorem deps_bd : ∀ (more cs : List Ct), (∀ d ∈ deps cs, d ≤ (cs.countP isTree : Int)) → ∀ d ∈ deps (cs ++ more), d ≤ ((cs ++ more).countP isTree : Int)
  | [], cs, h => by rw [List.append_nil]; exact h
  | c :: more, cs, h => by
    have := deps_bd more (cs ++ [c]) fun d hd => by
      rw [deps_snoc] at hd
      rw [List.countP_append]
      rcases List.mem_append.mp hd with hd | hd
      · have := h d hd
        omega
      · rw [List.mem_singleton.mp hd]
        cases c with
        | leaf rows => show (0 : Int) ≤ _; omega
        | ver ps r s => show (0 : Int) ≤ _; omega
        | tree es =>
          have h1 := depOf_le (ds := deps cs) (c := .tree es) (m := (cs.countP isTree : Int)) (by omega) h
          have h2 : [Ct.tree es].countP isTree = 1 := rfl
          rw [h2]
          omega
    rw [List.append_assoc] at this
    exact this
theorem deps_le (cs : List Ct) : ∀ d ∈ deps cs, d ≤ (cs.countP isTree : Int) := by
  have := deps_bd cs [] fun d h => nomatch h
  exact this
theorem count_two {c1 c2 : List Ct} (h1 : ∀ c ∈ c1, isTree c = false) : (c1 ++ c2).countP isTree ≤ c2.length := by
  rw [List.countP_append, List.countP_eq_zero.mpr fun c hc => by rw [h1 c hc]; simp, Nat.zero_add]
  exact List.countP_le_length
/-- a tree over what is there, in a book of few trees -/
theorem inB_tree {cs : List Ct} {es : List (Str × Int)} (h : ∀ e ∈ es, hasK cs ["leaf", "tree"] e.2 = true) (few : cs.countP isTree ≤ 7) : (Ct.tree es).inB cs = true := by
  unfold Ct.inB
  rw [Bool.and_eq_true]
  refine ⟨List.all_eq_true.mpr h, decide_eq_true ?_⟩
  have := depOf_le (ds := deps cs) (c := .tree es) (m := (cs.countP isTree : Int)) (by omega) (deps_le cs)
  omega
theorem give_ok {K : PySem.W.Frag} {H : Hp} {Q : VK} {E : XK} {T a : Addr} {as : List Addr} {cs : List Ct} {c : Ct} (hT : H T = some (.lst (as.map V.ref))) (hcs : CsAt H as cs) (hc : CtAt H a c) (fo : c.form) (f : FamOk cs) (few : cs.length ≤ 1000)
    (k : ∀ (i : Nat) (as' : List Addr) (H' : Hp), H' T = some (.lst (as'.map V.ref)) → CsAt H' as' (addC cs c) → (addC cs c)[i]? = some c → (∀ b, b ≠ T → H' b = H b) → Q (.int (i : Int)) H') : sp_l_give K [.ref T, .ref a] H Q E := by
  refine ⟨T, a, as, cs, c, rfl, hT, hcs, hc, fo, f.form, f.nd, few, fun i hi => ?_, fun hn => ?_⟩
  · have e : addC cs c = cs := if_pos (List.mem_of_getElem? hi)
    refine k i as H hT ?_ ?_ fun b _ => rfl
    · rw [e]; exact hcs
    · rw [e]; exact hi
  · have e : addC cs c = cs ++ [c] := if_neg hn
    have tm : TM H (upd H T (.lst ((as ++ [a]).map V.ref))) := fun b xs h => updN (ne_of h hT fun z => by cases z) h
    refine k cs.length (as ++ [a]) _ updS ?_ ?_ fun b nb => upd_ne nb
    · rw [e]; exact (hcs.mono tm).snoc (hc.mono tm)
    · rw [e, List.getElem?_append_right (Nat.le_refl _), Nat.sub_self]; rfl
/-- all but these stands -/
def Kf (F : List Addr) (H H' : Hp) : Prop := ∀ b o, H b = some o → b ∉ F → H' b = some o
theorem Kf.refl {F : List Addr} {H : Hp} : Kf F H H := fun _ _ h _ => h
theorem Kf.trans {F : List Addr} {H H1 H2 : Hp} (a : Kf F H H1) (b : Kf F H1 H2) : Kf F H H2 := fun x o h n => b x o (a x o h n) n
theorem Kf.kp {F : List Addr} {D : Addr} {H H' : Hp} (k : Kp D H H') (h : D ∈ F) : Kf F H H' := fun b o e n => k b o e fun z => n (by rw [z]; exact h)
theorem Kf.same {F : List Addr} {H H' : Hp} (k : Same H H') : Kf F H H' := fun b o e _ => k b o e
theorem Kf.but {F : List Addr} {T : Addr} {H H' : Hp} (k : ∀ b, b ≠ T → H' b = H b) (h : T ∈ F) : Kf F H H' := fun b o e n => (k b fun z => n (by rw [z]; exact h)).trans e
theorem Kf.up {F : List Addr} {T : Addr} {H H' : Hp} {o : HO} (k : Kf F H H') (h : T ∈ F) : Kf F H (upd H' T o) := fun b u e n => updN (fun z => n (by rw [z]; exact h)) (k b u e n)
theorem Kf.sub {F G : List Addr} {H H' : Hp} (k : Kf F H H') (h : ∀ x ∈ F, x ∈ G) : Kf G H H' := fun b o e n => k b o e fun z => n (h b z)
/-- what is new may change -/
theorem Kf.out {F : List Addr} {D : Addr} {H H1 H' : Hp} (s : Kp D H H1) (k : Kf F H1 H') (nF : ∀ x ∈ F, x = D ∨ H x = none) : Kp D H H' := fun b o h n => k b o (s b o h n) fun z => by
  rcases nF b z with e | e
  · exact n e
  · rw [h] at e; cases e
theorem Dk.but {c D T : Addr} {ns : List Int} {t : Nat} {H H' : Hp} (d : Dk c D ns t H) (k : ∀ b, b ≠ T → H' b = H b) (h1 : T ≠ c) (h2 : T ≠ D) : Dk c D ns t H' := by
  obtain ⟨a, b, e, i, n, u, hh, r⟩ := d
  exact ⟨a, (k _ h1.symm).trans b, e, i, n, u, (k _ h2.symm).trans hh, r⟩
def sp_l_family (_ : PySem.W.Frag) : Sp := fun vs H Q _ => ∃ (c D : Addr) (ns : List Int) (t : Nat) (l tr v : Int), vs = [.ref D, .int l, .int tr, .int v] ∧ Dk c D ns t H ∧ 1 ≤ l ∧ l ≤ 40 ∧ 0 ≤ tr ∧ tr ≤ 7 ∧ 0 ≤ v ∧ v ≤ 40 ∧ (0 < v → 0 < tr) ∧ t + 20000 < 1000000000 ∧
  ∀ (T : Addr) (as : List Addr) (c1 c2 c3 : List Ct) (H' : Hp), H T = none → H' T = some (.lst (as.map V.ref)) → CsAt H' as (c1 ++ c2 ++ c3) → FamOk (c1 ++ c2 ++ c3) → (∀ d ∈ c1, d.word = "leaf") → c1 ≠ [] → (∀ d ∈ c2, d.word = "tree") → (0 < tr → c2 ≠ []) → (∀ d ∈ c3, d.word = "version") →
    (c1.length : Int) ≤ l → (c2.length : Int) ≤ tr → (c3.length : Int) ≤ v → Kp D H H' → Dk c D ns (t + 20000) H' → Q (.ref T) H'
theorem len_l_family {K : PySem.W.Frag} {vs : List V} {H : Hp} {Q : VK} {E : XK} (h : sp_l_family K vs H Q E) : vs.length = 4 := by obtain ⟨_, _, _, _, _, _, _, rfl, _⟩ := h; rfl
abbrev N_l_family : List Str := ["_law_deck_here", "_law_leaves", "_law_trees", "_law_versions", "_law_things", "_law_rows_here", "_law_lows", "_law_k", "_law_roots", "_law_stands", "_law_parents", "_law_root"]
def t_l_family_vers (K : PySem.W.Frag) : TS := (tSeq (tFor (iRng1 (tCons (tVar 3) tNil)) (gName 7) (tSeq (tAsg (tCall (sp_l_some K) [] E0 (tCons (tVar 0) (tCons (tSl (rSlL K) (tVar 9) (tPart (tUn rNegI (tC (.int 5)))) tNoPart) (tCons (tCall (sp_l_draw K) [] E0 (tCons (tVar 0) (tCons (tC (.int 4)) tNil))) tNil)))) (gName 10))
    (tSeq (tAsg (tOp (rIx K) (tVar 8) (tCall (sp_l_draw K) [] E0 (tCons (tVar 0) (tCons (tCB (fLen K) (tCons (tVar 8) tNil)) tNil)))) (gName 11))
    (tDrop (tBM K "list" rAppend (tVar 9) (tCons (tCall (sp_l_give K) [] E0 (tCons (tVar 4) (tCons (tTup (tCons (tC (.str "version")) (tCons (tVar 10) (tCons (tVar 11) (tCons (tCall (sp_l_draw K) [] E0 (tCons (tVar 0) (tCons (tOp rAddI (tOp rPowI (tC (.int 10)) (tC (.int 18))) (tC (.int 1))) tNil))) tNil))))) tNil))) tNil))))))
    (tRet (tVar 4)))
def t_l_family_mid2 (K : PySem.W.Frag) : TS := (tSeq (tAsg (tLst tNil) (gName 9))
    (t_l_family_vers K))
def t_l_family_trees (K : PySem.W.Frag) : TS := (tSeq (tFor (iRng1 (tCons (tVar 2) tNil)) (gName 7) (tDrop (tBM K "list" rAppend (tVar 8) (tCons (tCall (sp_l_give K) [] E0 (tCons (tVar 4) (tCons (tTup (tCons (tC (.str "tree")) (tCons (tCall (sp_l_entries K) [] E0 (tCons (tVar 0) (tCons (tOp rCat (tVar 6) (tVar 8)) tNil))) tNil))) tNil))) tNil))))
    (t_l_family_mid2 K))
def t_l_family_mid (K : PySem.W.Frag) : TS := (tSeq (tAsg (tLst tNil) (gName 8))
    (t_l_family_trees K))
def t_l_family_leaves (K : PySem.W.Frag) : TS := (tSeq (tFor (iRng1 (tCons (tVar 1) tNil)) (gName 7) (tSeq (tAsg (tCall (sp_l_rows K) [] E0 (tCons (tVar 0) (tCons (tVar 5) tNil))) (gName 5))
    (tDrop (tBM K "list" rAppend (tVar 6) (tCons (tCall (sp_l_give K) [] E0 (tCons (tVar 4) (tCons (tTup (tCons (tC (.str "leaf")) (tCons (tVar 5) tNil))) tNil))) tNil)))))
    (t_l_family_mid K))
def t_l_family (K : PySem.W.Frag) : TS := (tSeq (tAsg (tLst tNil) (gName 4))
    (tSeq (tAsg (tTup tNil) (gName 5))
    (tSeq (tAsg (tLst tNil) (gName 6))
    (t_l_family_leaves K))))
theorem word_tree {c : Ct} (h : c.word = "leaf" ∨ c.word = "version") : isTree c = false := by
  cases c with
  | leaf rows => rfl
  | ver ps r s => rfl
  | tree es => rcases h with h | h
               · exact absurd h wv_lt.symm
               · exact absurd h wv_tv
theorem con1 {a : Str} : ([a] : List Str).contains a = true := by simp
theorem con2 {a b : Str} : ([a, b] : List Str).contains a = true := by simp
theorem con3 {a b : Str} : ([a, b] : List Str).contains b = true := by simp
theorem cut_ints (xs : List Int) (lo hi : Option Int) : ∃ ys : List Int, cutV (xs.map V.int) lo hi = ys.map V.int ∧ (∀ y ∈ ys, y ∈ xs) ∧ ys.length ≤ xs.length := by
  unfold cutV
  rw [List.length_map]
  refine ⟨(xs.drop (HT.sIx xs.length 0 lo)).take (HT.sIx xs.length xs.length hi - HT.sIx xs.length 0 lo), by rw [List.map_take, List.map_drop], fun y hy => List.mem_of_mem_drop (List.mem_of_mem_take hy), ?_⟩
  rw [List.length_take, List.length_drop]
  omega
section
variable {K : PySem.W.Frag} {vs : List V} {H : Hp} {Q : VK} {E : XK}
theorem fam_vers {c D T W R S : Addr} {ns : List Int} {t : Nat} {l tr v : Int} {as : List Addr} {c1 c2 : List Ct} {rs : List Int} {z5 z7 z10 z11 : Option V} (dk : Dk c D ns t H) (ne : D ≠ T ∧ D ≠ R ∧ D ≠ S ∧ T ≠ R ∧ T ≠ S ∧ R ≠ S ∧ c ≠ T ∧ c ≠ S) (hT : H T = some (.lst (as.map V.ref))) (hcs : CsAt H as (c1 ++ c2)) (f : FamOk (c1 ++ c2))
    (hR : H R = some (.lst (rs.map V.int))) (rk : ∀ x ∈ rs, hasK (c1 ++ c2) ["tree"] x = true) (rz : rs.length ≤ 1000) (hS : H S = some (.lst [])) (k1 : ∀ d ∈ c1, d.word = "leaf") (k2 : ∀ d ∈ c2, d.word = "tree") (v0 : 0 ≤ v) (v1 : v ≤ 40) (vt : 0 < v → rs ≠ []) (cl : c1.length + c2.length ≤ 100) (ht : t + 2000 < 1000000000)
    (k : ∀ (as' : List Addr) (c3 : List Ct) (H' : Hp), H' T = some (.lst (as'.map V.ref)) → CsAt H' as' (c1 ++ c2 ++ c3) → FamOk (c1 ++ c2 ++ c3) → (∀ d ∈ c3, d.word = "version") → (c3.length : Int) ≤ v → Kf [D, T, S] H H' → Dk c D ns (t + 2000) H' → Q (.ref T) H') :
    t_l_family_vers K { nx := fun _ H' => Q .non H', rt := Q } [some (.ref D), some (.int l), some (.int tr), some (.int v), some (.ref T), z5, some (.ref W), z7, some (.ref R), some (.ref S), z10, z11] H := by
  obtain ⟨nDT, nDR, nDS, nTR, nTS, nRS, ncT, ncS⟩ := ne
  refine ⟨_, rfl, _, rfl, by omega, by omega, ?_⟩
  refine for_range (lo := 0) (n := v.toNat) (fun i σ H' => Kf [D, T, S] H H' ∧ Dk c D ns (t + 45 * i) H' ∧ (∃ (as' : List Addr) (c3 : List Ct) (ss : List Int), H' T = some (.lst (as'.map V.ref)) ∧ CsAt H' as' (c1 ++ c2 ++ c3) ∧ FamOk (c1 ++ c2 ++ c3) ∧ (∀ d ∈ c3, d.word = "version") ∧ c3.length ≤ i ∧ H' S = some (.lst (ss.map V.int)) ∧ (∀ x ∈ ss, hasK (c1 ++ c2 ++ c3) ["version"] x = true) ∧ ss.length = i) ∧ ∃ z7 z10 z11, σ = [some (.ref D), some (.int l), some (.int tr), some (.int v), some (.ref T), z5, some (.ref W), z7, some (.ref R), some (.ref S), z10, z11])
    ⟨.refl, dk, ⟨as, [], [], hT, by rw [List.append_nil]; exact hcs, by rw [List.append_nil]; exact f, (fun d h => nomatch h), Nat.le_refl _, hS, (fun d h => nomatch h), rfl⟩, _, _, _, rfl⟩ ?_ ?_
  · rintro i σ H1 hi ⟨kf, d1, ⟨as1, c3, ss, hT1, hcs1, f1, k3, hl3, hS1, sk, sl⟩, z7, z10, z11, rfl⟩
    have hi40 : i < 40 := by omega
    -- parents
    refine ⟨_, rfl, _, rfl, _, rfl, _, rfl, S, _, rfl, sqL hS1, fun P nP => ?_⟩
    obtain ⟨qs, eq, hq, lq⟩ := cut_ints ss (some (-5)) none
    have nPD := d1.neD nP
    have nPc := d1.neC nP
    have hP2 : upd H1 P (.lst (qs.map V.int)) P = some (.lst (qs.map V.int)) := updS
    show tCons (tCall (sp_l_draw K) [] E0 (tCons (tVar 0) (tCons (tC (.int 4)) tNil))) tNil _ (upd H1 P (.lst (cutV (ss.map V.int) (some (-5)) none))) _
    rw [eq]
    have d2 := d1.upd (o := .lst (qs.map V.int)) nPc nPD
    have s2 : Same H1 (upd H1 P (.lst (qs.map V.int))) := samN nP
    generalize upd H1 P (.lst (qs.map V.int)) = H2 at hP2 d2 s2
    refine ⟨_, rfl, c, D, ns, _, 4, rfl, d2, by omega, by decide, by decide, fun m H3 m0 m1 d3 fr3 => ?_⟩
    refine ⟨c, D, P, ns, qs, _, m, rfl, d3, by rw [fr3 _ nPD]; exact hP2, nPD, by omega, m0, by omega, by omega, fun p ps H4 hp inc sub lp kp4 d4 => ?_⟩
    -- root
    have kf4 : Kf [D, T, S] H1 H4 := (Kf.same s2).trans ((Kf.but fr3 (by simp)).trans (Kf.kp kp4 (by simp)))
    have keep4 : ∀ b o, H1 b = some o → b ≠ D → H4 b = some o := fun b o e n => kp4 b o ((fr3 b n).trans (s2 b o e)) n
    have hR4 : H4 R = some (.lst (rs.map V.int)) := keep4 _ _ (kf _ _ hR (by simp [nDR.symm, nTR.symm, nRS])) nDR.symm
    have rpos : 0 < rs.length := List.length_pos_iff.mpr (vt (by omega))
    refine ⟨_, rfl, _, rfl, _, rfl, lenL hR4 ⟨c, D, ns, _, _, rfl, d4, by omega, by rw [List.length_map]; omega, by rw [List.length_map]; exact small100 (by omega), fun w H5 w0 w1 d5 fr5 => ?_⟩⟩
    rw [List.length_map] at w1
    obtain ⟨j, rfl⟩ := Int.eq_ofNat_of_zero_le w0
    have hj : j < rs.length := by omega
    refine ixL (by rw [fr5 _ nDR.symm]; exact hR4) (atI_nat (by rw [List.getElem?_map, List.getElem?_eq_getElem hj]; rfl)) ?_
    have keep5 : ∀ b o, H1 b = some o → b ≠ D → H5 b = some o := fun b o e n => (fr5 b n).trans (keep4 b o e n)
    have hS5 := keep5 _ _ hS1 nDS.symm
    have hT5 := keep5 _ _ hT1 nDT.symm
    -- the version
    refine ⟨_, rfl, .inl ⟨rfl, _, sqL hS5⟩, _, rfl, ?_⟩
    refine ⟨_, rfl, _, rfl, _, rfl, ⟨_, _, rfl, rfl, ⟨by decide, by decide, by decide⟩, _, _, rfl, rfl, c, D, ns, _, _, rfl, d5, by omega, by decide +kernel, by decide +kernel, fun st H6 st0 st1 d6 fr6 => ⟨by show (4 : Nat) ≤ sizeLine; decide, fun A nA => ?_⟩⟩⟩
    have hp6 : H6 p = some (.tup (ps.map V.int)) := by
      have npD : p ≠ D := by
        obtain ⟨xs, e⟩ := d4.someD
        exact ne_of hp e (by intro z; cases z)
      rw [fr6 _ npD, fr5 _ npD]
      exact hp
    have keep6 : ∀ b o, H1 b = some o → b ≠ D → H6 b = some o := fun b o e n => (fr6 b n).trans (keep5 b o e n)
    have sA : Same H6 (upd H6 A (.tup [.str "version", .ref p, .int rs[j], .int st])) := samN nA
    have hc : CtAt (upd H6 A (.tup [.str "version", .ref p, .int rs[j], .int st])) A (.ver ps rs[j] st) := ⟨p, updS, sA _ _ hp6⟩
    have d7 := d6.upd (o := .tup [.str "version", .ref p, .int rs[j], .int st]) (d6.neC nA) (d6.neD nA)
    generalize upd H6 A (.tup [.str "version", .ref p, .int rs[j], .int st]) = H7 at sA hc d7
    have keep7 : ∀ b o, H1 b = some o → b ≠ D → H7 b = some o := fun b o e n => sA b o (keep6 b o e n)
    have tm7 : TM H1 H7 := fun b xs h => keep7 b _ h (by
      obtain ⟨ys, e⟩ := d1.someD
      exact ne_of h e (by intro z; cases z))
    have st1 : st < 1000000000000000001 := st1
    have fo : (Ct.ver ps rs[j] st).form := ⟨by omega, inc, st0, by omega⟩
    have inb : (Ct.ver ps rs[j] st).inB (c1 ++ c2 ++ c3) = true := by
      unfold Ct.inB
      rw [Bool.and_eq_true]
      exact ⟨List.all_eq_true.mpr fun x hx => sk x (hq x (sub x hx)), hasK_mono (rk _ (List.getElem_mem hj))⟩
    have nin : (Ct.ver ps rs[j] st) ∉ c1 ++ c2 := fun h => by
      rcases List.mem_append.mp h with h | h
      · exact wv_lv (k1 _ h).symm
      · exact wv_tv (k2 _ h).symm
    dsimp only [tNil]
    show sp_l_give K [V.ref T, V.ref A] _ _ E0
    refine give_ok (keep7 _ _ hT1 nDT.symm) (hcs1.mono tm7) hc fo f1 (by rw [List.length_append, List.length_append]; omega) fun n as2 H8 hT8 hcs8 hn fr8 => ?_
    have e8 := addC_app (c2 := c3) nin
    have hS8 : H8 S = some (.lst (ss.map V.int)) := by rw [fr8 _ nTS.symm]; exact keep7 _ _ hS1 nDS.symm
    refine ⟨S, _, _, rfl, rfl, hS8, ?_, ?_⟩
    · rw [List.length_map]
      exact Nat.lt_of_le_of_lt (show _ ≤ 1000 by omega) (by decide)
    have f8 := f1.add fo inb
    rw [e8] at hcs8 hn f8
    have tm9 : TM H8 (upd H8 S (.lst (ss.map V.int ++ [.int (n : Int)]))) := fun b xs h => updN (ne_of h hS8 (by intro z; cases z)) h
    refine ⟨kf.trans ((kf4.trans ((Kf.but fr5 (by simp)).trans ((Kf.but fr6 (by simp)).trans ((Kf.same sA).trans (Kf.but fr8 (by simp)))))).up (by simp)), ((d7.but fr8 ncT.symm nDT.symm).upd ncS.symm nDS.symm).le (by omega), ⟨as2, addC c3 (.ver ps rs[j] st), ss ++ [(n : Int)], updN nTS hT8, hcs8.mono tm9, f8, fun d hd => ?_, ?_, by rw [updS, List.map_append]; rfl, fun x hx => ?_, by rw [List.length_append, sl]; rfl⟩, _, _, _, rfl⟩
    · rcases addC_mem hd with h | h
      · exact k3 d h
      · rw [h]; rfl
    · have := addC_len c3 (.ver ps rs[j] st)
      omega
    · rcases List.mem_append.mp hx with h | h
      · rw [← e8]; exact hasK_add (sk x h)
      · rw [List.mem_singleton.mp h]; exact hasK_at hn con1
  · rintro σ H1 ⟨kf, d1, ⟨as1, c3, ss, hT1, hcs1, f1, k3, hl3, hS1, sk, sl⟩, z7, z10, z11, rfl⟩
    exact ⟨_, rfl, k as1 c3 H1 hT1 hcs1 f1 k3 (by omega) kf (d1.le (by omega))⟩
theorem fam_trees {c D T W R : Addr} {ns : List Int} {t : Nat} {l tr v : Int} {as : List Addr} {c1 : List Ct} {ls : List Int} {z5 z7 z9 z10 z11 : Option V} (dk : Dk c D ns t H) (ne : D ≠ T ∧ D ≠ R ∧ D ≠ W ∧ T ≠ R ∧ T ≠ W ∧ R ≠ W ∧ c ≠ T ∧ c ≠ R) (hT : H T = some (.lst (as.map V.ref))) (hcs : CsAt H as c1) (f : FamOk c1)
    (hW : H W = some (.lst (ls.map V.int))) (lk : ∀ x ∈ ls, hasK c1 ["leaf", "tree"] x = true) (lz : ls.length ≤ 100) (lne : ls ≠ []) (hR : H R = some (.lst [])) (k1 : ∀ d ∈ c1, d.word = "leaf") (t0 : 0 ≤ tr) (t1 : tr ≤ 7) (v0 : 0 ≤ v) (v1 : v ≤ 40) (vt : 0 < v → 0 < tr) (cl : c1.length ≤ 50) (ht : t + 3000 < 1000000000)
    (k : ∀ (T' : Addr) (as' : List Addr) (c2 c3 : List Ct) (H' : Hp), T' = T → H' T = some (.lst (as'.map V.ref)) → CsAt H' as' (c1 ++ c2 ++ c3) → FamOk (c1 ++ c2 ++ c3) → (∀ d ∈ c2, d.word = "tree") → (0 < tr → c2 ≠ []) → (∀ d ∈ c3, d.word = "version") → (c2.length : Int) ≤ tr → (c3.length : Int) ≤ v → Kf [D, T, R] H H' → Dk c D ns (t + 3000) H' → Q (.ref T) H') :
    t_l_family_trees K { nx := fun _ H' => Q .non H', rt := Q } [some (.ref D), some (.int l), some (.int tr), some (.int v), some (.ref T), z5, some (.ref W), z7, some (.ref R), z9, z10, z11] H := by
  obtain ⟨nDT, nDR, nDW, nTR, nTW, nRW, ncT, ncR⟩ := ne
  refine ⟨_, rfl, _, rfl, by omega, by omega, ?_⟩
  refine for_range (lo := 0) (n := tr.toNat) (fun i σ H' => Kf [D, T, R] H H' ∧ Dk c D ns (t + 45 * i) H' ∧ (∃ (as' : List Addr) (c2 : List Ct) (rs : List Int), H' T = some (.lst (as'.map V.ref)) ∧ CsAt H' as' (c1 ++ c2) ∧ FamOk (c1 ++ c2) ∧ (∀ d ∈ c2, d.word = "tree") ∧ c2.length ≤ i ∧ (0 < i → c2 ≠ []) ∧ H' R = some (.lst (rs.map V.int)) ∧ (∀ x ∈ rs, hasK (c1 ++ c2) ["tree"] x = true) ∧ rs.length = i) ∧ ∃ z7 z9 z10 z11, σ = [some (.ref D), some (.int l), some (.int tr), some (.int v), some (.ref T), z5, some (.ref W), z7, some (.ref R), z9, z10, z11])
    ⟨.refl, dk, ⟨as, [], [], hT, by rw [List.append_nil]; exact hcs, by rw [List.append_nil]; exact f, (fun d h => nomatch h), Nat.le_refl _, (fun z => absurd z (Nat.lt_irrefl _)), hR, (fun d h => nomatch h), rfl⟩, _, _, _, _, rfl⟩ ?_ ?_
  · rintro i σ H1 hi ⟨kf, d1, ⟨as1, c2, rs, hT1, hcs1, f1, k2, hl2, _, hR1, rk, rl⟩, z7, z9, z10, z11, rfl⟩
    have hi7 : i < 7 := by omega
    have hW1 := kf _ _ hW (by simp [nDW.symm, nTW.symm, nRW.symm])
    refine ⟨_, rfl, .inl ⟨rfl, _, sqL hR1⟩, _, rfl, ?_⟩
    refine ⟨_, rfl, _, rfl, _, rfl, W, R, _, _, rfl, rfl, hW1, hR1, ?_, fun P nP => ?_⟩
    · rw [List.length_map, List.length_map]
      exact Nat.le_trans (show _ ≤ 1000 by omega) (by decide)
    have nPD := d1.neD nP
    have nPc := d1.neC nP
    have d2 := d1.upd (o := .lst (ls.map V.int ++ rs.map V.int)) nPc nPD
    have s2 : Same H1 (upd H1 P (.lst (ls.map V.int ++ rs.map V.int))) := samN nP
    have hP2 : upd H1 P (.lst (ls.map V.int ++ rs.map V.int)) P = some (.lst ((ls ++ rs).map V.int)) := by rw [updS, List.map_append]
    generalize upd H1 P (.lst (ls.map V.int ++ rs.map V.int)) = H2 at hP2 d2 s2
    refine ⟨c, D, P, ns, ls ++ rs, _, rfl, d2, hP2, nPD, by simp [lne], by rw [List.length_append]; omega, by omega, fun r bs es H3 hr lb hb le hes pw kp3 d3 => ⟨by show (2 : Nat) ≤ sizeLine; decide, fun A nA => ?_⟩⟩
    have keep3 : ∀ b o, H1 b = some o → b ≠ D → H3 b = some o := fun b o e n => kp3 b o (s2 b o e) n
    have sA : Same H3 (upd H3 A (.tup [.str "tree", .ref r])) := samN nA
    have hc : CtAt (upd H3 A (.tup [.str "tree", .ref r])) A (.tree es) := ⟨r, bs, updS, sA _ _ hr, lb, fun i b e x y => sA _ _ (hb i b e x y)⟩
    have d4 := d3.upd (o := .tup [.str "tree", .ref r]) (d3.neC nA) (d3.neD nA)
    generalize upd H3 A (.tup [.str "tree", .ref r]) = H4 at sA hc d4
    have keep4 : ∀ b o, H1 b = some o → b ≠ D → H4 b = some o := fun b o e n => sA b o (keep3 b o e n)
    have tm4 : TM H1 H4 := fun b xs h => keep4 b _ h (by
      obtain ⟨ys, e⟩ := d1.someD
      exact ne_of h e (by intro z; cases z))
    have fo : (Ct.tree es).form := ⟨by omega, fun e he => (hes e he).1, pw⟩
    have inb : (Ct.tree es).inB (c1 ++ c2) = true := by
      refine inB_tree (fun e he => ?_) (Nat.le_trans (count_two fun d hd => word_tree (.inl (k1 d hd))) (by omega))
      rcases List.mem_append.mp (hes e he).2 with h | h
      · exact hasK_mono (lk _ h)
      · have := rk _ h
        unfold hasK at this ⊢
        simp only [Bool.and_eq_true, decide_eq_true_eq] at this ⊢
        refine ⟨this.1, this.2.1, ?_⟩
        have q := this.2.2
        simp at q ⊢
        exact .inr q
    have nin : (Ct.tree es) ∉ c1 := fun h => wv_lt (k1 _ h).symm
    dsimp only [tNil]
    show sp_l_give K [V.ref T, V.ref A] _ _ E0
    refine give_ok (keep4 _ _ hT1 nDT.symm) (hcs1.mono tm4) hc fo f1 (by rw [List.length_append]; omega) fun n as2 H8 hT8 hcs8 hn fr8 => ?_
    have e8 := addC_app (c2 := c2) nin
    have hR8 : H8 R = some (.lst (rs.map V.int)) := by rw [fr8 _ nTR.symm]; exact keep4 _ _ hR1 nDR.symm
    refine ⟨R, _, _, rfl, rfl, hR8, ?_, ?_⟩
    · rw [List.length_map]
      exact Nat.lt_of_le_of_lt (show _ ≤ 1000 by omega) (by decide)
    have f8 := f1.add fo inb
    rw [e8] at hcs8 hn f8
    have tm9 : TM H8 (upd H8 R (.lst (rs.map V.int ++ [.int (n : Int)]))) := fun b xs h => updN (ne_of h hR8 (by intro z; cases z)) h
    refine ⟨kf.trans (((Kf.same s2).trans ((Kf.kp kp3 (by simp)).trans ((Kf.same sA).trans (Kf.but fr8 (by simp))))).up (by simp)), ((d4.but fr8 ncT.symm nDT.symm).upd ncR.symm nDR.symm).le (by omega), ⟨as2, addC c2 (.tree es), rs ++ [(n : Int)], updN nTR hT8, hcs8.mono tm9, f8, fun d hd => ?_, ?_, fun _ => addC_ne _ _, by rw [updS, List.map_append]; rfl, fun x hx => ?_, by rw [List.length_append, rl]; rfl⟩, _, _, _, _, rfl⟩
    · rcases addC_mem hd with h | h
      · exact k2 d h
      · rw [h]; rfl
    · have := addC_len c2 (.tree es)
      omega
    · rcases List.mem_append.mp hx with h | h
      · rw [← e8]; exact hasK_add (rk x h)
      · rw [List.mem_singleton.mp h]; exact hasK_at hn con1
  · rintro σ H1 ⟨kf, d1, ⟨as1, c2, rs, hT1, hcs1, f1, k2, hl2, ne2, hR1, rk, rl⟩, z7, z9, z10, z11, rfl⟩
    refine ⟨by decide, fun S nS => ?_⟩
    have sS : Same H1 (upd H1 S (.lst [])) := samN nS
    refine fam_vers (d1.upd (d1.neC nS) (d1.neD nS)) ⟨nDT, nDR, (d1.neD nS).symm, nTR, ne_of_none hT1 nS, ne_of_none hR1 nS, ncT, (d1.neC nS).symm⟩ (sS _ _ hT1) (hcs1.mono (TM.of sS)) f1 (sS _ _ hR1) rk (by omega) updS k1 k2 v0 v1 (fun h e => ?_) (by omega) (by omega) fun as' c3 H' hT' hcs' f' k3 l3 kf' d' => ?_
    · have := vt h
      rw [e] at rl
      have : tr.toNat = 0 := rl.symm
      omega
    · have nS0 : H S = none ∨ S = D ∨ S = T ∨ S = R := by
        by_cases q : S ∈ [D, T, R]
        · simp at q; exact .inr q
        · cases e : H S with
          | none => exact .inl rfl
          | some o => rw [kf S o e q] at nS; cases nS
      have nSD := d1.neD nS
      have nST : S ≠ T := (ne_of_none hT1 nS).symm
      have nSR : S ≠ R := (ne_of_none hR1 nS).symm
      have nS0 : H S = none := by
        rcases nS0 with h | h | h | h
        · exact h
        · exact absurd h nSD
        · exact absurd h nST
        · exact absurd h nSR
      refine k T as' c2 c3 H' rfl hT' hcs' f' k2 (fun h => ne2 (by omega)) k3 (by omega) l3 (fun b o e n => ?_) (d'.le (by omega))
      have hb : b ≠ S := ne_of_none e nS0
      have n2 : b ∉ [D, T, S] := fun z => by
        simp at z n
        rcases z with z | z | z
        · exact n.1 z
        · exact n.2.1 z
        · exact hb z
      exact kf' b o (sS b o (kf b o e n)) n2
theorem pure_l_family (h : sp_l_family K vs H Q E) : t_l_family K { nx := fun _ H' => Q .non H', rt := Q } (start N_l_family vs) H := by
  obtain ⟨c, D, ns, t, l, tr, v, rfl, dk, l0, l1, t0, t1, v0, v1, vt, ht, k⟩ := h
  refine ⟨by decide, fun T nT => ?_⟩
  have d1 := dk.upd (o := .lst []) (dk.neC nT) (dk.neD nT)
  have k1 : Kp D H (upd H T (.lst [])) := .new nT
  have hT1 : upd H T (.lst []) T = some (.lst ([].map V.ref)) := updS
  have nDT := (dk.neD nT).symm
  have ncT := (dk.neC nT).symm
  generalize upd H T (.lst []) = H1 at d1 k1 hT1
  refine ⟨by decide, fun r nr => ?_⟩
  have nTr : T ≠ r := ne_of_none hT1 nr
  have d2 := d1.upd (o := .tup []) (d1.neC nr) (d1.neD nr)
  have k2 : Kp D H (upd H1 r (.tup [])) := k1.trans (.new nr)
  have hT2 : upd H1 r (.tup []) T = some (.lst ([].map V.ref)) := updN nTr hT1
  have hr2 : upd H1 r (.tup []) r = some (.tup (([] : List Str).map V.str)) := updS
  generalize upd H1 r (.tup []) = H2 at d2 k2 hT2 hr2
  refine ⟨by decide, fun W nW => ?_⟩
  have nTW : T ≠ W := ne_of_none hT2 nW
  have nrW : r ≠ W := ne_of_none hr2 nW
  have nDW := (d2.neD nW).symm
  have ncW := (d2.neC nW).symm
  have d3 := d2.upd (o := .lst []) ncW.symm nDW.symm
  have k3 : Kp D H (upd H2 W (.lst [])) := k2.trans (.new nW)
  have hT3 : upd H2 W (.lst []) T = some (.lst ([].map V.ref)) := updN nTW hT2
  have hr3 : upd H2 W (.lst []) r = some (.tup (([] : List Str).map V.str)) := updN nrW hr2
  have hW3 : upd H2 W (.lst []) W = some (.lst (([] : List Int).map V.int)) := updS
  have nW0 : H W = none := k2.free nW nDW.symm
  generalize upd H2 W (.lst []) = H3 at d3 k3 hT3 hr3 hW3
  show t_l_family_leaves K { nx := fun _ H' => Q .non H', rt := Q } [some (.ref D), some (.int l), some (.int tr), some (.int v), some (.ref T), some (.ref r), some (.ref W), none, none, none, none, none] H3
  refine ⟨_, rfl, _, rfl, by omega, by omega, ?_⟩
  refine for_range (lo := 0) (n := l.toNat) (fun i σ H' => Kf [D, T, W] H3 H' ∧ Dk c D ns (t + 320 * i) H' ∧ (∃ (as' : List Addr) (c1 : List Ct) (ls : List Int) (r' : Addr) (rows : List Str), H' T = some (.lst (as'.map V.ref)) ∧ CsAt H' as' c1 ∧ FamOk c1 ∧ (∀ d ∈ c1, d.word = "leaf") ∧ c1.length ≤ i ∧ (0 < i → c1 ≠ []) ∧ H' W = some (.lst (ls.map V.int)) ∧ (∀ x ∈ ls, hasK c1 ["leaf", "tree"] x = true) ∧ ls.length = i ∧ H' r' = some (.tup (rows.map V.str)) ∧ rows.length ≤ 7 ∧ (∀ z ∈ rows, OkS z) ∧ ∃ z7, σ = [some (.ref D), some (.int l), some (.int tr), some (.int v), some (.ref T), some (.ref r'), some (.ref W), z7, none, none, none, none]))
    ⟨.refl, d3, ⟨[], [], [], r, [], hT3, CsAt.nil, FamOk.nil, (fun d h => nomatch h), Nat.le_refl _, (fun z => absurd z (Nat.lt_irrefl _)), hW3, (fun d h => nomatch h), rfl, hr3, Nat.zero_le _, (fun d h => nomatch h), _, rfl⟩⟩ ?_ ?_
  · rintro i σ H4 hi ⟨kf, d4, ⟨as1, c1, ls, r', rows, hT4, hcs1, f1, kl, hl1, _, hW4, lk, ll, hr4, few, ok, z7, rfl⟩⟩
    have hi40 : i < 40 := by omega
    refine ⟨_, rfl, _, rfl, c, D, r', ns, _, rows, rfl, d4, hr4, few, ok, by omega, fun q rows' H5 hq few' ok' kp5 d5 => ?_⟩
    have hW5 := kp5 _ _ hW4 nDW.symm
    refine ⟨_, rfl, .inl ⟨rfl, _, sqL hW5⟩, _, rfl, ?_⟩
    refine ⟨_, rfl, by show (2 : Nat) ≤ sizeLine; decide, fun A nA => ?_⟩
    have sA : Same H5 (upd H5 A (.tup [.str "leaf", .ref q])) := samN nA
    have hc : CtAt (upd H5 A (.tup [.str "leaf", .ref q])) A (.leaf rows') := ⟨q, updS, sA _ _ hq⟩
    have d6 := d5.upd (o := .tup [.str "leaf", .ref q]) (d5.neC nA) (d5.neD nA)
    generalize upd H5 A (.tup [.str "leaf", .ref q]) = H6 at sA hc d6
    have keep6 : ∀ b o, H4 b = some o → b ≠ D → H6 b = some o := fun b o e n => sA b o (kp5 b o e n)
    have tm6 : TM H4 H6 := fun b xs h => keep6 b _ h (by
      obtain ⟨ys, e⟩ := d4.someD
      exact ne_of h e (by intro z; cases z))
    have fo : (Ct.leaf rows').form := ⟨by omega, ok'⟩
    dsimp only [tNil]
    show sp_l_give K [V.ref T, V.ref A] _ _ E0
    refine give_ok (keep6 _ _ hT4 nDT.symm) (hcs1.mono tm6) hc fo f1 (by omega) fun n as2 H8 hT8 hcs8 hn fr8 => ?_
    have hW8 : H8 W = some (.lst (ls.map V.int)) := by rw [fr8 _ nTW.symm]; exact keep6 _ _ hW4 nDW.symm
    refine ⟨W, _, _, rfl, rfl, hW8, ?_, ?_⟩
    · rw [List.length_map]
      exact Nat.lt_of_le_of_lt (show _ ≤ 1000 by omega) (by decide)
    have f8 := f1.add fo rfl
    have tm9 : TM H8 (upd H8 W (.lst (ls.map V.int ++ [.int (n : Int)]))) := fun b xs h => updN (ne_of h hW8 (by intro z; cases z)) h
    have hq6 := sA _ _ hq
    have hq8 : H8 q = some (.tup (rows'.map V.str)) := by
      rw [fr8 _ (ne_of hq6 (keep6 _ _ hT4 nDT.symm) (by intro z; cases z))]
      exact hq6
    refine ⟨kf.trans (((Kf.kp kp5 (by simp)).trans ((Kf.same sA).trans (Kf.but fr8 (by simp)))).up (by simp)), ((d6.but fr8 ncT.symm nDT.symm).upd ncW.symm nDW.symm).le (by omega), ⟨as2, addC c1 (.leaf rows'), ls ++ [(n : Int)], q, rows', updN nTW hT8, hcs8.mono tm9, f8, fun d hd => ?_, ?_, fun _ => addC_ne _ _, by rw [updS, List.map_append]; rfl, fun x hx => ?_, by rw [List.length_append, ll]; rfl, tm9 _ _ hq8, few', ok', _, rfl⟩⟩
    · rcases addC_mem hd with h | h
      · exact kl d h
      · rw [h]; rfl
    · have := addC_len c1 (.leaf rows')
      omega
    · rcases List.mem_append.mp hx with h | h
      · exact hasK_add (lk x h)
      · rw [List.mem_singleton.mp h]; exact hasK_at hn con2
  · rintro σ H4 ⟨kf, d4, ⟨as1, c1, ls, r', rows, hT4, hcs1, f1, kl, hl1, ne1, hW4, lk, ll, hr4, few, ok, z7, rfl⟩⟩
    refine ⟨by decide, fun R nR => ?_⟩
    have sR : Same H4 (upd H4 R (.lst [])) := samN nR
    have lne : ls ≠ [] := fun e => by
      rw [e] at ll
      have : l.toNat = 0 := ll.symm
      omega
    refine fam_trees (d4.upd (d4.neC nR) (d4.neD nR)) ⟨nDT, (d4.neD nR).symm, nDW, ne_of_none hT4 nR, nTW, (ne_of_none hW4 nR).symm, ncT, (d4.neC nR).symm⟩ (sR _ _ hT4) (hcs1.mono (TM.of sR)) f1 (sR _ _ hW4) lk (by omega) lne updS kl t0 t1 v0 v1 vt (by omega) (by omega) fun T' as' c2 c3 H' eT hT' hcs' f' k2' ne2 k3' l2 l3 kf' d' => ?_
    have nRD := d4.neD nR
    have nRT : R ≠ T := (ne_of_none hT4 nR).symm
    have nRW : R ≠ W := (ne_of_none hW4 nR).symm
    have nR3 : H3 R = none := by
      cases e : H3 R with
      | none => rfl
      | some o => rw [kf R o e (by simp [nRD, nRT, nRW])] at nR; cases nR
    have nR0 : H R = none := k3.free nR3 nRD
    refine k T as' c1 c2 c3 H' nT hT' hcs' f' kl (ne1 (by omega)) k2' ne2 k3' (by omega) l2 l3 ?_ (d'.le (by omega))
    intro b o e n
    have b1 : b ≠ T := ne_of_none e nT
    have b2 : b ≠ W := ne_of_none e nW0
    have b3 : b ≠ R := ne_of_none e nR0
    exact kf' b o (sR b o (kf b o (k3 b o e n) (by simp [n, b1, b2]))) (by simp [n, b1, b3])
end
end Fw

set_option Elab.async false
set_option linter.all false
set_option maxRecDepth 100000
set_option maxHeartbeats 4000000
/-! What a book tells of a name, looked at by a law. -/
namespace Fw
open PySem L2 RZ RT
theorem Ct.same {H : Hp} {a b : Addr} {c : Ct} (f : c.form) (x : CtAt H a c) (y : CtAt H b c) : SameV H 6 (.ref a) (.ref b) := by
  have st : ∀ {n : Nat} (z : Str), SameV H (n + 1) (.str z) (.str z) := fun z => Or.inl ⟨rfl, .inr (.inr (.inr ⟨z, rfl⟩))⟩
  cases c with
  | leaf rows =>
    obtain ⟨r, h1, h2⟩ := x
    obtain ⟨r', h3, h4⟩ := y
    refine SameV.tup h1 h3 rfl (by show (2 : Nat) ≤ 100000; decide) fun i u v hu hv => ?_
    match i, hu, hv with
    | 0, hu, hv => cases Option.some.inj hu; cases Option.some.inj hv; exact st _
    | 1, hu, hv =>
      cases Option.some.inj hu
      cases Option.some.inj hv
      exact SameV.tup h2 h4 rfl (by rw [List.length_map]; have := f.1; omega) SameV.strs
  | tree es =>
    obtain ⟨r, as, h1, h2, h3, h4⟩ := x
    obtain ⟨r', as', g1, g2, g3, g4⟩ := y
    have hz : es.length ≤ 20 := f.1
    refine SameV.tup h1 g1 rfl (by show (2 : Nat) ≤ 100000; decide) fun i u v hu hv => ?_
    match i, hu, hv with
    | 0, hu, hv => cases Option.some.inj hu; cases Option.some.inj hv; exact st _
    | 1, hu, hv =>
      cases Option.some.inj hu
      cases Option.some.inj hv
      refine SameV.tup h2 g2 (by rw [List.length_map, List.length_map, h3, g3]) (by rw [List.length_map]; omega) fun j u v hu hv => ?_
      rw [List.getElem?_map] at hu hv
      cases e1 : as[j]? with
      | none => rw [e1] at hu; cases hu
      | some p =>
        cases e2 : as'[j]? with
        | none => rw [e2] at hv; cases hv
        | some q =>
          rw [e1] at hu
          rw [e2] at hv
          cases Option.some.inj hu
          cases Option.some.inj hv
          have hj : j < es.length := by rw [← h3]; exact (List.getElem?_eq_some_iff.mp e1).1
          have ee : es[j]? = some es[j] := List.getElem?_eq_getElem hj
          refine SameV.tup (h4 j p _ e1 ee) (g4 j q _ e2 ee) rfl (by show (2 : Nat) ≤ 100000; decide) fun k u v hu hv => ?_
          match k, hu, hv with
          | 0, hu, hv => cases Option.some.inj hu; cases Option.some.inj hv; exact st _
          | 1, hu, hv => cases Option.some.inj hu; cases Option.some.inj hv; exact SameV.int rfl
  | ver ps r s =>
    obtain ⟨p, h1, h2⟩ := x
    obtain ⟨q, h3, h4⟩ := y
    refine SameV.tup h1 h3 rfl (by show (4 : Nat) ≤ 100000; decide) fun i u v hu hv => ?_
    match i, hu, hv with
    | 0, hu, hv => cases Option.some.inj hu; cases Option.some.inj hv; exact st _
    | 1, hu, hv =>
      cases Option.some.inj hu
      cases Option.some.inj hv
      exact SameV.tup h2 h4 rfl (by rw [List.length_map]; have := f.1; omega) SameV.ints
    | 2, hu, hv => cases Option.some.inj hu; cases Option.some.inj hv; exact SameV.int rfl
    | 3, hu, hv => cases Option.some.inj hu; cases Option.some.inj hv; exact SameV.int rfl
theorem Ct.parts_len {c : Ct} (f : c.form) : c.parts.length ≤ 20 := by
  cases c with
  | leaf rows => exact Nat.zero_le _
  | tree es => show (es.map (·.2)).length ≤ 20; rw [List.length_map]; exact f.1
  | ver ps r s =>
    show (ps ++ [r]).length ≤ 20
    have := f.1
    rw [List.length_append, List.length_singleton]
    omega
section
variable [HasW]
def sp_l_parts (_ : PySem.W.Frag) : Sp := fun vs H Q _ => ∃ (a : Addr) (c : Ct), vs = [.ref a] ∧ CtAt H a c ∧ c.form ∧ ∀ (r : Addr) (H' : Hp), Same H H' → H' r = some (.lst (c.parts.map V.int)) → Q (.ref r) H'
def sp_l_told (K : PySem.W.Frag) : Sp := fun vs H Q _ => ∃ (b : BkA) (T : Addr) (cs : List Ct) (as tas : List Addr) (i : Nat) (a : Addr) (c : Ct), vs = [.ref b.B, .ref T, .int (i : Int)] ∧ BkAt K H b cs as ∧ H T = some (.lst (tas.map V.ref)) ∧ tas[i]? = some a ∧ cs[i]? = some c ∧ CtAt H a c ∧
  ∀ H', Same H H' → Q (.bl true) H'
end
theorem len_l_parts {K : PySem.W.Frag} {vs : List V} {H : Hp} {Q : VK} {E : XK} (h : sp_l_parts K vs H Q E) : vs.length = 1 := by obtain ⟨_, _, rfl, _⟩ := h; rfl
theorem len_l_told [HasW] {K : PySem.W.Frag} {vs : List V} {H : Hp} {Q : VK} {E : XK} (h : sp_l_told K vs H Q E) : vs.length = 3 := by obtain ⟨_, _, _, _, _, _, _, _, rfl, _⟩ := h; rfl
section
variable [HasW]
abbrev N_l_parts : List Str := ["_law_content", "_law_label_here", "_law_name"]
def t_l_parts (K : PySem.W.Frag) : TS := (tSeq (tIfS (tTest (tOp rEq (tOp (rIx K) (tVar 0) (tC (.int 0))) (tC (.str "leaf")))) (tRet (tLst tNil)) tNext)
    (tSeq (tIfS (tTest (tOp rEq (tOp (rIx K) (tVar 0) (tC (.int 0))) (tC (.str "tree")))) (tRet (tLc (iTup K (tOp (rIx K) (tVar 0) (tC (.int 1)))) (gTup K 2 (gCons (gName 1) (gCons (gName 2) gNil))) tYes (tVar 2) [1, 2])) tNext)
    (tRet (tOp rCat (tCB (fListOf K) (tCons (tOp (rIx K) (tVar 0) (tC (.int 1))) tNil)) (tLst (tCons (tOp (rIx K) (tVar 0) (tC (.int 2))) tNil))))))
abbrev N_l_told : List Str := ["_law_book", "_law_things", "_law_name"]
def t_l_told_c (K : PySem.W.Frag) : TS := (tRet (tAndV (tCall (sp_l_alike K) [] E0 (tCons (tMeth (He.ga K "Book") "name_of" (sp_Book_name_of K) [] E0 (tVar 0) (tCons (tOp (rIx K) (tVar 1) (tVar 2)) tNil)) (tCons (tVar 2) tNil))) (tCall (sp_l_alike K) [] E0 (tCons (tMeth (He.ga K "Book") "named" (sp_Book_named K) [] E0 (tVar 0) (tCons (tOp (rIx K) (tVar 1) (tVar 2)) tNil)) (tCons (tVar 2) tNil)))))
def t_l_told_b (K : PySem.W.Frag) : TS := (tSeq (tIfS (tNot (tB (tCall (sp_l_alike K) [] E0 (tCons (tMeth (He.ga K "Book") "parts" (sp_Book_parts K) [] E0 (tVar 0) (tCons (tVar 2) tNil)) (tCons (tCB (fTupleOf K) (tCons (tCall (sp_l_parts K) [] E0 (tCons (tOp (rIx K) (tVar 1) (tVar 2)) tNil)) tNil)) tNil))))) (tRet (tC (.bl false))) tNext)
    (t_l_told_c K))
def t_l_told (K : PySem.W.Frag) : TS := (tSeq (tIfS (tOr (tNot (tB (tCall (sp_l_alike K) [] E0 (tCons (tMeth (He.ga K "Book") "thing" (sp_Book_thing K) [] E0 (tVar 0) (tCons (tVar 2) tNil)) (tCons (tOp (rIx K) (tVar 1) (tVar 2)) tNil))))) (tNot (tB (tCall (sp_l_alike K) [] E0 (tCons (tMeth (He.ga K "Book") "kind" (sp_Book_kind K) [] E0 (tVar 0) (tCons (tVar 2) tNil)) (tCons (tOp (rIx K) (tOp (rIx K) (tVar 1) (tVar 2)) (tC (.int 0))) tNil)))))) (tRet (tC (.bl false))) tNext)
    (t_l_told_b K))
end
/-- the parts behind the word -/
theorem CtAt.snd {K : PySem.W.Frag} {H : Hp} {a : Addr} {c : Ct} {Q : VK} (h : CtAt H a c) (q : ∀ r, Q (.ref r) H) : rIx K (.ref a) (.int 1) H Q := by
  cases c with
  | leaf rows => obtain ⟨r, h1, h2⟩ := h; exact ixT h1 rfl (q _)
  | tree es => obtain ⟨r, as, h1, h2⟩ := h; exact ixT h1 rfl (q _)
  | ver ps r s => obtain ⟨r, h1, h2⟩ := h; exact ixT h1 rfl (q _)
section
variable [HasW] {K : PySem.W.Frag} {vs : List V} {H : Hp} {Q : VK} {E : XK}
theorem pure_l_parts (h : sp_l_parts K vs H Q E) : t_l_parts K { nx := fun _ H' => Q .non H', rt := Q } (start N_l_parts vs) H := by
  obtain ⟨a, c, rfl, hc, fo, k⟩ := h
  refine ⟨_, rfl, hc.fst ⟨rfl, _, rfl, ?_⟩⟩
  cases c with
  | leaf rows =>
    rw [show decide (V.str (Ct.leaf rows).word = V.str "leaf") = true from decide_eq_true rfl]
    exact iteT ⟨by decide, fun p np => k p _ (samN np) updS⟩
  | tree es =>
    obtain ⟨r, bs, h1, h2, h3, h4⟩ := hc
    have hz : es.length ≤ 20 := fo.1
    rw [show decide (V.str (Ct.tree es).word = V.str "leaf") = false from strN wv_lt.symm]
    refine iteF ⟨_, rfl, ixT h1 rfl ⟨rfl, _, rfl, ?_⟩⟩
    rw [decide_eq_true rfl]
    refine iteT ⟨_, rfl, ixT h1 rfl ⟨r, rfl, ⟨_, sqT h2⟩, fun L nL => ?_⟩⟩
    refine lc_pairs (ys := es.map fun e => V.int e.2) nL h2 h3 (by omega) (by rw [List.length_map]) h4 ?_ ?_
    · intro n e y H' R he hy s q
      rw [List.getElem?_map, he] at hy
      cases Option.some.inj hy
      exact ⟨rfl, _, rfl, q _ (Same.refl _)⟩
    · intro H' s hL
      refine k L _ s ?_
      rw [hL]
      show some (HO.lst (es.map fun e => V.int e.2)) = some (HO.lst ((es.map (·.2)).map V.int))
      rw [List.map_map]
      rfl
  | ver ps r s =>
    obtain ⟨q, h1, h2⟩ := hc
    have hz : ps.length ≤ 4 := fo.1
    rw [show decide (V.str (Ct.ver ps r s).word = V.str "leaf") = false from strN wv_lv.symm]
    refine iteF ⟨_, rfl, ixT h1 rfl ⟨rfl, _, rfl, ?_⟩⟩
    rw [strN wv_tv.symm]
    refine iteF ⟨_, rfl, ixT h1 rfl ⟨q, _, rfl, .inr (sqT h2), fun L nL => ?_⟩⟩
    have s1 : Same H (upd H L (.lst (ps.map V.int))) := samN nL
    refine ⟨_, rfl, ixT (s1 _ _ h1) rfl ⟨by show (1 : Nat) ≤ sizeLine; decide, fun M nM => ?_⟩⟩
    have s2 := s1.trans (samN (o := .lst [.int r]) nM)
    refine ⟨L, M, _, _, rfl, rfl, samN nM _ _ updS, updS, ?_, fun p np => k p _ (s2.trans (samN np)) ?_⟩
    · rw [List.length_map]
      exact Nat.le_trans (show _ ≤ 1000 by rw [List.length_singleton]; omega) (by decide)
    · rw [updS]
      show some (HO.lst (ps.map V.int ++ [.int r])) = some (HO.lst ((ps ++ [r]).map V.int))
      rw [List.map_append]
      rfl
theorem pure_l_told (h : sp_l_told K vs H Q E) : t_l_told K { nx := fun _ H' => Q .non H', rt := Q } (start N_l_told vs) H := by
  obtain ⟨b, T, cs, as, tas, i, a, c, rfl, bk, hT, ha, hi, hc, k⟩ := h
  obtain ⟨a0, ha0, hc0⟩ := bk.at_.get hi
  have fo := (bk.ok c (List.mem_of_getElem? hi)).1
  have iT : ∀ {H' : Hp} {R : VK}, Same H H' → R (.ref a) H' → rIx K (.ref T) (.int (i : Int)) H' R := fun s q => ixL (s _ _ hT) (atI_nat (by rw [List.getElem?_map, ha]; rfl)) q
  have st : ∀ {H' : Hp} {n : Nat} (z : Str), SameV H' (n + 1) (.str z) (.str z) := fun z => Or.inl ⟨rfl, .inr (.inr (.inr ⟨z, rfl⟩))⟩
  refine bk.me (by decide) rfl ⟨_, rfl, b, cs, as, i, a0, rfl, bk, ha0, ⟨_, rfl, _, rfl, iT (Same.refl _) ⟨_, _, rfl, Ct.same fo hc0 hc, fun H1 s1 => ⟨_, rfl, iteF ?_⟩⟩⟩⟩
  have bk1 := bk.same s1
  refine bk1.me (by decide) rfl ⟨_, rfl, b, cs, as, i, c, rfl, bk1, hi, ⟨_, rfl, _, rfl, iT s1 ((hc.mono (TM.of s1)).fst ⟨_, _, rfl, st _, fun H2 s2 => ⟨_, rfl, iteF ?_⟩⟩)⟩⟩
  have s12 := s1.trans s2
  have bk2 := bk.same s12
  show t_l_told_b K { nx := fun _ H' => Q .non H', rt := Q } [some (.ref b.B), some (.ref T), some (.int (i : Int))] H2
  refine bk2.me (by decide) rfl ⟨_, rfl, b, cs, as, i, c, rfl, bk2, hi, fun r H3 s3 hr => ?_⟩
  have s13 := s12.trans s3
  refine ⟨_, rfl, _, rfl, iT s13 ⟨a, c, rfl, hc.mono (TM.of s13), fo, fun r2 H4 s4 hr2 => ⟨r2, _, rfl, .inl ⟨sqL hr2, fun r3 nr3 => ?_⟩⟩⟩⟩
  have s5 : Same H4 (upd H4 r3 (.tup (c.parts.map V.int))) := samN nr3
  have s15 := (s13.trans s4).trans s5
  refine ⟨_, _, rfl, SameV.tup (s5 _ _ (s4 _ _ hr)) updS rfl (by rw [List.length_map]; have := Ct.parts_len fo; omega) SameV.ints, fun H6 s6 => ⟨_, rfl, iteF ?_⟩⟩
  have s16 := s15.trans s6
  have bk6 := bk.same s16
  show t_l_told_c K { nx := fun _ H' => Q .non H', rt := Q } [some (.ref b.B), some (.ref T), some (.int (i : Int))] H6
  refine bk6.me (by decide) rfl ⟨_, rfl, _, rfl, iT s16 ⟨b, cs, as, a, c, rfl, bk6, hc.mono (TM.of s16), fo, fun j H7 hj s7 => ?_, fun hn => absurd (List.mem_of_getElem? hi) hn⟩⟩
  have ej : j = i := (List.getElem?_inj (List.getElem?_eq_some_iff.mp hj).1 bk.nd).mp (hj.trans hi.symm)
  subst ej
  refine ⟨_, rfl, _, _, rfl, SameV.int rfl, fun H8 s8 => ⟨_, rfl, iteT ?_⟩⟩
  have s18 := s16.trans (s7.trans s8)
  have bk8 := bk.same s18
  refine bk8.me (by decide) rfl ⟨_, rfl, _, rfl, iT s18 ⟨b, cs, as, a, c, rfl, bk8, hc.mono (TM.of s18), fo, (bk.ok c (List.mem_of_getElem? hi)).2, fun hn => absurd (List.mem_of_getElem? hi) hn, fun j2 H9 hj2 s9 => ?_, fun hn => absurd (List.mem_of_getElem? hi) hn⟩⟩
  have ej : j2 = j := (List.getElem?_inj (List.getElem?_eq_some_iff.mp hj2).1 bk.nd).mp (hj2.trans hi.symm)
  subst ej
  exact ⟨_, rfl, _, _, rfl, SameV.int rfl, fun H10 s10 => k _ (s18.trans (s9.trans s10))⟩
end
/-- what changes elsewhere -/
theorem BkAt.kf [HasW] {K : PySem.W.Frag} {H H' : Hp} {b : BkA} {cs : List Ct} {as F : List Addr} (k : BkAt K H b cs as) (x : Kf F H H') (h : ∀ y ∈ [b.B, b.L, b.E, b.G], y ∉ F) (ht : TM H H') : BkAt K H' b cs as := by
  obtain ⟨dx, fs, hB, r⟩ := k.bo
  exact ⟨k.bc, ⟨dx, fs, x _ _ hB (h _ (by simp)), r⟩, x _ _ k.hL (h _ (by simp)), x _ _ k.hE (h _ (by simp)), x _ _ k.hG (h _ (by simp)), k.at_.mono ht, k.nd, k.few, k.ok, k.ne⟩
theorem Kb.kf {b : BkA} {H H' : Hp} (k : Kb b H H') : Kf [b.L, b.E, b.G] H H' := fun a o h n => k a o h (fun z => n (by simp [z])) (fun z => n (by simp [z])) fun z => n (by simp [z])
theorem Kf.tm {F : List Addr} {H H' : Hp} (k : Kf F H H') (h : ∀ x ∈ F, ∀ ys, H x ≠ some (.tup ys)) : TM H H' := fun a xs e => k a _ e fun z => h a z xs e
end Fw

set_option Elab.async false
set_option linter.all false
set_option maxRecDepth 100000
set_option maxHeartbeats 4000000
/-! sorted(d), d a dict by ints. -/
namespace Fw
open PySem PySem.Spec PyProof.Rows L2 PySem.W SrtO
def rSortK : List V → Hp → VK → Prop := fun vs H Q => ∃ (a : Addr) (kvs : List (Key × V)) (ns : List Int), vs = [.ref a] ∧ H a = some (.dK kvs) ∧ kvs.map (·.1) = ns.map Sum.inl ∧
  ∀ (ns' : List Int) (p : Addr), ns'.Perm ns → ns'.Pairwise (· ≤ ·) → H p = none → Q (.ref p) (upd H p (.lst (ns'.map V.int)))
theorem ints_at {ns : List Int} : ∀ {ks : List (Key × Value)} {vs : List Value} , ks.map (·.1) = ns.map Sum.inl → vs.length = ks.length → (∀ (j : Nat) (v : Value), vs[j]? = some v → ∃ k x, ks[j]? = some (k, x) ∧ keyIs k v = true) → IntsAre vs ns := by
  induction ns with
  | nil =>
    intro ks vs h1 h2 h3
    cases ks with
    | nil =>
      cases vs with
      | nil => exact .nil
      | cons v vs => simp at h2
    | cons k ks => simp at h1
  | cons n ns ih =>
    intro ks vs h1 h2 h3
    cases ks with
    | nil => simp at h1
    | cons k ks =>
      cases vs with
      | nil => simp at h2
      | cons v vs =>
        rw [List.map_cons, List.map_cons] at h1
        injection h1 with e1 e2
        obtain ⟨k', x, hx, hk⟩ := h3 0 v rfl
        have hx : k = (k', x) := by simpa using hx
        rw [hx] at e1
        rw [show k' = Sum.inl n from e1] at hk
        rcases keyIs_shape hk with ⟨i, t, e, ev⟩ | ⟨z, t, e, _⟩
        · cases e
          rw [ev]
          exact .cons n t (ih e2 (by simpa using h2) fun j u hu => by
            have := h3 (j + 1) u (by simpa using hu)
            simpa using this)
        · cases e
theorem cr_sortedK {X : Cx} (hc : X.calm = true) : CallR X (.builtin "sorted") rSortK := by
  intro pins s σ H xs us Q I r h
  obtain ⟨a, kvs, ns, rfl, ha, hk, q⟩ := h
  obtain rfl := Vals.ref1 r
  obtain ⟨z, hd, vs, rel, o, es, ep, hat0⟩ := dk_of I.hok ha
  have hat : s.heap.DictAt (mixKind X.prog X.w) a vs ep := ⟨o, es, hat0⟩
  have hks : vs.map (·.1) = ns.map Sum.inl := by rw [← hk]; exact rel.keys.symm
  have hlen : vs.length = ns.length := by
    have := congrArg List.length hks
    rwa [List.length_map, List.length_map] at this
  have hz : vs.length ≤ sizeLine := by
    have : kvs.length = ns.length := by
      have := congrArg List.length hk
      rwa [List.length_map, List.length_map] at this
    omega
  refine Calls.call_function_entry kind_sorted plain_sorted entry_sorted (args_sorted1 _) ?_
  unfold Builtin.«sorted»
  refine wpAny_bind (m := checkCount "sorted" 1 1 _) (wpAny_pure ?_)
  refine wpAny_bind (kdu_collect (A := X.A.in1) (kdl_dict (knd := mixKind X.prog X.w) (kvs := vs) (ep := ep) hd) (I.ok.hd hc) hat hz fun h' tk acc kp hacc => ?_)
  have hl : acc.toList.length = vs.length := by rw [Array.length_toList]; exact hacc.1
  have hi : IntsAre acc.toList ns := ints_at hks hl fun j v hv => hacc.2 j v (by rw [← Array.getElem?_toList]; exact hv)
  refine wpAny_bind (wpAny_newList ?_ (by rw [hl]; exact hz))
  have hoL : (h'.push { cls := .type "list", data := .seq acc.toList.toArray }).get? h'.objs.size = some (seqObj "list" acc.toList.toArray 0) := Heap.get?_push_size _ rfl
  have kp2 : ∀ b o, s.heap.get? b = some o → b ≠ h'.objs.size ∧ (h'.push { cls := .type "list", data := .seq acc.toList.toArray }).get? b = some o := fun b o e => ⟨Nat.ne_of_lt (Heap.lt_size (kp b o e)), Heap.get?_push_of_some _ (kp b o e)⟩
  have n0 : s.heap.get? h'.objs.size = none := by
    cases e : s.heap.get? h'.objs.size with
    | none => rfl
    | some o => exact absurd (Heap.lt_size (kp _ o e)) (Nat.lt_irrefl _)
  have nH : H h'.objs.size = none := (I.kept (h' := h') (t' := tk) kp).hok.fresh (Nat.le_refl _)
  refine wpAny_bind (wpAny_holding (wpAny_call_entry slot_list_sort ⟨_, hoL, rfl⟩ entry_list_sort (list_sort_ord swo_int hoL (by rw [hl]; exact hz) (fun h2 => ints_sortable hi h2) fun out hs hb => ⟨_, rfl, ?_⟩) (args_list_sort _)))
  obtain ⟨k1, k2, k3⟩ := ints_out hi hs hb
  obtain ⟨eF, heF⟩ := PyProof.Rows.sortedHeap_at (vs := acc.toList) (out := out.toArray) hoL
  have kF : ∀ b o, s.heap.get? b = some o → (sortedHeap (h'.push { cls := .type "list", data := .seq acc.toList.toArray }) h'.objs.size acc.toList out.toArray).get? b = some o := fun b o e => (PyProof.Rows.sortedHeap_old (kp2 b o e).1 (Heap.lt_size (kp2 b o e).2)).trans (kp2 b o e).2
  have hlen2 : ((out.map iv).map V.int).length ≤ sizeLine := by
    rw [List.length_map, k2.length_eq, ← hlen]
    exact hz
  exact wpAny_pure ⟨_, rfl, .ref _, upd H h'.objs.size (.lst ((out.map iv).map V.int)), I.laidN (t' := tk) kF n0 nH ⟨hlen2, out, eF, vals_of_ints k1, heF⟩, rfl, q _ _ k2 k3 nH⟩
end Fw

set_option Elab.async false
set_option linter.all false
set_option maxRecDepth 100000
set_option maxHeartbeats 4000000
/-! Holdings and stores: their state, and the methods that law k09 calls. -/
namespace Fw
open PySem L2 RZ RT
/-! ### names as a dict's keys -/
abbrev nmD (ns : List Int) : List (Key × V) := ns.map fun n => ((Sum.inl n : Key), V.bl true)
theorem nmD_keys (ns : List Int) : (nmD ns).map (·.1) = ns.map Sum.inl := by
  rw [List.map_map]
  rfl
theorem nmD_val : ∀ (ns : List Int) (n : Int), valV (nmD ns) (.inl n) = if n ∈ ns then some (.bl true) else none
  | [], n => by rw [if_neg (by simp)]; rfl
  | m :: ns, n => by
    by_cases h : m = n
    · rw [show nmD (m :: ns) = ((Sum.inl m : Key), V.bl true) :: nmD ns from rfl, valV_pos (by rw [h]), if_pos (by rw [h]; exact List.mem_cons_self)]
    · have := nmD_val ns n
      have e : valV (nmD (m :: ns)) (.inl n) = valV (nmD ns) (.inl n) := by
        show ((((Sum.inl m : Key), V.bl true) :: nmD ns).find? fun kv => decide (kv.1 = Sum.inl n)).map (·.2) = _
        rw [List.find?_cons_of_neg (by simp; exact fun e => h e)]
        rfl
      rw [e, this]
      by_cases h2 : n ∈ ns
      · rw [if_pos h2, if_pos (List.mem_cons_of_mem _ h2)]
      · rw [if_neg h2, if_neg fun z => (List.mem_cons.mp z).elim (fun q => h q.symm) h2]
theorem nmD_some (ns : List Int) (n : Int) : (valV (nmD ns) (.inl n)).isSome = decide (n ∈ ns) := by
  rw [nmD_val]
  by_cases h : n ∈ ns
  · rw [if_pos h, decide_eq_true h]; rfl
  · rw [if_neg h, decide_eq_false h]; rfl
theorem nmD_put {ns : List Int} {n : Int} (h : n ∉ ns) : putK (nmD ns) (.inl n) (.bl true) = nmD (ns ++ [n]) := by
  unfold putK
  rw [if_neg]
  · show _ = (ns ++ [n]).map _
    rw [List.map_append]
    rfl
  · intro z
    obtain ⟨p, hp, e⟩ := List.any_eq_true.mp z
    obtain ⟨m, hm, rfl⟩ := List.mem_map.mp hp
    have e : (Sum.inl m : Key) = Sum.inl n := of_decide_eq_true e
    cases e
    exact h hm
/-- the ints of a walk that a test keeps -/
theorem lc_filt {J : It} {n : Nat} {G : Hp → Prop} {Y : Nat → Hp → V → Hp → Prop} {ns : List Int} (w : Walk J n G Y) (hY : ∀ i H x H', Y i H x H' → H' = H ∧ (ns.map V.int)[i]? = some x) {p : Int → Bool} {k : Nat} {tt : TT} {σ : L2.St} {H1 : Hp} {D : Addr} {Qd : Hp → Prop} (hk : k < σ.length)
    (hD : H1 D = none) (hl : ns.length = n) (hz : n ≤ 100000) (hG : ∀ H', Same H1 H' → G H')
    (hs : ∀ (v : Int) (H' : Hp) (R : Bool → Hp → Prop), v ∈ ns → Same H1 H' → (∀ H'', Same H' H'' → R (p v) H'') → tt ((wipe σ [k]).set k (some (.int v))) H' R)
    (hd : ∀ H', Same H1 H' → H' D = some (.lst ((ns.filter p).map V.int)) → Qd H') :
    ∃ W : Nat → Nat → Hp → Prop, (∃ m, W 0 m (L2.upd H1 D (.lst []))) ∧ ∀ i m H, W i m H →
      (J.stop i H ∧ Qd H) ∨ (J.go i H ∧ ∃ Nx : Hp → Prop, (∀ H', Nx H' → ∃ m', m' < m ∧ W (i + 1) m' H') ∧ ∀ x H', J.yld i H x H' → gName k x (wipe σ [k]) H' fun σ2 H2 => wipe σ2 [k] = wipe σ [k] ∧ tt σ2 H2 fun b H3 =>
        if b = true then tVar k σ2 H3 fun y H4 => ∃ acc, H4 D = some (.lst acc) ∧ acc.length < sizeLine ∧ Nx (L2.upd H4 D (.lst (acc ++ [y]))) else Nx H3) := by
  refine lc_it w (fun i H => Same H1 H ∧ H D = some (.lst (((ns.take i).filter p).map V.int))) ⟨samN hD, updS⟩ (fun i H _ q => hG H q.1) (fun i x H H' hi q hy => ?_) fun H q => hd H q.1 (by rw [q.2, List.take_of_length_le (by omega)])
  obtain ⟨rfl, hx⟩ := hY i H x H' hy
  obtain ⟨s, hL⟩ := q
  rw [List.getElem?_map] at hx
  have hv : ns[i]? = some ns[i] := List.getElem?_eq_getElem (by omega)
  rw [hv] at hx
  cases Option.some.inj hx
  have eT : ns.take (i + 1) = ns.take i ++ [ns[i]] := by rw [List.take_succ, hv]; rfl
  refine ⟨?_, hs _ _ _ (List.getElem_mem _) s fun H'' s'' => ?_⟩
  · show (((σ.set k none).set k _).set k none) = σ.set k none
    rw [List.set_set, List.set_set]
  have hL2 := s'' _ _ hL
  rw [eT, List.filter_append]
  refine ite2 (fun e => ?_) fun e => ?_
  · rw [show [ns[i]].filter p = [ns[i]] from List.filter_cons_of_pos e]
    refine ⟨.int ns[i], List.getElem?_set_self (show k < (σ.set k none).length by rw [List.length_set]; exact hk), _, hL2, ?_, fun b o e => updN (ne_of_none e hD) (s'' _ _ (s b o e)), ?_⟩
    · rw [List.length_map]
      have := List.length_filter_le p (ns.take i)
      rw [List.length_take] at this
      exact Nat.lt_of_le_of_lt (show ((ns.take i).filter p).length ≤ 100000 by omega) (by decide)
    · rw [updS]
      simp
  · rw [show [ns[i]].filter p = [] from List.filter_cons_of_neg e, List.append_nil]
    exact ⟨fun b o e => s'' _ _ (s b o e), hL2⟩
/-! ### state -/
structure HdC (K : PySem.W.Frag) : Prop where
  cl : Cls K (He.ga K "Holding")
  n1 : NoAttr K (He.ga K "Holding") "book"
  n2 : NoAttr K (He.ga K "Holding") "inside"
  n3 : NoAttr K (He.ga K "Holding") "ordered"
structure StC (K : PySem.W.Frag) : Prop where
  cl : Cls K (He.ga K "Store")
  n1 : NoAttr K (He.ga K "Store") "book"
  n2 : NoAttr K (He.ga K "Store") "inside"
  n3 : NoAttr K (He.ga K "Store") "many_changes"
structure HlA where
  A : Addr
  I : Addr
  O : Addr
abbrev hdF (B : Addr) (h : HlA) : List (Str × V) := [("book", .ref B), ("inside", .ref h.I), ("ordered", .ref h.O)]
structure HlAt (K : PySem.W.Frag) (H : Hp) (h : HlA) (B : Addr) (ns : List Int) : Prop where
  hc : HdC K
  ho : ∃ dx, H h.A = some (.ins (He.ga K "Holding") dx (hdF B h))
  hI : ∃ is : List Int, H h.I = some (.dK (nmD is)) ∧ ∀ n, n ∈ is ↔ n ∈ ns
  hO : H h.O = some (.lst (ns.map V.int))
  inc : ns.Pairwise (· < ·)
  few : ns.length ≤ 400
abbrev stF (B I : Addr) (m : Int) : List (Str × V) := [("book", .ref B), ("inside", .ref I), ("many_changes", .int m)]
structure SrAt (K : PySem.W.Frag) (H : Hp) (A I B : Addr) (ns : List Int) : Prop where
  sc : StC K
  so : ∃ dx m, H A = some (.ins (He.ga K "Store") dx (stF B I m))
  hI : H I = some (.dK (nmD ns))
  nd : ns.Nodup
  few : ns.length ≤ 400
section
variable {K : PySem.W.Frag} {H H' : Hp} {h : HlA} {A I B : Addr} {ns : List Int} {Q : VK} {σ : L2.St} {i : Nat}
theorem HlAt.kf {F : List Addr} (x : HlAt K H h B ns) (kf : Kf F H H') (n : ∀ y ∈ [h.A, h.I, h.O], y ∉ F) : HlAt K H' h B ns := by
  obtain ⟨dx, e⟩ := x.ho
  obtain ⟨is, e2, m⟩ := x.hI
  exact ⟨x.hc, ⟨dx, kf _ _ e (n _ (by simp))⟩, ⟨is, kf _ _ e2 (n _ (by simp)), m⟩, kf _ _ x.hO (n _ (by simp)), x.inc, x.few⟩
theorem HlAt.same (x : HlAt K H h B ns) (s : Same H H') : HlAt K H' h B ns := x.kf (F := []) (.same s) fun _ _ z => nomatch z
theorem SrAt.kf {F : List Addr} (x : SrAt K H A I B ns) (kf : Kf F H H') (n : ∀ y ∈ [A, I], y ∉ F) : SrAt K H' A I B ns := by
  obtain ⟨dx, m, e⟩ := x.so
  exact ⟨x.sc, ⟨dx, m, kf _ _ e (n _ (by simp))⟩, kf _ _ x.hI (n _ (by simp)), x.nd, x.few⟩
theorem SrAt.same (x : SrAt K H A I B ns) (s : Same H H') : SrAt K H' A I B ns := x.kf (F := []) (.same s) fun _ _ z => nomatch z
theorem HlAt.fB (x : HlAt K H h B ns) (e : σ[i]? = some (some (.ref h.A))) (q : Q (.ref B) H) : tFld K (tVar i) "book" σ H Q := by
  obtain ⟨dx, hx⟩ := x.ho
  exact ⟨_, e, h.A, _, dx, _, _, rfl, hx, x.hc.cl, x.hc.n1, rfl, q⟩
theorem HlAt.fI (x : HlAt K H h B ns) (e : σ[i]? = some (some (.ref h.A))) (q : Q (.ref h.I) H) : tFld K (tVar i) "inside" σ H Q := by
  obtain ⟨dx, hx⟩ := x.ho
  exact ⟨_, e, h.A, _, dx, _, _, rfl, hx, x.hc.cl, x.hc.n2, rfl, q⟩
theorem HlAt.fO (x : HlAt K H h B ns) (e : σ[i]? = some (some (.ref h.A))) (q : Q (.ref h.O) H) : tFld K (tVar i) "ordered" σ H Q := by
  obtain ⟨dx, hx⟩ := x.ho
  exact ⟨_, e, h.A, _, dx, _, _, rfl, hx, x.hc.cl, x.hc.n3, rfl, q⟩
theorem HlAt.me {m : Str} {sp : Sp} {E : XK} {ta : TA} (x : HlAt K H h B ns) (hm : (hdF B h).lookup m = none) (e : σ[i]? = some (some (.ref h.A))) (q : ta σ H fun vs H2 => sp (.ref h.A :: (vs ++ [])) H2 Q E) : tMeth (He.ga K "Holding") m sp [] E (tVar i) ta σ H Q := by
  obtain ⟨dx, hx⟩ := x.ho
  exact ⟨_, e, h.A, dx, _, rfl, hx, hm, q⟩
theorem SrAt.fB (x : SrAt K H A I B ns) (e : σ[i]? = some (some (.ref A))) (q : Q (.ref B) H) : tFld K (tVar i) "book" σ H Q := by
  obtain ⟨dx, m, hx⟩ := x.so
  exact ⟨_, e, A, _, dx, _, _, rfl, hx, x.sc.cl, x.sc.n1, rfl, q⟩
theorem SrAt.fI (x : SrAt K H A I B ns) (e : σ[i]? = some (some (.ref A))) (q : Q (.ref I) H) : tFld K (tVar i) "inside" σ H Q := by
  obtain ⟨dx, m, hx⟩ := x.so
  exact ⟨_, e, A, _, dx, _, _, rfl, hx, x.sc.cl, x.sc.n2, rfl, q⟩
theorem SrAt.me {m : Str} {sp : Sp} {E : XK} {ta : TA} (x : SrAt K H A I B ns) (hm : ∀ m', (stF B I m').lookup m = none) (e : σ[i]? = some (some (.ref A))) (q : ta σ H fun vs H2 => sp (.ref A :: (vs ++ [])) H2 Q E) : tMeth (He.ga K "Store") m sp [] E (tVar i) ta σ H Q := by
  obtain ⟨dx, m', hx⟩ := x.so
  exact ⟨_, e, A, dx, _, rfl, hx, hm m', q⟩
/-- a method of the book, the book being read from elsewhere -/
theorem BkAt.meF [HasW] {b : BkA} {cs : List Ct} {as : List Addr} {m : Str} {sp : Sp} {E : XK} {ta : TA} (k : BkAt K H b cs as) (hm : m ∈ (["named", "name_of", "thing", "kind", "parts", "parents", "root", "stamp", "entries", "leaf_rows", "is_name", "is_version", "is_content", "has_kinds", "depth", "give_next"] : List Str)) (q : ta σ H fun vs H2 => sp (.ref b.B :: (vs ++ [])) H2 Q E) :
    ∃ a dx fs, V.ref b.B = .ref a ∧ H a = some (.ins (He.ga K "Book") dx fs) ∧ fs.lookup m = none ∧ ta σ H fun vs H2 => sp (V.ref b.B :: (vs ++ [])) H2 Q E := by
  obtain ⟨dx, fs, hx, h1, h2, h3, h4⟩ := k.bo
  exact ⟨b.B, dx, fs, rfl, hx, h4 m hm, q⟩
theorem BkAt.meV [HasW] {b : BkA} {cs : List Ct} {as : List Addr} {m : Str} {sp : Sp} {E : XK} {ta : TA} (k : BkAt K H b cs as) (hm : m ∈ (["named", "name_of", "thing", "kind", "parts", "parents", "root", "stamp", "entries", "leaf_rows", "is_name", "is_version", "is_content", "has_kinds", "depth", "give_next"] : List Str)) (e : σ[i]? = some (some (.ref b.B))) (q : ta σ H fun vs H2 => sp (.ref b.B :: (vs ++ [])) H2 Q E) : tMeth (He.ga K "Book") m sp [] E (tVar i) ta σ H Q := k.me hm e q
end
def isV (cs : List Ct) (n : Int) : Bool := decide ((cs.getD n.toNat (.leaf [])).word = "version")
def parsOf (cs : List Ct) (n : Int) : List Int :=
  match cs.getD n.toNat (.leaf []) with
  | .ver ps _ _ => ps
  | _ => []
/-- the versions whose parents are not all there -/
def edg (cs : List Ct) (ns : List Int) : List Int := (ns.filter (isV cs)).filter fun n => !(parsOf cs n).all fun p => decide (p ∈ ns)
theorem getD_nat {cs : List Ct} {n : Nat} {c : Ct} (h : cs[n]? = some c) : cs.getD (Int.toNat (n : Int)) (.leaf []) = c := by
  rw [Int.toNat_natCast, List.getD_eq_getElem?_getD, h]
  rfl
theorem isV_at {cs : List Ct} {n : Nat} {c : Ct} (h : cs[n]? = some c) : isV cs (n : Int) = decide (c.word = "version") := by
  unfold isV
  rw [getD_nat h]
theorem parsOf_at {cs : List Ct} {n : Nat} {ps : List Int} {r s : Int} (h : cs[n]? = some (.ver ps r s)) : parsOf cs (n : Int) = ps := by
  unfold parsOf
  rw [getD_nat h]
theorem isV_ver {cs : List Ct} {n : Nat} {c : Ct} (h : cs[n]? = some c) (v : isV cs (n : Int) = true) : ∃ ps r s, c = .ver ps r s := by
  rw [isV_at h] at v
  have v := of_decide_eq_true v
  cases c with
  | leaf rows => exact absurd v wv_lv
  | tree es => exact absurd v wv_tv
  | ver ps r s => exact ⟨ps, r, s, rfl⟩
/-- names of the book -/
def NmOk (cs : List Ct) (ns : List Int) : Prop := ∀ n ∈ ns, 0 ≤ n ∧ n.toNat < cs.length
theorem NmOk.get {cs : List Ct} {ns : List Int} (h : NmOk cs ns) {n : Int} (hn : n ∈ ns) : ∃ (m : Nat) (c : Ct), n = (m : Int) ∧ cs[m]? = some c := by
  have := h n hn
  obtain ⟨m, rfl⟩ := Int.eq_ofNat_of_zero_le this.1
  exact ⟨m, _, rfl, List.getElem?_eq_getElem (by have := this.2; rwa [Int.toNat_natCast] at this)⟩
section
variable [HasW]
def sp_Book_parents (K : PySem.W.Frag) : Sp := fun vs H Q _ => ∃ (b : BkA) (cs : List Ct) (as : List Addr) (i : Nat) (ps : List Int) (r s : Int), vs = [.ref b.B, .int (i : Int)] ∧ BkAt K H b cs as ∧ cs[i]? = some (.ver ps r s) ∧ ∀ p, H p = some (.tup (ps.map V.int)) → Q (.ref p) H
def sp_Holding_init (K : PySem.W.Frag) : Sp := fun vs H Q _ => ∃ (x dx n : Addr) (b : BkA) (cs : List Ct) (as : List Addr) (ns : List Int), vs = [.ref x, .ref b.B, .ref n] ∧ HdC K ∧ H x = some (.ins (He.ga K "Holding") dx []) ∧ BkAt K H b cs as ∧ H n = some (.lst (ns.map V.int)) ∧ ns.Nodup ∧ NmOk cs ns ∧ ns.length ≤ 400 ∧
  ∀ (h : HlA) (ns' : List Int) (H' : Hp), h.A = x → (∀ a o, H a = some o → a ≠ x → H' a = some o) → H h.I = none → H h.O = none → ns'.Perm ns → HlAt K H' h b.B ns' → Q .non H'
def sp_Holding_versions (K : PySem.W.Frag) : Sp := fun vs H Q _ => ∃ (h : HlA) (b : BkA) (cs : List Ct) (as : List Addr) (ns : List Int), vs = [.ref h.A] ∧ HlAt K H h b.B ns ∧ BkAt K H b cs as ∧ NmOk cs ns ∧
  ∀ (L : Addr) (H' : Hp), Same H H' → H L = none → H' L = some (.lst ((ns.filter (isV cs)).map V.int)) → Q (.ref L) H'
def sp_Holding_has_parents (K : PySem.W.Frag) : Sp := fun vs H Q _ => ∃ (h : HlA) (b : BkA) (cs : List Ct) (as : List Addr) (ns : List Int) (i : Nat) (ps : List Int) (r s : Int), vs = [.ref h.A, .int (i : Int)] ∧ HlAt K H h b.B ns ∧ BkAt K H b cs as ∧ cs[i]? = some (.ver ps r s) ∧
  ∀ H', Same H H' → Q (.bl (ps.all fun p => decide (p ∈ ns))) H'
def sp_Holding_edges (K : PySem.W.Frag) : Sp := fun vs H Q _ => ∃ (h : HlA) (b : BkA) (cs : List Ct) (as : List Addr) (ns : List Int), vs = [.ref h.A] ∧ HlAt K H h b.B ns ∧ BkAt K H b cs as ∧ NmOk cs ns ∧
  ∀ (L : Addr) (H' : Hp), Same H H' → H L = none → H' L = some (.lst ((edg cs ns).map V.int)) → Q (.ref L) H'
def sp_Store_init (K : PySem.W.Frag) : Sp := fun vs H Q _ => ∃ (x dx B : Addr), vs = [.ref x, .ref B] ∧ StC K ∧ H x = some (.ins (He.ga K "Store") dx []) ∧
  ∀ (I : Addr) (H' : Hp), (∀ a o, H a = some o → a ≠ x → H' a = some o) → H I = none → SrAt K H' x I B [] → Q .non H'
def sp_Store_put (K : PySem.W.Frag) : Sp := fun vs H Q _ => ∃ (A I : Addr) (b : BkA) (cs : List Ct) (as : List Addr) (ns : List Int) (n : Int), vs = [.ref A, .int n] ∧ SrAt K H A I b.B ns ∧ BkAt K H b cs as ∧ 0 ≤ n ∧ n < (cs.length : Nat) ∧ (n ∉ ns → ns.length < 400) ∧
  (n ∈ ns → Q (.bl false) H) ∧ (n ∉ ns → ∀ H', Kf [A, I] H H' → SrAt K H' A I b.B (ns ++ [n]) → Q (.bl true) H')
def sp_Store_held (K : PySem.W.Frag) : Sp := fun vs H Q _ => ∃ (A I B : Addr) (ns : List Int), vs = [.ref A] ∧ SrAt K H A I B ns ∧
  ∀ (L : Addr) (ns' : List Int), H L = none → ns'.Perm ns → ns'.Pairwise (· ≤ ·) → Q (.ref L) (upd H L (.lst (ns'.map V.int)))
def sp_Store_view (K : PySem.W.Frag) : Sp := fun vs H Q _ => ∃ (A I : Addr) (b : BkA) (cs : List Ct) (as : List Addr) (ns : List Int), vs = [.ref A] ∧ HdC K ∧ SrAt K H A I b.B ns ∧ BkAt K H b cs as ∧ NmOk cs ns ∧
  ∀ (h : HlA) (ns' : List Int) (H' : Hp), Same H H' → H h.A = none → H h.I = none → H h.O = none → ns'.Perm ns → HlAt K H' h b.B ns' → Q (.ref h.A) H'
end
section
variable [HasW] {K : PySem.W.Frag} {vs : List V} {H : Hp} {Q : VK} {E : XK}
theorem len_Book_parents (h : sp_Book_parents K vs H Q E) : vs.length = 2 := by obtain ⟨_, _, _, _, _, _, _, rfl, _⟩ := h; rfl
theorem len_Holding_init (h : sp_Holding_init K vs H Q E) : vs.length = 3 := by obtain ⟨_, _, _, _, _, _, _, rfl, _⟩ := h; rfl
theorem len_Holding_versions (h : sp_Holding_versions K vs H Q E) : vs.length = 1 := by obtain ⟨_, _, _, _, _, rfl, _⟩ := h; rfl
theorem len_Holding_has_parents (h : sp_Holding_has_parents K vs H Q E) : vs.length = 2 := by obtain ⟨_, _, _, _, _, _, _, _, _, rfl, _⟩ := h; rfl
theorem len_Holding_edges (h : sp_Holding_edges K vs H Q E) : vs.length = 1 := by obtain ⟨_, _, _, _, _, rfl, _⟩ := h; rfl
theorem len_Store_init (h : sp_Store_init K vs H Q E) : vs.length = 2 := by obtain ⟨_, _, _, rfl, _⟩ := h; rfl
theorem len_Store_put (h : sp_Store_put K vs H Q E) : vs.length = 2 := by obtain ⟨_, _, _, _, _, _, _, rfl, _⟩ := h; rfl
theorem len_Store_held (h : sp_Store_held K vs H Q E) : vs.length = 1 := by obtain ⟨_, _, _, _, rfl, _⟩ := h; rfl
theorem len_Store_view (h : sp_Store_view K vs H Q E) : vs.length = 1 := by obtain ⟨_, _, _, _, _, _, rfl, _⟩ := h; rfl
end
section
variable [HasW]
abbrev N_Book_parents : List Str := ["self", "version"]
def t_Book_parents (K : PySem.W.Frag) : TS := (tRet (tOp (rIx K) (tMeth (He.ga K "Book") "thing" (sp_Book_thing K) [] E0 (tVar 0) (tCons (tVar 1) tNil)) (tC (.int 1))))
abbrev N_Holding_init : List Str := ["self", "book", "names", "name"]
def t_Holding_init (K : PySem.W.Frag) : TS := (tSeq (tFor (iList K (tVar 2)) (gName 3) (tIfS (tNot (tB (tMeth (He.ga K "Book") "is_name" (sp_Book_is_name K) [] E0 (tVar 1) (tCons (tVar 3) tNil)))) tNever tNext))
    (tSeq (sFld K (tVar 0) (tVar 1) "book")
    (tSeq (sFld K (tVar 0) (tDc (iList K (tVar 2)) (gName 3) tYes (tVar 3) (tC (.bl true)) [3]) "inside")
    (sFld K (tVar 0) (tCB rSortK (tCons (tFld K (tVar 0) "inside") tNil)) "ordered"))))
abbrev N_Holding_versions : List Str := ["self", "name"]
def t_Holding_versions (K : PySem.W.Frag) : TS := (tRet (tLc (iList K (tFld K (tVar 0) "ordered")) (gName 1) (tTest (tOp rEq (tMeth (He.ga K "Book") "kind" (sp_Book_kind K) [] E0 (tFld K (tVar 0) "book") (tCons (tVar 1) tNil)) (tC (.str "version")))) (tVar 1) [1]))
abbrev N_Holding_has_parents : List Str := ["self", "version", "parent"]
def t_Holding_has_parents (K : PySem.W.Frag) : TS := (tRet (tCB (rAll K) (tCons (tLc (iTup K (tMeth (He.ga K "Book") "parents" (sp_Book_parents K) [] E0 (tFld K (tVar 0) "book") (tCons (tVar 1) tNil))) (gName 2) tYes (tDIn (tVar 2) (tFld K (tVar 0) "inside")) [2]) tNil)))
abbrev N_Holding_edges : List Str := ["self", "version"]
def t_Holding_edges (K : PySem.W.Frag) : TS := (tRet (tLc (iList K (tMeth (He.ga K "Holding") "versions" (sp_Holding_versions K) [] E0 (tVar 0) tNil)) (gName 1) (tNot (tB (tMeth (He.ga K "Holding") "has_parents" (sp_Holding_has_parents K) [] E0 (tVar 0) (tCons (tVar 1) tNil)))) (tVar 1) [1]))
abbrev N_Store_init : List Str := ["self", "book"]
def t_Store_init (K : PySem.W.Frag) : TS := (tSeq (sFld K (tVar 0) (tVar 1) "book")
    (tSeq (sFld K (tVar 0) tDNewK "inside")
    (sFld K (tVar 0) (tC (.int 0)) "many_changes")))
abbrev N_Store_put : List Str := ["self", "name"]
def t_Store_put (K : PySem.W.Frag) : TS := (tSeq (tIfS (tNot (tB (tMeth (He.ga K "Book") "is_name" (sp_Book_is_name K) [] E0 (tFld K (tVar 0) "book") (tCons (tVar 1) tNil)))) tNever tNext)
    (tSeq (tIfS (tB (tDIn (tVar 1) (tFld K (tVar 0) "inside"))) (tRet (tC (.bl false))) tNext)
    (tSeq (sDPut (tFld K (tVar 0) "inside") (tVar 1) (tC (.bl true)))
    (tSeq (sFldAug K (tVar 0) (tC (.int 1)) rAdd "many_changes")
    (tRet (tC (.bl true)))))))
abbrev N_Store_held : List Str := ["self"]
def t_Store_held (K : PySem.W.Frag) : TS := (tRet (tCB rSortK (tCons (tFld K (tVar 0) "inside") tNil)))
abbrev N_Store_view : List Str := ["self"]
def t_Store_view (K : PySem.W.Frag) : TS := (tRet (tMake (He.ga K "Holding") (sp_Holding_init K) [] E0 (tCons (tFld K (tVar 0) "book") (tCons (tMeth (He.ga K "Store") "held" (sp_Store_held K) [] E0 (tVar 0) tNil) tNil))))
end
section
variable [HasW] {K : PySem.W.Frag} {vs : List V} {H : Hp} {Q : VK} {E : XK}
theorem pure_Book_parents (h : sp_Book_parents K vs H Q E) : t_Book_parents K { nx := fun _ H' => Q .non H', rt := Q } (start N_Book_parents vs) H := by
  obtain ⟨b, cs, as, i, ps, r, s, rfl, bk, hi, k⟩ := h
  obtain ⟨a, ha, hc⟩ := bk.at_.get hi
  obtain ⟨p, h1, h2⟩ := id hc
  exact bk.me (by decide) rfl ⟨_, rfl, b, cs, as, i, a, rfl, bk, ha, ixT h1 rfl (k p h2)⟩
theorem pure_Holding_versions (h : sp_Holding_versions K vs H Q E) : t_Holding_versions K { nx := fun _ H' => Q .non H', rt := Q } (start N_Holding_versions vs) H := by
  obtain ⟨h, b, cs, as, ns, rfl, hl, bk, nm, k⟩ := h
  dsimp only [t_Holding_versions, tRet, tLc, iList]
  refine hl.fO rfl ⟨h.O, rfl, ⟨_, sqL hl.hO⟩, fun L nL => ?_⟩
  refine lc_filt (ns := ns) (p := isV cs) (walk_list (xs := ns.map V.int)) (fun i H x H' y => ⟨y.1, y.2⟩) (by show 1 < 2; decide) nL (by rw [List.length_map]) (by rw [List.length_map]; have := hl.few; omega) (fun H' s => sqL (s _ _ hl.hO)) ?_ fun H' s hL => k L H' s nL hL
  intro v H' R hv s q
  obtain ⟨m, c, rfl, hm⟩ := nm.get hv
  rw [isV_at hm] at q
  dsimp only [tTest, tOp, tMeth]
  refine (hl.same s).fB rfl ?_
  refine (bk.same s).meF (m := "kind") (by decide) ?_
  exact ⟨_, rfl, b, cs, as, m, c, rfl, bk.same s, hm, rfl, _, rfl, by rw [strD]; exact q _ (Same.refl _)⟩
theorem pure_Holding_has_parents (h : sp_Holding_has_parents K vs H Q E) : t_Holding_has_parents K { nx := fun _ H' => Q .non H', rt := Q } (start N_Holding_has_parents vs) H := by
  obtain ⟨h, b, cs, as, ns, i, ps, r, s, rfl, hl, bk, hi, k⟩ := h
  have fo := (bk.ok _ (List.mem_of_getElem? hi)).1
  have lp : ps.length ≤ 4 := fo.1
  dsimp only [t_Holding_has_parents, tRet, tLc, iTup, tCB, tCons, tMeth]
  refine hl.fB rfl ?_
  obtain ⟨dxb, fsb, hxb, _, _, _, hmb⟩ := id bk.bo
  refine ⟨b.B, dxb, fsb, rfl, hxb, hmb "parents" (by decide), ?_⟩
  refine ⟨_, rfl, b, cs, as, i, ps, r, s, rfl, bk, hi, fun p hp => ⟨p, rfl, ⟨_, sqT hp⟩, fun L nL => ?_⟩⟩
  refine lc_grow (walk_tup (xs := ps.map V.int)) yAt (ys := ps.map fun p => V.bl (decide (p ∈ ns))) nL (by rw [List.length_map, List.length_map]) (by rw [List.length_map]; omega) (fun H' s => sqT (s _ _ hp)) ?_ ?_
  · rintro j x y H' R hj ⟨_, hx⟩ hy s q
    rw [List.getElem?_map] at hx hy
    cases e : ps[j]? with
    | none => rw [e] at hx; cases hx
    | some n =>
      rw [e] at hx hy
      cases Option.some.inj hx
      cases Option.some.inj hy
      obtain ⟨is, hI, m⟩ := (hl.same s).hI
      refine ⟨rfl, _, rfl, (hl.same s).fI rfl ⟨h.I, _, rfl, DGet.k (k := Sum.inl n) hI, ?_⟩⟩
      rw [nmD_some, show decide (n ∈ is) = decide (n ∈ ns) from decide_eq_decide.mpr (m n)]
      exact q _ (Same.refl _)
  · intro H' s hL
    refine ⟨L, ps.map fun p => decide (p ∈ ns), rfl, sqL (by rw [hL, List.map_map]; rfl), ?_⟩
    rw [show (ps.map fun p => decide (p ∈ ns)).all id = ps.all fun p => decide (p ∈ ns) from ints_all ps _]
    exact k _ s
theorem pure_Holding_edges (h : sp_Holding_edges K vs H Q E) : t_Holding_edges K { nx := fun _ H' => Q .non H', rt := Q } (start N_Holding_edges vs) H := by
  obtain ⟨h, b, cs, as, ns, rfl, hl, bk, nm, k⟩ := h
  refine hl.me rfl rfl ⟨h, b, cs, as, ns, rfl, hl, bk, nm, fun L1 H1 s1 nL1 hL1 => ⟨L1, rfl, ⟨_, sqL hL1⟩, fun L nL => ?_⟩⟩
  have lf : (ns.filter (isV cs)).length ≤ 400 := Nat.le_trans (List.length_filter_le _ _) hl.few
  have nL0 : H L = none := by
    cases e : H L with
    | none => rfl
    | some o => rw [s1 _ _ e] at nL; cases nL
  refine lc_filt (ns := ns.filter (isV cs)) (p := fun n => !(parsOf cs n).all fun p => decide (p ∈ ns)) (walk_list (xs := (ns.filter (isV cs)).map V.int)) (fun i H x H' y => ⟨y.1, y.2⟩) (by show 1 < 2; decide) nL (by rw [List.length_map]) (by rw [List.length_map]; omega) (fun H' s => sqL (s _ _ hL1)) ?_ fun H' s hL => k L H' (s1.trans s) nL0 hL
  intro v H' R hv s q
  have s2 := s1.trans s
  obtain ⟨hv1, hv2⟩ := List.mem_filter.mp hv
  obtain ⟨m, c, rfl, hm⟩ := nm.get hv1
  obtain ⟨ps, r, st, rfl⟩ := isV_ver hm hv2
  refine (hl.same s2).me rfl rfl ⟨_, rfl, h, b, cs, as, ns, m, ps, r, st, rfl, hl.same s2, bk.same s2, hm, fun H'' s'' => ⟨_, rfl, ?_⟩⟩
  rw [show parsOf cs (m : Int) = ps from parsOf_at hm] at q
  exact q _ s''
/-- a list's ints as a dict's keys -/
theorem tDc_setL {σ : L2.St} {s : Nat} {te : TE} {a : Addr} {ns : List Int} (hte : ∀ R : VK, R (.ref a) H → te σ H R) (hs : s < σ.length) (ha : H a = some (.lst (ns.map V.int))) (nd : ns.Nodup) (hz : ns.length ≤ 1000)
    (hd : ∀ F, H F = none → Q (.ref F) (upd H F (.dK (nmD ns)))) : tDc (iList K te) (gName s) tYes (tVar s) (tC (.bl true)) [s] σ H Q := by
  refine hte _ ⟨a, rfl, ⟨_, sqL ha⟩, fun F nF => ?_⟩
  have up : ∀ kvs, Same H (upd H F (.dK kvs)) := fun kvs b o e => updN (ne_of_none e nF) e
  refine ⟨fun i m H2 => m = ns.length - i ∧ i ≤ ns.length ∧ H2 = upd H F (.dK (nmD (ns.take i))), ⟨ns.length, by omega, Nat.zero_le _, by rw [List.take_zero]; rfl⟩, ?_⟩
  rintro i m H2 ⟨em, hi, rfl⟩
  by_cases h : i < ns.length
  · have hv : ns[i]? = some ns[i] := List.getElem?_eq_getElem h
    refine .inr ⟨⟨_, V.int ns[i], sqL (up _ _ _ ha), by rw [List.getElem?_map, hv]; rfl⟩, fun H3 => H3 = upd H F (.dK (nmD (ns.take (i + 1)))), fun H' e => ⟨ns.length - (i + 1), by omega, rfl, h, e⟩, ?_⟩
    rintro x H3 ⟨rfl, hx⟩
    have hx := hx _ (sqL (up _ _ _ ha))
    rw [List.getElem?_map, hv] at hx
    cases Option.some.inj hx
    refine ⟨by show (((σ.set s none).set s _).set s none) = σ.set s none; rw [List.set_set, List.set_set], ?_⟩
    dsimp only [tYes]
    rw [if_pos rfl]
    refine ⟨_, List.getElem?_set_self (show s < (σ.set s none).length by rw [List.length_set]; exact hs), nmD (ns.take i), Sum.inl ns[i], rfl, updS, ?_, ?_⟩
    · rw [List.length_map]
      exact Nat.lt_of_le_of_lt (by rw [List.length_take]; omega : (ns.take i).length ≤ 1000) (by decide)
    · have nin : ns[i] ∉ ns.take i := fun hm => by
        obtain ⟨j, hj, e⟩ := List.getElem_of_mem hm
        rw [List.length_take] at hj
        rw [List.getElem_take] at e
        have : j = i := (List.getElem_inj nd).mp e
        omega
      rw [upd_upd, nmD_put nin, List.take_succ, hv]
      rfl
  · have e : i = ns.length := by omega
    subst e
    refine .inl ⟨⟨_, sqL (up _ _ _ ha), by rw [List.length_map]; exact Nat.le_refl _⟩, ?_⟩
    rw [List.take_length]
    exact hd F nF
theorem perm_lt {ns ns' : List Int} (p : ns'.Perm ns) (i : ns'.Pairwise (· ≤ ·)) (nd : ns.Nodup) : ns'.Pairwise (· < ·) :=
  List.Pairwise.imp₂ (fun a b h1 h2 => by omega) i (p.nodup_iff.mpr nd)
theorem pure_Holding_init (h : sp_Holding_init K vs H Q E) : t_Holding_init K { nx := fun _ H' => Q .non H', rt := Q } (start N_Holding_init vs) H := by
  obtain ⟨x, dx, n, b, cs, as, ns, rfl, hc, hx, bk, hn, nd, nm, few, k⟩ := h
  refine ⟨_, rfl, n, rfl, ⟨_, sqL hn⟩, ?_⟩
  refine for_it (walk_list (xs := ns.map V.int)) (fun i σ H' => H' = H ∧ ∃ z, σ = [some (.ref x), some (.ref b.B), some (.ref n), z]) ⟨rfl, _, rfl⟩ (fun i σ H' _ e => by rw [e.1]; exact sqL hn) ?_ ?_
  · rintro i y σ H2 H3 hi ⟨rfl, z, rfl⟩ ⟨rfl, hy⟩
    rw [List.getElem?_map] at hy
    cases e : ns[i]? with
    | none => rw [e] at hy; cases hy
    | some v =>
      rw [e] at hy
      cases Option.some.inj hy
      have hv := nm v (List.mem_of_getElem? e)
      refine bk.meV (by decide) rfl ⟨_, rfl, b, cs, as, v, rfl, bk, _, rfl, ?_⟩
      rw [decide_eq_true hv.1, decide_eq_true (show v < (cs.length : Nat) by omega)]
      exact iteF ⟨rfl, _, rfl⟩
  · rintro σ H2 ⟨rfl, z, rfl⟩
    refine ⟨_, rfl, _, rfl, x, _, dx, _, rfl, hx, hc.cl, hc.n1, by decide, ?_⟩
    have s1 : ∀ a o, H2 a = some o → a ≠ x → upd H2 x (.ins (He.ga K "Holding") dx (putF "book" (.ref b.B) [])) a = some o := fun a o e ne => updN ne e
    have hx1 : upd H2 x (.ins (He.ga K "Holding") dx (putF "book" (.ref b.B) [])) x = some (.ins (He.ga K "Holding") dx [("book", .ref b.B)]) := updS
    have nnx : n ≠ x := ne_of hn hx (by intro z; cases z)
    have hn1 := s1 _ _ hn nnx
    generalize upd H2 x (.ins (He.ga K "Holding") dx (putF "book" (.ref b.B) [])) = H3 at s1 hx1 hn1
    dsimp only [tSeq, sFld]
    refine tDc_setL (fun R r => ⟨_, rfl, r⟩) (by show 3 < 4; decide) hn1 nd (by omega) fun I nI => ?_
    have nxI : x ≠ I := ne_of_none hx1 nI
    have nI0 : H2 I = none := by
      cases e : H2 I with
      | none => rfl
      | some o => rw [s1 _ _ e nxI.symm] at nI; cases nI
    refine ⟨_, rfl, x, _, dx, _, rfl, updN nxI hx1, hc.cl, hc.n2, by show (1 : Nat) < 1000; decide, ?_⟩
    refine ⟨_, rfl, x, _, dx, _, _, rfl, updS, hc.cl, hc.n2, rfl, I, nmD ns, ns, rfl, updN nxI.symm updS, nmD_keys ns, fun ns' O pm inc nO => ?_⟩
    have nxO : x ≠ O := ne_of_none updS nO
    have nIO : I ≠ O := ne_of_none (updN nxI.symm updS) nO
    have nO0 : H2 O = none := by
      cases e : H2 O with
      | none => rfl
      | some o => rw [updN nxO.symm (updN nIO.symm (s1 _ _ e nxO.symm))] at nO; cases nO
    refine ⟨_, rfl, x, _, dx, _, rfl, updN nxO updS, hc.cl, hc.n3, by show (2 : Nat) < 1000; decide, ?_⟩
    refine k ⟨x, I, O⟩ ns' _ rfl (fun a o e ne => updN ne (updN (ne_of_none e nO0) (updN ne (updN (ne_of_none e nI0) (s1 _ _ e ne))))) nI0 nO0 pm ?_
    exact ⟨hc, ⟨dx, updS⟩, ⟨ns, updN nxI.symm (updN nIO (updN nxI.symm updS)), fun m => (pm.mem_iff (a := m)).symm⟩, updN nxO.symm updS, perm_lt pm inc nd, by rw [pm.length_eq]; exact few⟩
theorem pure_Store_init (h : sp_Store_init K vs H Q E) : t_Store_init K { nx := fun _ H' => Q .non H', rt := Q } (start N_Store_init vs) H := by
  obtain ⟨x, dx, B, rfl, sc, hx, k⟩ := h
  refine ⟨_, rfl, _, rfl, x, _, dx, _, rfl, hx, sc.cl, sc.n1, by decide, ?_⟩
  refine fun I nI => ?_
  have nxI : x ≠ I := ne_of_none updS nI
  have nI0 : H I = none := by rw [upd_ne nxI.symm] at nI; exact nI
  refine ⟨_, rfl, x, _, dx, _, rfl, updN nxI updS, sc.cl, sc.n2, by show (1 : Nat) < 1000; decide, ?_⟩
  refine ⟨_, rfl, x, _, dx, _, rfl, updS, sc.cl, sc.n3, by show (2 : Nat) < 1000; decide, ?_⟩
  exact k I _ (fun a o e ne => updN ne (updN ne (updN (ne_of_none e nI0) (updN ne e)))) nI0 ⟨sc, ⟨dx, 0, updS⟩, updN nxI.symm (updN nxI.symm updS), List.nodup_nil, Nat.zero_le _⟩
theorem pure_Store_put (h : sp_Store_put K vs H Q E) : t_Store_put K { nx := fun _ H' => Q .non H', rt := Q } (start N_Store_put vs) H := by
  obtain ⟨A, I, b, cs, as, ns, n, rfl, st, bk, n0, n1, few, k1, k2⟩ := h
  dsimp only [t_Store_put, tSeq, tIfS, tNot, tB, tMeth]
  refine st.fB rfl ?_
  refine bk.meF (m := "is_name") (by decide) ?_
  refine ⟨_, rfl, b, cs, as, n, rfl, bk, _, rfl, ?_⟩
  rw [decide_eq_true n0, decide_eq_true n1]
  refine iteF ?_
  refine ⟨_, rfl, ?_⟩
  show tFld K (tVar 0) "inside" _ _ _
  refine st.fI rfl ?_
  refine ⟨I, _, rfl, DGet.k (k := Sum.inl n) st.hI, _, rfl, ?_⟩
  rw [nmD_some]
  by_cases hm : n ∈ ns
  · rw [decide_eq_true hm]
    exact iteT (k1 hm)
  · rw [decide_eq_false hm]
    refine iteF ?_
    dsimp only [tNext, tSeq, sDPut, tC]
    refine st.fI rfl ?_
    obtain ⟨dx, m, hA⟩ := st.so
    have nAI : A ≠ I := ne_of hA st.hI (by intro z; cases z)
    refine ⟨_, rfl, I, _, rfl, DPut.k (k := Sum.inl n) st.hI (by rw [List.length_map]; exact Nat.lt_of_le_of_lt st.few (by decide)), ?_⟩
    rw [nmD_put hm]
    refine ⟨_, rfl, A, _, dx, _, _, rfl, updN nAI hA, st.sc.cl, st.sc.n3, rfl, _, _, rfl, rfl, _, _, updN nAI hA, by show (3 : Nat) < 1000; decide, ?_⟩
    exact k2 hm _ ((Kf.refl.up (by simp)).up (by simp)) ⟨st.sc, ⟨dx, m + 1, updS⟩, updN nAI.symm updS, by
      rw [List.nodup_append]
      exact ⟨st.nd, by simp, fun a ha c hc e => hm (by rw [List.mem_singleton.mp hc] at e; rw [← e]; exact ha)⟩, by rw [List.length_append, List.length_singleton]; have := few hm; omega⟩
theorem pure_Store_held (h : sp_Store_held K vs H Q E) : t_Store_held K { nx := fun _ H' => Q .non H', rt := Q } (start N_Store_held vs) H := by
  obtain ⟨A, I, B, ns, rfl, st, k⟩ := h
  dsimp only [t_Store_held, tRet, tCB, tCons]
  refine st.fI rfl ?_
  exact ⟨I, nmD ns, ns, rfl, st.hI, nmD_keys ns, fun ns' p pm inc np => k p ns' np pm inc⟩
theorem pure_Store_view (h : sp_Store_view K vs H Q E) : t_Store_view K { nx := fun _ H' => Q .non H', rt := Q } (start N_Store_view vs) H := by
  obtain ⟨A, I, b, cs, as, ns, rfl, hc, st, bk, nm, k⟩ := h
  dsimp only [t_Store_view, tRet, tMake, tCons]
  refine st.fB rfl ?_
  refine st.me (fun _ => rfl) rfl ?_
  refine ⟨A, I, b.B, ns, rfl, st, fun L ns1 nL pm inc => ?_⟩
  intro x dx nx ndx ne
  have s1 : Same H (upd H L (.lst (ns1.map V.int))) := samN nL
  have hL : upd H L (.lst (ns1.map V.int)) L = some (.lst (ns1.map V.int)) := updS
  generalize upd H L (.lst (ns1.map V.int)) = H1 at s1 hL nx ndx
  have s2 : Same H1 (upd (upd H1 dx (.own x)) x (.ins (He.ga K "Holding") dx [])) := fun b o e => updN (ne_of_none e nx) (updN (ne_of_none e ndx) e)
  have s12 := s1.trans s2
  have fr : ∀ {y : Addr}, upd (upd H1 dx (.own x)) x (.ins (He.ga K "Holding") dx []) y = none → H y = none := by
    intro y e
    cases q : H y with
    | none => rfl
    | some o => rw [s12 _ _ q] at e; cases e
  have nx0 : H x = none := by
    cases q : H x with
    | none => rfl
    | some o => rw [s1 _ _ q] at nx; cases nx
  refine ⟨x, dx, L, b, cs, as, ns1, rfl, hc, updS, bk.same s12, s2 _ _ hL, pm.nodup_iff.mpr st.nd, fun n hn => nm n (pm.mem_iff.mp hn), by rw [pm.length_eq]; exact st.few, fun h ns' H' eA kp nI nO pm2 hl => ⟨rfl, ?_⟩⟩
  subst eA
  exact k h ns' H' (fun a o e => kp a o (s12 a o e) (ne_of_none e nx0)) nx0 (fr nI) (fr nO) (pm2.trans pm) hl
end
end Fw

set_option Elab.async false
set_option linter.all false
set_option maxRecDepth 100000
set_option maxHeartbeats 4000000
/-! str(x), x of an own class with its own __str__. -/
namespace Fw
open PySem PySem.Spec PyProof.Rows L2
section
variable {X : Cx} {CX : CXT} {k : Nat} {f C : Addr} {fd : FuncData} {ps : List Str} {sp : Sp} {E1 : XK}
theorem room_in2 {k : Nat} {A : Around} (r : Room (k + 1) A) : Room k A.in1.in1 :=
  ⟨r.hd, by have := r.dp; show A.depth + 3 * k + 5 < _; omega, by have := r.un; show A.units + 1 + 1 + 16 * k + 200 < _; omega⟩
def rStrC (C : Addr) (sp : Sp) (E : XK) : List V → Hp → VK → Prop := fun xs H Q => ∃ a dx fs, xs = [.ref a] ∧ H a = some (.ins C dx fs) ∧ sp [.ref a] H (fun v H' => ∃ z : Str, v = .str z ∧ Q (.str z) H') E
theorem call_strC (F : FnOk X.prog X.w X.K X.mg X.base CX k f fd ps sp) (hm : Meth X.K C "__str__" f) (hr : Room (k + 1) X.A) (hb : Binds X.K fd ps []) (hx : Passes CX X E1) : CallR X (.type "str") (rStrC C sp E1) := by
  intro pins s σ H xs us Q I r h
  obtain ⟨a, dx, fs, rfl, ha, q⟩ := h
  obtain rfl : us = [Value.ref a] := by
    cases r with
    | cons h t =>
      cases t
      obtain rfl := (show _ = Value.ref a from h)
      rfl
  obtain ⟨mA, J, _⟩ := ins_get I.hok ha
  obtain ⟨od, J, _⟩ := J.look
  refine PySem.W.kso_call (room_in2 hr).units0 I.kIn J hm.at_ hm.fn ?_
  have e0 : Env0 X.prog X.w X.K X.mg X.base X.A.in1.in1 X.stack s H := by
    have e := I.env0
    exact ⟨e.frames, e.mod, e.bs, e.bsz, e.funs, e.frf, e.hok, e.bare⟩
  have hl := F.len _ _ _ _ q
  refine wpAny_call (codeAny_mono (F.run X.A.in1.in1 X.stack s H ⟨[.ref a], []⟩ [.ref a] [.ref a] _ E1 (room_in2 hr) e0 (by
    have := hb s [.ref a] I.kIn (by simpa using hl)
    simpa using this) (.cons rfl .nil) q) fun r s' hq => ?_)
  cases r with
  | error e => exact hx pins σ H s e s' I hq
  | ok fl =>
    cases fl with
    | ret w =>
      obtain ⟨z, H', I', rz, n, ez, hz⟩ := I.after hq
      subst ez
      obtain ⟨t, rfl⟩ : ∃ t, w = .str n t := rz
      exact ⟨.str n, H', I', ⟨_, rfl⟩, hz⟩
    | next => exact False.elim hq
    | brk => exact False.elim hq
    | cont => exact False.elim hq
end
end Fw

set_option Elab.async false
set_option linter.all false
set_option maxRecDepth 100000
set_option maxHeartbeats 4000000
/-! x != x, x of an own class that has neither __eq__ nor __ne__ of its own. -/
namespace Fw
open PySem PySem.Spec PySem.Calls PyProof.Rows
structure ObjCmp (K : PySem.W.Frag) (C : Addr) : Prop where
  mro : PySem.W.mroIn K C (.type "object") = some true
  eq : PySem.W.findIn K (.ref C) "__eq__" = some (some (.builtin "object.__eq__"))
  ne : PySem.W.findIn K (.ref C) "__ne__" = some (some (.builtin "object.__ne__"))
section
variable {prog : Program} {w : World} {A : Around} {E : Value → Shared → Prop} {s : Shared} {K : PySem.W.Frag} {x C : Addr} {ox : Obj} {od : Option Obj}
theorem call_objEqS {Q : Value → Shared → Prop} (X : K.In s.heap) (I : PySem.W.InstAt s.heap x ox C od) (hm : PySem.W.mroIn K C (.type "object") = some true) (hq : Q (.bool true) s) :
    wpAny (model prog w) A (call (.builtin "object.__eq__") [.ref x, .ref x]) Q E s :=
  wpAny_call (codeAny_call_builtin F.cmp_object.eq.plain F.cmpEntry_eq (PySem.W.check_slot F.cmpKind_eq F.cmpSplit_eq (I.type.andThen (PySem.W.looks_mroIn X hm)) (F.cmpArgs_eq _ _) (objEq_entry_same hq)))
theorem objNe_entryS {Q : Fin → Shared → Prop} (hu : A.units < cLine) (X : K.In s.heap) (I : PySem.W.InstAt s.heap x ox C od) (c : ObjCmp K C) (hq : Q (.done (.ret (.bool false))) s) :
    wpAny (model prog w) A (Builtin.«object.__ne__» ⟨[.ref x, .ref x], []⟩) Q E s := by
  unfold Builtin.«object.__ne__»
  repeat (first | with_reducible refine wpAny_cRoomFor hu ?_ | with_reducible refine HN.ifBound_objEq X I c.eq (call_objEqS X I c.mro ?_) | wp_step)
  exact hq
theorem ifBound_objNeS {args : List Value} {Q : Option Value → Shared → Prop} (X : K.In s.heap) (I : PySem.W.InstAt s.heap x ox C od) (hs : PySem.W.findIn K (.ref C) "__ne__" = some (some (.builtin "object.__ne__")))
    (h : wpAny (model prog w) A (call (.builtin "object.__ne__") (.ref x :: args)) (fun v => Q (some v)) E s) : wpAny (model prog w) A (callSpecialIfBound? (.ref x) "__ne__" args) Q E s := by
  simp only [callSpecialIfBound?, bindSpecialIfBound?]
  refine wpAny_holding (wpAny_bind (wpAny_bind (wpAny_bind (I.type.here ((PySem.W.looks_findIn X hs).here ?_)))))
  refine wpAny_bind (wpAny_askSetting (wpAny_ite ?_))
  have fin : wpAny (model prog w) A (call (.builtin "object.__ne__") ([.ref x] ++ args) >>= fun v => pure (some v)) Q E s := wpAny_bind (wpAny_mono h (fun v s' h' => wpAny_pure h') fun _ _ h' => h')
  split
  · exact wpAny_bind (wpAny_of_eq (F.cmp_object.ne.bind _) (wpAny_pure (by exact fin)))
  · exact wpAny_tryCatch (wpAny_bind (wpAny_of_eq (F.cmp_object.ne.bind _) (wpAny_pure (by exact fin))))
theorem rc_neS (hu : A.units + 1 < cLine) (X : K.In s.heap) (I : PySem.W.InstAt s.heap x ox C od) (c : ObjCmp K C) {Q : Value → Shared → Prop} (h : Q (.bool false) s) : wpAny (model prog w) A (richCompare .NotEq (.ref x) (.ref x)) Q E s := by
  have hu0 : A.units < cLine := Nat.lt_of_succ_lt hu
  have one : wpAny (model prog w) A (tryCompare (.ref x) "__ne__" (.ref x)) (fun r s' => r = some (.bool false) ∧ s' = s) E s := by
    unfold tryCompare
    refine wpAny_bind (ifBound_objNeS X I c.ne (wpAny_call (codeAny_call_builtin F.cmp_object.ne.plain F.cmpEntry_ne (PySem.W.check_slot F.cmpKind_ne F.cmpSplit_ne (I.type.andThen (PySem.W.looks_mroIn X c.mro)) (F.cmpArgs_ne _ _) (objNe_entryS (A := A.in1) hu X I c ?_)))))
    exact wpAny_pure ⟨rfl, rfl⟩
  simp only [richCompare, cmpInfo_NotEq, oneThing_ref]
  refine wpAny_holding (wpAny_bind (wpAny_cRoomFor hu0 ?_))
  refine wpAny_bind (I.type.here ?_)
  refine wpAny_bind (I.type.here ?_)
  split
  · rename_i q
    exact absurd q (by simp)
  · refine wpAny_bind (m := tryCompare (.ref x) _ (.ref x)) (wpAny_mono one (fun r s1 z => ?_) fun _ _ e => e)
    obtain ⟨z1, z2⟩ := z
    subst z1
    subst z2
    first
      | exact wpAny_pure h
      | exact wpAny_bind (wpAny_pure h)
      | exact wpAny_bind (wpAny_rule (wpAny_pure h))
      | exact wpAny_rule (wpAny_pure h)
end
open L2
/-- x != x, x of a class without an __eq__ of its own -/
def rNeSame (K : PySem.W.Frag) : R2 := fun x y H Q => ∃ a C dx fs, x = .ref a ∧ y = .ref a ∧ H a = some (.ins C dx fs) ∧ ObjCmp K C ∧ Q (.bl false) H
theorem op_neSame {X : Cx} {k : Nat} (hr : Room k X.A) : OpR X (compareOp .NotEq) (rNeSame X.K) := by
  intro pins s σ H x y v u Q I rx ry h
  obtain ⟨a, C, dx, fs, rfl, rfl, ha, c, q⟩ := h
  cases rx
  cases ry
  obtain ⟨mA, J, _⟩ := ins_get I.hok ha
  obtain ⟨od, J, _⟩ := J.look
  show wpAny (model X.prog X.w) X.A (richCompare .NotEq (.ref a) (.ref a)) (EP X pins σ Q) X.xe s
  exact rc_neS (by have := hr.un; omega) I.kIn J c ⟨.bl false, H, I, rfl, q⟩
end Fw

set_option Elab.async false
set_option linter.all false
set_option maxRecDepth 100000
set_option maxHeartbeats 4000000
/-! A holding of any names, and what it tells of itself (law k06). -/
namespace Fw
open PySem L2 RZ RT
/-- data that is no int -/
def OddV (H : Hp) (x : V) : Prop := x = .non ∨ (∃ b, x = .bl b) ∨ (∃ z, x = .str z) ∨ (∃ a xs, x = .ref a ∧ H a = some (.tup xs)) ∨ (∃ a xs, x = .ref a ∧ H a = some (.lst xs)) ∨ ∃ a ks, x = .ref a ∧ H a = some (.dK ks)
theorem ki_b : kitB "bool" "int" = some true := by decide +kernel
theorem kb_b : kitB "bool" "bool" = some true := by decide +kernel
theorem ki_s : kitB "str" "int" = some false := by decide +kernel
theorem ki_t : kitB "tuple" "int" = some false := by decide +kernel
theorem ki_l : kitB "list" "int" = some false := by decide +kernel
theorem ki_d : kitB "dict" "int" = some false := by decide +kernel
theorem iOr_ints {K : PySem.W.Frag} {H : Hp} {σ : L2.St} {i : Nat} {a : Addr} {ns : List Int} {R : It → Hp → Prop} (e : σ[i]? = some (some (.ref a))) (hn : H a = some (.lst (ns.map V.int)) ∨ H a = some (.tup (ns.map V.int)))
    (r : ∀ (J : It) (G : Hp → Prop), Walk J (ns.map V.int).length G (YAt (ns.map V.int)) → (∀ H', H' a = H a → G H') → R J H) : iOr (iList K (tVar i)) (iTup K (tVar i)) σ H R := by
  rcases hn with h | h
  · exact .inl ⟨_, e, a, rfl, ⟨_, sqL h⟩, r _ _ walk_list fun H' e => sqL (e.trans h)⟩
  · exact .inr ⟨_, e, a, rfl, ⟨_, sqT h⟩, r _ _ walk_tup fun H' e => sqT (e.trans h)⟩
def insM (ns : List Int) (n : Int) : List Int := if n ∈ ns then ns else ns ++ [n]
theorem nmD_insM (ns : List Int) (n : Int) : putK (nmD ns) (.inl n) (.bl true) = nmD (insM ns n) := by
  unfold insM
  by_cases h : n ∈ ns
  · rw [if_pos h]
    unfold putK
    rw [if_pos (List.any_eq_true.mpr ⟨((Sum.inl n : Key), V.bl true), List.mem_map.mpr ⟨n, h, rfl⟩, decide_eq_true rfl⟩)]
    rw [List.map_map]
    refine List.map_congr_left fun m _ => ?_
    show (if (Sum.inl m : Key) = Sum.inl n then ((Sum.inl m : Key), V.bl true) else ((Sum.inl m : Key), V.bl true)) = _
    split <;> rfl
  · rw [if_neg h]
    exact nmD_put h
/-- names once each, in the order in which they come -/
def once (ns : List Int) : List Int := ns.foldl insM []
theorem once_snoc (ns : List Int) (n : Int) : once (ns ++ [n]) = insM (once ns) n := by
  unfold once
  rw [List.foldl_append]
  rfl
theorem insM_mem {ns : List Int} {n m : Int} : m ∈ insM ns n ↔ m ∈ ns ∨ m = n := by
  unfold insM
  split
  · rename_i h
    exact ⟨.inl, fun z => z.elim id fun e => by rw [e]; exact h⟩
  · rw [List.mem_append, List.mem_singleton]
theorem insM_nodup {ns : List Int} {n : Int} (h : ns.Nodup) : (insM ns n).Nodup := by
  unfold insM
  split
  · exact h
  · rename_i hn
    rw [List.nodup_append]
    exact ⟨h, by simp, fun y hy z hz e => hn (by rw [List.mem_singleton.mp hz] at e; rw [← e]; exact hy)⟩
theorem once_go : ∀ (ns acc : List Int), acc.Nodup → (ns.foldl insM acc).Nodup ∧ ∀ m, m ∈ ns.foldl insM acc ↔ m ∈ acc ∨ m ∈ ns
  | [], acc, h => ⟨h, fun m => by simp⟩
  | n :: ns, acc, h => by
    obtain ⟨h1, h2⟩ := once_go ns (insM acc n) (insM_nodup h)
    refine ⟨h1, fun m => ?_⟩
    rw [List.foldl_cons, h2 m, insM_mem, List.mem_cons, or_assoc]
theorem once_ok (ns : List Int) : (once ns).Nodup ∧ ∀ m, m ∈ once ns ↔ m ∈ ns := by
  obtain ⟨h1, h2⟩ := once_go ns [] List.nodup_nil
  exact ⟨h1, fun m => by rw [show once ns = ns.foldl insM [] from rfl, h2 m]; simp⟩
theorem once_len (ns : List Int) : (once ns).length ≤ ns.length := by
  have : ∀ (ns acc : List Int), (ns.foldl insM acc).length ≤ acc.length + ns.length := by
    intro ns
    induction ns with
    | nil => intro acc; exact Nat.le_refl _
    | cons n ns ih =>
      intro acc
      rw [List.foldl_cons, List.length_cons]
      have h1 := ih (insM acc n)
      have h2 : (insM acc n).length ≤ acc.length + 1 := by
        unfold insM
        split
        · omega
        · rw [List.length_append]; exact Nat.le_refl _
      omega
  have h := this ns []
  rw [List.length_nil, Nat.zero_add] at h
  exact h
theorem sub_len : ∀ {fs vs : List Int}, fs.Nodup → (∀ x ∈ fs, x ∈ vs) → fs.length ≤ vs.length
  | [], _, _, _ => Nat.zero_le _
  | x :: fs, vs, nd, h => by
    rw [List.nodup_cons] at nd
    have hx := h x List.mem_cons_self
    have e : (vs.erase x).length = vs.length - 1 := List.length_erase_of_mem hx
    have pos : 0 < vs.length := List.length_pos_of_mem hx
    have := sub_len (vs := vs.erase x) nd.2 fun y hy => (List.mem_erase_of_ne fun z => nd.1 (by rw [← z]; exact hy)).mpr (h y (List.mem_cons_of_mem _ hy))
    rw [List.length_cons]
    omega
theorem NmOk.lenM {cs : List Ct} {ns : List Int} (h : NmOk cs ns) (nd : ns.Nodup) : ns.length ≤ cs.length := by
  have := sub_len (vs := (List.range cs.length).map Int.ofNat) nd fun n hn => by
    have := h n hn
    obtain ⟨m, rfl⟩ := Int.eq_ofNat_of_zero_le this.1
    exact List.mem_map.mpr ⟨m, List.mem_range.mpr (by have := this.2; rwa [Int.toNat_natCast] at this), rfl⟩
  rwa [List.length_map, List.length_range] at this
/-- the text of a holding -/
def strS (ns : List Int) : Str := Txt.join " " (ns.map fun n => (toString n : Str))
section
variable [HasW]
def sp_is_intO (_ : PySem.W.Frag) : Sp := fun vs H Q _ => ∃ x, vs = [x] ∧ ((∃ i, x = .int i ∧ Q (.bl true) H) ∨ (OddV H x ∧ Q (.bl false) H))
def sp_Holding_inits (K : PySem.W.Frag) : Sp := fun vs H Q _ => ∃ (x dx n : Addr) (b : BkA) (cs : List Ct) (as : List Addr) (ns : List Int), vs = [.ref x, .ref b.B, .ref n] ∧ HdC K ∧ H x = some (.ins (He.ga K "Holding") dx []) ∧ BkAt K H b cs as ∧ (H n = some (.lst (ns.map V.int)) ∨ H n = some (.tup (ns.map V.int))) ∧ NmOk cs ns ∧ ns.length ≤ 1000 ∧
  ∀ (h : HlA) (ns' : List Int) (H' : Hp), h.A = x → (∀ a o, H a = some o → a ≠ x → H' a = some o) → H h.I = none → H h.O = none → (∀ m, m ∈ ns' ↔ m ∈ ns) → HlAt K H' h b.B ns' → Q .non H'
def sp_Holding_len (K : PySem.W.Frag) : Sp := fun vs H Q _ => ∃ (h : HlA) (B : Addr) (ns : List Int), vs = [.ref h.A] ∧ HlAt K H h B ns ∧ Q (.int (ns.length : Nat)) H
def sp_Holding_str (K : PySem.W.Frag) : Sp := fun vs H Q _ => ∃ (h : HlA) (B : Addr) (ns : List Int), vs = [.ref h.A] ∧ HlAt K H h B ns ∧ (∀ n ∈ ns, 0 ≤ n ∧ n.toNat < 400) ∧ ∀ H', Same H H' → Q (.str (strS ns)) H'
def sp_Holding_holds (K : PySem.W.Frag) : Sp := fun vs H Q _ => ∃ (h : HlA) (B : Addr) (ns : List Int) (x : V), vs = [.ref h.A, x] ∧ HlAt K H h B ns ∧ ((∃ i, x = .int i ∧ Q (.bl (decide (i ∈ ns))) H) ∨ (OddV H x ∧ Q (.bl false) H))
def sp_Holding_names (K : PySem.W.Frag) : Sp := fun vs H Q _ => ∃ (h : HlA) (B : Addr) (ns : List Int), vs = [.ref h.A] ∧ HlAt K H h B ns ∧ ∀ L, H L = none → Q (.ref L) (upd H L (.lst (ns.map V.int)))
end
section
variable [HasW] {K : PySem.W.Frag} {vs : List V} {H : Hp} {Q : VK} {E : XK}
theorem len_is_intO (h : sp_is_intO K vs H Q E) : vs.length = 1 := by obtain ⟨_, rfl, _⟩ := h; rfl
theorem len_Holding_inits (h : sp_Holding_inits K vs H Q E) : vs.length = 3 := by obtain ⟨_, _, _, _, _, _, _, rfl, _⟩ := h; rfl
theorem len_Holding_len (h : sp_Holding_len K vs H Q E) : vs.length = 1 := by obtain ⟨_, _, _, rfl, _⟩ := h; rfl
theorem len_Holding_str (h : sp_Holding_str K vs H Q E) : vs.length = 1 := by obtain ⟨_, _, _, rfl, _⟩ := h; rfl
theorem len_Holding_holds (h : sp_Holding_holds K vs H Q E) : vs.length = 2 := by obtain ⟨_, _, _, _, rfl, _⟩ := h; rfl
theorem len_Holding_names (h : sp_Holding_names K vs H Q E) : vs.length = 1 := by obtain ⟨_, _, _, rfl, _⟩ := h; rfl
end
section
variable [HasW]
abbrev N_is_intO : List Str := ["thing"]
def t_is_intO (K : PySem.W.Frag) : TS := (tRet (tAndV (tCB (rIsi K) (tCons (tVar 0) (tCons (tC (.ty "int")) tNil))) (tNotV (tCB (rIsi K) (tCons (tVar 0) (tCons (tC (.ty "bool")) tNil))))))
abbrev N_Holding_inits : List Str := ["self", "book", "names", "name"]
def t_Holding_inits (K : PySem.W.Frag) : TS := (tSeq (tFor (iOr (iList K (tVar 2)) (iTup K (tVar 2))) (gName 3) (tIfS (tNot (tB (tMeth (He.ga K "Book") "is_name" (sp_Book_is_name K) [] E0 (tVar 1) (tCons (tVar 3) tNil)))) tNever tNext))
    (tSeq (sFld K (tVar 0) (tVar 1) "book")
    (tSeq (sFld K (tVar 0) (tDc (iOr (iList K (tVar 2)) (iTup K (tVar 2))) (gName 3) tYes (tVar 3) (tC (.bl true)) [3]) "inside")
    (sFld K (tVar 0) (tCB rSortK (tCons (tFld K (tVar 0) "inside") tNil)) "ordered"))))
abbrev N_Holding_len : List Str := ["self"]
def t_Holding_len (K : PySem.W.Frag) : TS := (tRet (tCB (fLen K) (tCons (tFld K (tVar 0) "ordered") tNil)))
abbrev N_Holding_str : List Str := ["self", "name"]
def t_Holding_str (K : PySem.W.Frag) : TS := (tRet (tM1 (fJoin K) (tC (.str " ")) (tLc (iList K (tFld K (tVar 0) "ordered")) (gName 1) tYes (tCB rStrI (tCons (tVar 1) tNil)) [1])))
abbrev N_Holding_holds : List Str := ["self", "name"]
def t_Holding_holds (K : PySem.W.Frag) : TS := (tRet (tAndV (tCall (sp_is_intO K) [] E0 (tCons (tVar 1) tNil)) (tDIn (tVar 1) (tFld K (tVar 0) "inside"))))
abbrev N_Holding_names : List Str := ["self"]
def t_Holding_names (K : PySem.W.Frag) : TS := (tRet (tCB (fListOf K) (tCons (tFld K (tVar 0) "ordered") tNil)))
end
section
variable [HasW] {K : PySem.W.Frag} {vs : List V} {H : Hp} {Q : VK} {E : XK}
theorem pure_is_intO (h : sp_is_intO K vs H Q E) : t_is_intO K { nx := fun _ H' => Q .non H', rt := Q } (start N_is_intO vs) H := by
  obtain ⟨x, rfl, ⟨i, rfl, k⟩ | ⟨o, k⟩⟩ := h
  · exact ⟨_, rfl, isi (.base (.int i)) k_ii ⟨_, rfl, iteT ⟨_, rfl, isi (.base (.int i)) k_ib ⟨_, rfl, k⟩⟩⟩⟩
  · rcases o with rfl | ⟨b, rfl⟩ | ⟨z, rfl⟩ | ⟨a, xs, rfl, ha⟩ | ⟨a, xs, rfl, ha⟩ | ⟨a, ks, rfl, ha⟩
    · exact ⟨_, rfl, isi (.base .non) k_ni ⟨_, rfl, iteF k⟩⟩
    · exact ⟨_, rfl, isi (.base (.bl b)) ki_b ⟨_, rfl, iteT ⟨_, rfl, isi (.base (.bl b)) kb_b ⟨_, rfl, k⟩⟩⟩⟩
    · exact ⟨_, rfl, isi (.base (.str z)) ki_s ⟨_, rfl, iteF k⟩⟩
    · exact ⟨_, rfl, isi (.base (.tup ha)) ki_t ⟨_, rfl, iteF k⟩⟩
    · exact ⟨_, rfl, isi (.base (.lst ha)) ki_l ⟨_, rfl, iteF k⟩⟩
    · exact ⟨_, rfl, isi (.base (.dK ha)) ki_d ⟨_, rfl, iteF k⟩⟩
theorem pure_Holding_len (h : sp_Holding_len K vs H Q E) : t_Holding_len K { nx := fun _ H' => Q .non H', rt := Q } (start N_Holding_len vs) H := by
  obtain ⟨h, B, ns, rfl, hl, k⟩ := h
  dsimp only [t_Holding_len, tRet, tCB, tCons]
  refine hl.fO rfl (lenL hl.hO ?_)
  rw [List.length_map]
  exact k
theorem pure_Holding_names (h : sp_Holding_names K vs H Q E) : t_Holding_names K { nx := fun _ H' => Q .non H', rt := Q } (start N_Holding_names vs) H := by
  obtain ⟨h, B, ns, rfl, hl, k⟩ := h
  dsimp only [t_Holding_names, tRet, tCB, tCons]
  exact hl.fO rfl ⟨h.O, _, rfl, .inl (sqL hl.hO), k⟩
theorem pure_Holding_holds (h : sp_Holding_holds K vs H Q E) : t_Holding_holds K { nx := fun _ H' => Q .non H', rt := Q } (start N_Holding_holds vs) H := by
  obtain ⟨h, B, ns, x, rfl, hl, ⟨i, rfl, k⟩ | ⟨o, k⟩⟩ := h
  · refine ⟨_, rfl, _, rfl, .inl ⟨i, rfl, _, rfl, iteT ?_⟩⟩
    obtain ⟨is, hI, m⟩ := hl.hI
    refine ⟨_, rfl, hl.fI rfl ⟨h.I, _, rfl, DGet.k (k := Sum.inl i) hI, ?_⟩⟩
    rw [nmD_some, show decide (i ∈ is) = decide (i ∈ ns) from decide_eq_decide.mpr (m i)]
    exact k
  · exact ⟨_, rfl, _, rfl, .inr ⟨o, _, rfl, iteF k⟩⟩
theorem tDc_setA {σ : L2.St} {s i : Nat} {a : Addr} {ns : List Int} (e : σ[i]? = some (some (.ref a))) (hs : s < σ.length) (hn : H a = some (.lst (ns.map V.int)) ∨ H a = some (.tup (ns.map V.int))) (hz : ns.length ≤ 1000)
    (hd : ∀ F, H F = none → Q (.ref F) (upd H F (.dK (nmD (once ns))))) : tDc (iOr (iList K (tVar i)) (iTup K (tVar i))) (gName s) tYes (tVar s) (tC (.bl true)) [s] σ H Q := by
  refine iOr_ints e hn fun J G w hG F nF => ?_
  have so : ∃ o, H a = some o := hn.elim (fun h => ⟨_, h⟩) fun h => ⟨_, h⟩
  obtain ⟨o, ho⟩ := so
  have naF : a ≠ F := ne_of_none ho nF
  have st : ∀ kvs, upd H F (.dK kvs) a = H a := fun kvs => upd_ne naF
  have l0 : (ns.map V.int).length = ns.length := List.length_map ..
  refine ⟨fun i m H2 => m = ns.length - i ∧ i ≤ ns.length ∧ H2 = upd H F (.dK (nmD (once (ns.take i)))), ⟨ns.length, by omega, Nat.zero_le _, by rw [List.take_zero]; rfl⟩, ?_⟩
  rintro i m H2 ⟨em, hi, rfl⟩
  by_cases h : i < ns.length
  · have hv : ns[i]? = some ns[i] := List.getElem?_eq_getElem h
    refine .inr ⟨w.goes i _ (by rw [l0]; exact h) (hG _ (st _)), fun H3 => H3 = upd H F (.dK (nmD (once (ns.take (i + 1))))), fun H' e => ⟨ns.length - (i + 1), by omega, rfl, h, e⟩, ?_⟩
    intro x H3 hy
    obtain ⟨rfl, hx⟩ := w.yields i _ x H3 (by rw [l0]; exact h) (hG _ (st _)) hy
    rw [List.getElem?_map, hv] at hx
    cases Option.some.inj hx
    refine ⟨by show (((σ.set s none).set s _).set s none) = σ.set s none; rw [List.set_set, List.set_set], ?_⟩
    dsimp only [tYes]
    rw [if_pos rfl]
    refine ⟨_, List.getElem?_set_self (show s < (σ.set s none).length by rw [List.length_set]; exact hs), nmD (once (ns.take i)), Sum.inl ns[i], rfl, updS, ?_, ?_⟩
    · rw [List.length_map]
      have := once_len (ns.take i)
      rw [List.length_take] at this
      exact Nat.lt_of_le_of_lt (show _ ≤ 1000 by omega) (by decide)
    · rw [upd_upd, nmD_insM, ← once_snoc, List.take_succ, hv]
      rfl
  · have e : i = ns.length := by omega
    subst e
    refine .inl ⟨?_, ?_⟩
    · have := w.stops _ (hG _ (st (nmD (once (ns.take ns.length)))))
      rw [l0] at this
      exact this
    · rw [List.take_length]
      exact hd F nF
theorem pure_Holding_inits (h : sp_Holding_inits K vs H Q E) : t_Holding_inits K { nx := fun _ H' => Q .non H', rt := Q } (start N_Holding_inits vs) H := by
  obtain ⟨x, dx, n, b, cs, as, ns, rfl, hc, hx, bk, hn, nm, few, k⟩ := h
  have l0 : (ns.map V.int).length = ns.length := List.length_map ..
  refine iOr_ints (i := 2) rfl hn fun J G w hG => ?_
  refine for_it w (fun i σ H' => H' = H ∧ ∃ z, σ = [some (.ref x), some (.ref b.B), some (.ref n), z]) ⟨rfl, _, rfl⟩ (fun i σ H' _ e => hG _ (by rw [e.1])) ?_ ?_
  · rintro i y σ H2 H3 hi ⟨rfl, z, rfl⟩ ⟨rfl, hy⟩
    rw [List.getElem?_map] at hy
    cases e : ns[i]? with
    | none => rw [e] at hy; cases hy
    | some v =>
      rw [e] at hy
      cases Option.some.inj hy
      have hv := nm v (List.mem_of_getElem? e)
      refine bk.meV (by decide) rfl ⟨_, rfl, b, cs, as, v, rfl, bk, _, rfl, ?_⟩
      rw [decide_eq_true hv.1, decide_eq_true (show v < (cs.length : Nat) by omega)]
      exact iteF ⟨rfl, _, rfl⟩
  · rintro σ H2 ⟨rfl, z, rfl⟩
    refine ⟨_, rfl, _, rfl, x, _, dx, _, rfl, hx, hc.cl, hc.n1, by decide, ?_⟩
    have s1 : ∀ a o, H2 a = some o → a ≠ x → upd H2 x (.ins (He.ga K "Holding") dx (putF "book" (.ref b.B) [])) a = some o := fun a o e ne => updN ne e
    have hx1 : upd H2 x (.ins (He.ga K "Holding") dx (putF "book" (.ref b.B) [])) x = some (.ins (He.ga K "Holding") dx [("book", .ref b.B)]) := updS
    have nnx : n ≠ x := hn.elim (fun h => ne_of h hx (by intro z; cases z)) fun h => ne_of h hx (by intro z; cases z)
    have hn1 := hn.imp (fun h => s1 _ _ h nnx) fun h => s1 _ _ h nnx
    generalize upd H2 x (.ins (He.ga K "Holding") dx (putF "book" (.ref b.B) [])) = H3 at s1 hx1 hn1
    dsimp only [tSeq, sFld]
    refine tDc_setA (i := 2) rfl (by show 3 < 4; decide) hn1 few fun I nI => ?_
    have nxI : x ≠ I := ne_of_none hx1 nI
    have nI0 : H2 I = none := by
      cases e : H2 I with
      | none => rfl
      | some o => rw [s1 _ _ e nxI.symm] at nI; cases nI
    obtain ⟨nd, mem⟩ := once_ok ns
    refine ⟨_, rfl, x, _, dx, _, rfl, updN nxI hx1, hc.cl, hc.n2, by show (1 : Nat) < 1000; decide, ?_⟩
    refine ⟨_, rfl, x, _, dx, _, _, rfl, updS, hc.cl, hc.n2, rfl, I, nmD (once ns), once ns, rfl, updN nxI.symm updS, nmD_keys (once ns), fun ns' O pm inc nO => ?_⟩
    have nxO : x ≠ O := ne_of_none updS nO
    have nIO : I ≠ O := ne_of_none (updN nxI.symm updS) nO
    have nO0 : H2 O = none := by
      cases e : H2 O with
      | none => rfl
      | some o => rw [updN nxO.symm (updN nIO.symm (s1 _ _ e nxO.symm))] at nO; cases nO
    have mem2 : ∀ m, m ∈ ns' ↔ m ∈ ns := fun m => pm.mem_iff.trans (mem m)
    have lt := perm_lt pm inc nd
    have ok : NmOk cs ns' := fun m hm => nm m ((mem2 m).mp hm)
    refine ⟨_, rfl, x, _, dx, _, rfl, updN nxO updS, hc.cl, hc.n3, by show (2 : Nat) < 1000; decide, ?_⟩
    refine k ⟨x, I, O⟩ ns' _ rfl (fun a o e ne => updN ne (updN (ne_of_none e nO0) (updN ne (updN (ne_of_none e nI0) (s1 _ _ e ne))))) nI0 nO0 mem2 ?_
    exact ⟨hc, ⟨dx, updS⟩, ⟨once ns, updN nxI.symm (updN nIO (updN nxI.symm updS)), fun m => (pm.mem_iff (a := m)).symm⟩, updN nxO.symm updS, lt, Nat.le_trans (ok.lenM (pm.nodup_iff.mpr nd)) bk.few⟩
theorem str_len {n : Int} (h0 : 0 ≤ n) (h1 : n.toNat < 400) : (toString n : Str).length ≤ 20 := by
  have h : ((List.range 400).all fun n => decide ((toString (Int.ofNat n) : Str).length ≤ 20)) = true := by decide +kernel
  obtain ⟨m, rfl⟩ := Int.eq_ofNat_of_zero_le h0
  exact of_decide_eq_true (List.all_eq_true.mp h m (List.mem_range.mpr (by rwa [Int.toNat_natCast] at h1)))
theorem log_le {i : Int} (h0 : 0 ≤ i) (h1 : i.toNat < 400) : i.natAbs.log2 < 1920 := by
  have h : i.natAbs ≠ 0 → i.natAbs.log2 < 1920 := fun z => Nat.lt_of_lt_of_le ((Nat.log2_lt z).mpr (show i.natAbs < 2 ^ 9 by omega)) (by decide)
  by_cases z : i.natAbs = 0
  · rw [z]; decide
  · exact h z
theorem sum_le : ∀ {zs : List Str} , (∀ z ∈ zs, z.length ≤ 20) → (zs.map (·.length)).sum ≤ 20 * zs.length
  | [], _ => Nat.le_refl _
  | z :: zs, h => by
    have h1 := h z List.mem_cons_self
    have h2 := sum_le fun y hy => h y (List.mem_cons_of_mem _ hy)
    rw [List.map_cons, List.sum_cons, List.length_cons]
    omega
theorem pure_Holding_str (h : sp_Holding_str K vs H Q E) : t_Holding_str K { nx := fun _ H' => Q .non H', rt := Q } (start N_Holding_str vs) H := by
  obtain ⟨h, B, ns, rfl, hl, nm, k⟩ := h
  refine ⟨⟨_, rfl⟩, ?_⟩
  dsimp only [tLc, iList]
  refine hl.fO rfl ⟨h.O, rfl, ⟨_, sqL hl.hO⟩, fun L nL => ?_⟩
  refine lc_grow (walk_list (xs := ns.map V.int)) yAt (ys := ns.map fun n => V.str (toString n)) nL (by rw [List.length_map, List.length_map]) (by rw [List.length_map]; have := hl.few; omega) (fun H' s => sqL (s _ _ hl.hO)) ?_ ?_
  · rintro j x y H' R hj ⟨_, hx⟩ hy s q
    rw [List.getElem?_map] at hx hy
    cases e : ns[j]? with
    | none => rw [e] at hx; cases hx
    | some n =>
      rw [e] at hx hy
      cases Option.some.inj hx
      cases Option.some.inj hy
      have hn := nm n (List.mem_of_getElem? e)
      exact ⟨rfl, _, rfl, n, rfl, log_le hn.1 hn.2, q _ (Same.refl _)⟩
  · intro H' s hL
    refine ⟨_, L, ns.map fun n => (toString n : Str), rfl, rfl, .inl (sqL (by rw [hL, List.map_map]; rfl)), ?_, k _ s⟩
    have h1 := sum_le (zs := ns.map fun n => (toString n : Str)) fun z hz => by
      obtain ⟨n, hn, rfl⟩ := List.mem_map.mp hz
      exact str_len (nm n hn).1 (nm n hn).2
    have h2 : (" " : Str).length = 1 := by decide +kernel
    have h3 := hl.few
    rw [List.length_map] at h1
    rw [List.length_map, h2]
    omega
end
end Fw

set_option Elab.async false
set_option linter.all false
set_option maxRecDepth 100000
set_option maxHeartbeats 4000000
namespace Fw
open PySem PySem.Spec PyProof.Rows L2
section
variable {X : Cx} {e : Expr} {es : List Expr} {ta : TA} {p1 p2 pos : Pos} {x : Str} {CH : Addr}
/-- what a class of the text must say, so that C.__init__ is ValueError's -/
structure HeirC (K : PySem.W.Frag) (CH : Addr) : Prop where
  rd : PySem.W.readsIn K CH (.type "type") = true
  ga : PySem.W.specialIn K (.ref CH) "__getattribute__" = some (some (.builtin "type.__getattribute__"))
  ty : PySem.W.typeIn K (.ref CH) = some (.type "type")
  vi : PySem.W.findCls K (.ref CH) (.type "type") "__init__" = some (.val (.builtin "ValueError.__init__"))
def heirB (K : PySem.W.Frag) (CH : Addr) : Bool := PySem.W.readsIn K CH (.type "type") && (decide (PySem.W.specialIn K (.ref CH) "__getattribute__" = some (some (.builtin "type.__getattribute__"))) && (decide (PySem.W.typeIn K (.ref CH) = some (.type "type")) &&
  match PySem.W.findCls K (.ref CH) (.type "type") "__init__" with
  | some (.val (.builtin z)) => decide (z = "ValueError.__init__")
  | _ => false))
theorem heirB_ok {K : PySem.W.Frag} {CH : Addr} (h : heirB K CH = true) : HeirC K CH := by
  unfold heirB at h
  obtain ⟨h1, h⟩ := Bool.and_eq_true_iff.mp h
  obtain ⟨h2, h⟩ := Bool.and_eq_true_iff.mp h
  obtain ⟨h3, h4⟩ := Bool.and_eq_true_iff.mp h
  refine ⟨h1, of_decide_eq_true h2, of_decide_eq_true h3, ?_⟩
  split at h4
  · rename_i z q
    rw [q, of_decide_eq_true h4]
  · cases h4
/-- Base.__init__(self, ..), Base a class of the text over ValueError -/
theorem pe_heir {pl : Sem Bool} (hg : Gl X x) (hm : X.mg x = some (.ref CH)) (R : HeirC X.K CH) (args : PA X (e :: es) ta) 
    (comes : eval (.Call (.Attribute (.Name x p1) "__init__" p2) (e :: es) [] pos) X.env = (do
      let cv ← eval (.Name x p1) X.env
      standAt p2.atName
      let (fn, ahead) ← holding [cv] (getMethod cv "__init__" pl)
      callWith pos fn ahead (backTo pos (starEach (e :: es) X.env)) (backToKw pos (keywordEach [] X.env))) := by rfl) (dbg : (x == ("__debug__" : Str)) = false := by decide)
    (fst : starEach (e :: es) X.env = (false, eval e X.env) :: starEach es X.env := by rfl) (flat : (backTo pos (starEach es X.env)).any (·.1) = false := by rfl) : PE X (.Call (.Attribute (.Name x p1) "__init__" p2) (e :: es) [] pos) (tVeI X.K ta) := by
  refine ⟨fun pins s σ H Q inv rd => ?_⟩
  refine PySem.W.methodCall_KW (ld_glob inv hg hm ?_ dbg) comes
  obtain ⟨m, fr⟩ := inv.fr
  refine PySem.W.method_of_cls fr inv.ok.mod.kin R.ga (PySem.W.cls_val fr inv.ok.mod.kin R.ty R.rd R.vi (by decide +kernel) ?_)
  show wpAny _ _ (callWith pos (Value.builtin "ValueError.__init__") [] (backTo pos (starEach (e :: es) X.env)) [])
    _ _ _
  refine PyProof.Rows.callWith_method1 (thn (args.run pos pins _ σ H _ (inv.tok _) rd)
    fun us s1 ⟨vs, H1, inv1, rel, self, C, more, same, few, oex, at_, q⟩ => ?_) fst flat
  subst same
  cases rel with
  | @cons _ u0 _ ur r0 rm =>
    obtain rfl : u0 = Value.ref self := r0
    have n : ur.length ≤ sizeLine := by
      rw [← Paired.length rm, sizeLine_eq]
      omega
    exact oinit_ok oex inv1 at_ n fun s2 inv2 => ⟨.non, H1, inv2, rfl, q⟩
/-- the class at C is one of the text over ValueError, with fields of its own: as a Bool -/
def oexB (K : PySem.W.Frag) (C : Addr) : Bool := (match K.lookup C with
  | some ⟨.type "type", _, .cls cd, sl⟩ => (match cd.mro, sl.toList with
    | .ref me :: up, [_, _, _, _, some (.builtin nw), _] => decide (me = C) && (decide (nw = "ValueError.__new__") && (cd.hasDict && (!cd.hasDel && PySem.HandSPX.refsVE up)))
    | _, _ => false)
  | _ => false) && (decide (PySem.W.findIn K (.ref C) "__setattr__" = some (some (.builtin "object.__setattr__"))) && (decide (PySem.W.subIn K (.ref C) (.type "BaseException") = some true) && (decide (PySem.W.typeIn K (.ref C) = some (.type "type")) && PySem.W.keepIn K (.ref C))))
theorem oexB_ok {K : PySem.W.Frag} {C : Addr} (h : oexB K C = true) : OexC K C := by
  unfold oexB at h
  obtain ⟨h1, h⟩ := Bool.and_eq_true_iff.mp h
  obtain ⟨h2, h⟩ := Bool.and_eq_true_iff.mp h
  obtain ⟨h3, h⟩ := Bool.and_eq_true_iff.mp h
  obtain ⟨h4, h5⟩ := Bool.and_eq_true_iff.mp h
  refine ⟨?_, of_decide_eq_true h2, of_decide_eq_true h3, of_decide_eq_true h4, h5⟩
  split at h1
  · rename_i dd cd sl ho
    split at h1
    · rename_i me up k0 k1 k2 k3 nw k5 em es
      obtain ⟨g1, h1⟩ := Bool.and_eq_true_iff.mp h1
      obtain ⟨g2, h1⟩ := Bool.and_eq_true_iff.mp h1
      obtain ⟨g3, h1⟩ := Bool.and_eq_true_iff.mp h1
      obtain ⟨g4, g5⟩ := Bool.and_eq_true_iff.mp h1
      have q1 := of_decide_eq_true g1
      have q2 := of_decide_eq_true g2
      have q4 : cd.hasDel = false := by
        cases z : cd.hasDel with
        | false => rfl
        | true => rw [z] at g4; cases g4
      obtain ⟨c1, c2, c3, c4, c5, c6, c7, c8, c9, c10, c11⟩ := cd
      dsimp only at em g3 q4
      subst em g3 q4 q1 q2
      have eS : sl = #[k0, k1, k2, k3, some (.builtin "ValueError.__new__"), k5] := by
        cases sl with
        | mk l => exact congrArg Array.mk es
      subst eS
      exact ⟨_, _, _, _, _, _, _, _, _, _, _, _, _, _, _, ho, g5⟩
    · cases h1
  · cases h1
end
end Fw

set_option Elab.async false
set_option linter.all false
set_option maxRecDepth 100000
set_option maxHeartbeats 4000000
/-! C.m(self, ..), C a plain class of the text: rules. -/
namespace Fw
open PySem PySem.Spec PyProof.Rows L2
/-- C.m is the def at f -/
structure ClsG (K : PySem.W.Frag) (CH f : Addr) (m : Str) : Prop where
  rd : PySem.W.readsIn K CH (.type "type") = true
  ga : PySem.W.specialIn K (.ref CH) "__getattribute__" = some (some (.builtin "type.__getattribute__"))
  ty : PySem.W.typeIn K (.ref CH) = some (.type "type")
  vi : PySem.W.findCls K (.ref CH) (.type "type") m = some (.val (.ref f))
  kp : PySem.W.keepIn K (.ref f) = true
def clsgB (K : PySem.W.Frag) (CH f : Addr) (m : Str) : Bool := PySem.W.readsIn K CH (.type "type") && (decide (PySem.W.specialIn K (.ref CH) "__getattribute__" = some (some (.builtin "type.__getattribute__"))) && (decide (PySem.W.typeIn K (.ref CH) = some (.type "type")) && ((match PySem.W.findCls K (.ref CH) (.type "type") m with
  | some (.val (.ref z)) => decide (z = f)
  | _ => false) && PySem.W.keepIn K (.ref f))))
theorem clsgB_ok {K : PySem.W.Frag} {CH f : Addr} {m : Str} (h : clsgB K CH f m = true) : ClsG K CH f m := by
  unfold clsgB at h
  obtain ⟨h1, h⟩ := Bool.and_eq_true_iff.mp h
  obtain ⟨h2, h⟩ := Bool.and_eq_true_iff.mp h
  obtain ⟨h3, h⟩ := Bool.and_eq_true_iff.mp h
  obtain ⟨h4, h5⟩ := Bool.and_eq_true_iff.mp h
  refine ⟨h1, of_decide_eq_true h2, of_decide_eq_true h3, ?_, h5⟩
  split at h4
  · rename_i z q
    rw [q, of_decide_eq_true h4]
  · cases h4
section
variable {X : Cx} {CX : CXT} {k : Nat} {f CH : Addr} {fd : FuncData} {ps : List Str} {sp : Sp} {dvs : List V} {ds : List Value} {E : XK} {x m : Str} {p1 p2 pos : Pos} {e : Expr} {es : List Expr} {t : TA}
theorem pe_clsm {pl : Sem Bool} (hg : Gl X x) (hm : X.mg x = some (.ref CH)) (G : ClsG X.K CH f m) (F : FnOk X.prog X.w X.K X.mg X.base CX k f fd ps sp) (hr : Room k X.A) (hb : L2.Binds X.K fd ps ds) (hd : Vals dvs ds) (hx : Passes CX X E) (ha : PA X (e :: es) t)
    (comes : eval (.Call (.Attribute (.Name x p1) m p2) (e :: es) [] pos) X.env = (do
      let cv ← eval (.Name x p1) X.env
      standAt p2.atName
      let (fn, ahead) ← holding [cv] (getMethod cv m pl)
      callWith pos fn ahead (backTo pos (starEach (e :: es) X.env)) (backToKw pos (keywordEach [] X.env))) := by rfl) (dbg : (x == ("__debug__" : Str)) = false := by decide)
    (fst : starEach (e :: es) X.env = (false, eval e X.env) :: starEach es X.env := by rfl) (flat : (backTo pos (starEach es X.env)).any (·.1) = false := by rfl) : PE X (.Call (.Attribute (.Name x p1) m p2) (e :: es) [] pos) (tCall sp dvs E t) := by
  refine ⟨fun pins s σ H Q I h => ?_⟩
  refine PySem.W.methodCall_KW (ld_glob I hg hm ?_ dbg) comes
  obtain ⟨mm, fr⟩ := I.fr
  refine PySem.W.method_of_cls fr I.ok.mod.kin G.ga (PySem.W.cls_val fr I.ok.mod.kin G.ty G.rd G.vi rfl ?_)
  show wpAny _ _ (callWith pos (Value.ref f) [] (backTo pos (starEach (e :: es) X.env)) []) _ _ _
  exact PySem.W.callWith_K I.ok.mod.kin G.kp (thn (ha.run pos pins _ σ H (fun vs H1 => sp (vs ++ dvs) H1 Q E) (I.tok _) h) fun us s1 ⟨vs, H1, I1, r, q⟩ => ⟨I1.kIn, run_fn F hr hb hd hx I1 r q⟩) fst flat
end
end Fw

set_option Elab.async false
set_option linter.all false
set_option maxRecDepth 100000
set_option maxHeartbeats 4000000
/-! A house: a store with marks, moves, far marks and pins. -/
namespace Fw
open PySem L2 RZ RT
/-- what the class House must have -/
structure HsC (K : PySem.W.Frag) : Prop where
  cl : Cls K (He.ga K "House")
  n1 : NoAttr K (He.ga K "House") "book"
  n2 : NoAttr K (He.ga K "House") "inside"
  n3 : NoAttr K (He.ga K "House") "many_changes"
  n4 : NoAttr K (He.ga K "House") "standing"
  n5 : NoAttr K (He.ga K "House") "last_moves"
  n6 : NoAttr K (He.ga K "House") "far_standing"
  n7 : NoAttr K (He.ga K "House") "pinned"
structure HsA where
  A : Addr
  I : Addr
  S : Addr
  M : Addr
  F : Addr
  P : Addr
abbrev hsF (B : Addr) (h : HsA) (m : Int) : List (Str × V) := [("book", .ref B), ("inside", .ref h.I), ("many_changes", .int m), ("standing", .ref h.S), ("last_moves", .ref h.M), ("far_standing", .ref h.F), ("pinned", .ref h.P)]
/-- a house of the book B that holds these names -/
structure HsAt (K : PySem.W.Frag) (H : Hp) (h : HsA) (B : Addr) (ns : List Int) (m : Int) : Prop where
  hc : HsC K
  ho : ∃ dx, H h.A = some (.ins (He.ga K "House") dx (hsF B h m))
  hI : H h.I = some (.dK (nmD ns))
  nd : ns.Nodup
  few : ns.length ≤ 400
section
variable {K : PySem.W.Frag} {H H' : Hp} {h : HsA} {B : Addr} {ns : List Int} {m : Int} {Q : VK} {σ : L2.St} {i : Nat}
theorem HsAt.kf {F : List Addr} (x : HsAt K H h B ns m) (kf : Kf F H H') (n : ∀ y ∈ [h.A, h.I], y ∉ F) : HsAt K H' h B ns m := by
  obtain ⟨dx, e⟩ := x.ho
  exact ⟨x.hc, ⟨dx, kf _ _ e (n _ (by simp))⟩, kf _ _ x.hI (n _ (by simp)), x.nd, x.few⟩
theorem HsAt.same (x : HsAt K H h B ns m) (s : Same H H') : HsAt K H' h B ns m := x.kf (F := []) (.same s) fun _ _ z => nomatch z
theorem HsAt.fB (x : HsAt K H h B ns m) (e : σ[i]? = some (some (.ref h.A))) (q : Q (.ref B) H) : tFld K (tVar i) "book" σ H Q := by
  obtain ⟨dx, hx⟩ := x.ho
  exact ⟨_, e, h.A, _, dx, _, _, rfl, hx, x.hc.cl, x.hc.n1, rfl, q⟩
theorem HsAt.fI (x : HsAt K H h B ns m) (e : σ[i]? = some (some (.ref h.A))) (q : Q (.ref h.I) H) : tFld K (tVar i) "inside" σ H Q := by
  obtain ⟨dx, hx⟩ := x.ho
  exact ⟨_, e, h.A, _, dx, _, _, rfl, hx, x.hc.cl, x.hc.n2, rfl, q⟩
theorem HsAt.me {n : Str} {sp : Sp} {E : XK} {ta : TA} (x : HsAt K H h B ns m) (hm : ∀ m', (hsF B h m').lookup n = none) (e : σ[i]? = some (some (.ref h.A))) (q : ta σ H fun vs H2 => sp (.ref h.A :: (vs ++ [])) H2 Q E) : tMeth (He.ga K "House") n sp [] E (tVar i) ta σ H Q := by
  obtain ⟨dx, hx⟩ := x.ho
  exact ⟨_, e, h.A, dx, _, rfl, hx, hm m, q⟩
theorem HsAt.ne (x : HsAt K H h B ns m) : h.A ≠ h.I := by
  obtain ⟨dx, e⟩ := x.ho
  exact ne_of e x.hI fun z => by cases z
/-- a house is no part of a book -/
theorem HsAt.sep [HasW] {b : BkA} {cs : List Ct} {as : List Addr} (x : HsAt K H h B ns m) (bk : BkAt K H b cs as) : ∀ y ∈ [b.B, b.L, b.E, b.G], y ∉ [h.A, h.I] := fun y hy hz => by
  obtain ⟨dx, e⟩ := x.ho
  obtain ⟨dx2, fs, hB, c1, _⟩ := bk.bo
  simp only [List.mem_cons, List.not_mem_nil, or_false] at hy hz
  rcases hz with rfl | rfl
  · rcases hy with e2 | e2 | e2 | e2
    · rw [e2, hB] at e
      injection e with e
      injection e with _ _ e
      rw [e] at c1
      cases c1
    · rw [e2, bk.hL] at e; cases e
    · rw [e2, bk.hE] at e; cases e
    · rw [e2, bk.hG] at e
      exact nd_ne_ins (Option.some.inj e)
  · have hI := x.hI
    rcases hy with e2 | e2 | e2 | e2
    · rw [e2, hB] at hI; cases hI
    · rw [e2, bk.hL] at hI; cases hI
    · rw [e2, bk.hE] at hI; cases hI
    · rw [e2, bk.hG] at hI
      unfold ND at hI
      cases hI
end
section
variable [HasW]
/-- a new house's other parts -/
def HsE (H : Hp) (h : HsA) : Prop := H h.S = some (.dK []) ∧ H h.M = some (.lst []) ∧ H h.F = some (ND h.F []) ∧ H h.P = some (.lst [])
def sp_Store_initH (K : PySem.W.Frag) : Sp := fun vs H Q _ => ∃ (x dx B : Addr), vs = [.ref x, .ref B] ∧ HsC K ∧ H x = some (.ins (He.ga K "House") dx []) ∧
  ∀ (I : Addr) (H' : Hp), (∀ a o, H a = some o → a ≠ x → H' a = some o) → H I = none → I ≠ x → H' x = some (.ins (He.ga K "House") dx [("book", .ref B), ("inside", .ref I), ("many_changes", .int 0)]) → H' I = some (.dK []) → Q .non H'
def sp_House_init (K : PySem.W.Frag) : Sp := fun vs H Q _ => ∃ (x dx B : Addr), vs = [.ref x, .ref B] ∧ HsC K ∧ H x = some (.ins (He.ga K "House") dx []) ∧
  ∀ (h : HsA) (H' : Hp), h.A = x → (∀ a o, H a = some o → a ≠ x → H' a = some o) → (∀ y ∈ [h.I, h.S, h.M, h.F, h.P], H y = none) → [h.A, h.I, h.S, h.M, h.F, h.P].Nodup → HsAt K H' h B [] 0 → HsE H' h → Q .non H'
def sp_House_put (K : PySem.W.Frag) : Sp := fun vs H Q _ => ∃ (h : HsA) (b : BkA) (cs : List Ct) (as : List Addr) (ns : List Int) (m n : Int), vs = [.ref h.A, .int n] ∧ HsAt K H h b.B ns m ∧ BkAt K H b cs as ∧ 0 ≤ n ∧ n < (cs.length : Nat) ∧ (n ∉ ns → ns.length < 400) ∧
  (n ∈ ns → Q (.bl false) H) ∧ (n ∉ ns → ∀ H', Kf [h.A, h.I] H H' → HsAt K H' h b.B (ns ++ [n]) (m + 1) → Q (.bl true) H')
def sp_House_held (K : PySem.W.Frag) : Sp := fun vs H Q _ => ∃ (h : HsA) (B : Addr) (ns : List Int) (m : Int), vs = [.ref h.A] ∧ HsAt K H h B ns m ∧
  ∀ (L : Addr) (ns' : List Int), H L = none → ns'.Perm ns → ns'.Pairwise (· ≤ ·) → Q (.ref L) (upd H L (.lst (ns'.map V.int)))
def sp_House_view (K : PySem.W.Frag) : Sp := fun vs H Q _ => ∃ (h : HsA) (b : BkA) (cs : List Ct) (as : List Addr) (ns : List Int) (m : Int), vs = [.ref h.A] ∧ HdC K ∧ HsAt K H h b.B ns m ∧ BkAt K H b cs as ∧ NmOk cs ns ∧
  ∀ (v : HlA) (ns' : List Int) (H' : Hp), Same H H' → H v.A = none → H v.I = none → H v.O = none → (∀ q, q ∈ ns' ↔ q ∈ ns) → HlAt K H' v b.B ns' → Q (.ref v.A) H'
end
section
variable [HasW] {K : PySem.W.Frag} {vs : List V} {H : Hp} {Q : VK} {E : XK}
theorem len_Store_initH (h : sp_Store_initH K vs H Q E) : vs.length = 2 := by obtain ⟨_, _, _, rfl, _⟩ := h; rfl
theorem len_House_init (h : sp_House_init K vs H Q E) : vs.length = 2 := by obtain ⟨_, _, _, rfl, _⟩ := h; rfl
theorem len_House_put (h : sp_House_put K vs H Q E) : vs.length = 2 := by obtain ⟨_, _, _, _, _, _, _, rfl, _⟩ := h; rfl
theorem len_House_held (h : sp_House_held K vs H Q E) : vs.length = 1 := by obtain ⟨_, _, _, _, rfl, _⟩ := h; rfl
theorem len_House_view (h : sp_House_view K vs H Q E) : vs.length = 1 := by obtain ⟨_, _, _, _, _, _, rfl, _⟩ := h; rfl
end
section
variable [HasW]
abbrev N_Store_initH : List Str := ["self", "book"]
def t_Store_initH (K : PySem.W.Frag) : TS := (tSeq (sFld K (tVar 0) (tVar 1) "book")
    (tSeq (sFld K (tVar 0) tDNewK "inside")
    (sFld K (tVar 0) (tC (.int 0)) "many_changes")))
abbrev N_House_init : List Str := ["self", "book"]
def t_House_init (K : PySem.W.Frag) : TS := (tSeq (tDrop (tCall (sp_Store_initH K) [] E0 (tCons (tVar 0) (tCons (tVar 1) tNil))))
    (tSeq (sFld K (tVar 0) tDNewK "standing")
    (tSeq (sFld K (tVar 0) (tLst tNil) "last_moves")
    (tSeq (sFld K (tVar 0) tNNew "far_standing")
    (sFld K (tVar 0) (tLst tNil) "pinned")))))
abbrev N_House_put : List Str := ["self", "name"]
def t_House_put (K : PySem.W.Frag) : TS := (tSeq (tIfS (tNot (tB (tMeth (He.ga K "Book") "is_name" (sp_Book_is_name K) [] E0 (tFld K (tVar 0) "book") (tCons (tVar 1) tNil)))) tNever tNext)
    (tSeq (tIfS (tB (tDIn (tVar 1) (tFld K (tVar 0) "inside"))) (tRet (tC (.bl false))) tNext)
    (tSeq (sDPut (tFld K (tVar 0) "inside") (tVar 1) (tC (.bl true)))
    (tSeq (sFldAug K (tVar 0) (tC (.int 1)) rAdd "many_changes")
    (tRet (tC (.bl true)))))))
abbrev N_House_held : List Str := ["self"]
def t_House_held (K : PySem.W.Frag) : TS := (tRet (tCB rSortK (tCons (tFld K (tVar 0) "inside") tNil)))
abbrev N_House_view : List Str := ["self"]
def t_House_view (K : PySem.W.Frag) : TS := (tRet (tMake (He.ga K "Holding") (sp_Holding_inits K) [] E0 (tCons (tFld K (tVar 0) "book") (tCons (tMeth (He.ga K "House") "held" (sp_House_held K) [] E0 (tVar 0) tNil) tNil))))
end
section
variable [HasW] {K : PySem.W.Frag} {vs : List V} {H : Hp} {Q : VK} {E : XK}
theorem pure_Store_initH (h : sp_Store_initH K vs H Q E) : t_Store_initH K { nx := fun _ H' => Q .non H', rt := Q } (start N_Store_initH vs) H := by
  obtain ⟨x, dx, B, rfl, sc, hx, k⟩ := h
  refine ⟨_, rfl, _, rfl, x, _, dx, _, rfl, hx, sc.cl, sc.n1, by decide, ?_⟩
  refine fun I nI => ?_
  have nxI : x ≠ I := ne_of_none updS nI
  have nI0 : H I = none := by rw [upd_ne nxI.symm] at nI; exact nI
  refine ⟨_, rfl, x, _, dx, _, rfl, updN nxI updS, sc.cl, sc.n2, by show (1 : Nat) < 1000; decide, ?_⟩
  refine ⟨_, rfl, x, _, dx, _, rfl, updS, sc.cl, sc.n3, by show (2 : Nat) < 1000; decide, ?_⟩
  exact k I _ (fun a o e ne => updN ne (updN ne (updN (ne_of_none e nI0) (updN ne e)))) nI0 nxI.symm updS (updN nxI.symm (updN nxI.symm updS))
theorem pure_House_init (h : sp_House_init K vs H Q E) : t_House_init K { nx := fun _ H' => Q .non H', rt := Q } (start N_House_init vs) H := by
  obtain ⟨x, dx, B, rfl, sc, hx, k⟩ := h
  refine ⟨_, rfl, _, rfl, x, dx, B, rfl, sc, hx, fun I H1 kp1 nI nIx hx1 hI1 => ?_⟩
  have old : ∀ {y : Addr} {Hn : Hp}, (∀ a o, H a = some o → a ≠ x → Hn a = some o) → Hn y = none → y ≠ x → H y = none := fun kp e n => by
    cases q : H _ with
    | none => rfl
    | some o => rw [kp _ _ q n] at e; cases e
  -- standing
  refine fun S nS => ?_
  have xS : x ≠ S := ne_of_none hx1 nS
  have IS : I ≠ S := ne_of_none hI1 nS
  have nS0 := old kp1 nS xS.symm
  refine ⟨_, rfl, x, _, dx, _, rfl, updN xS hx1, sc.cl, sc.n4, by show (3 : Nat) < 1000; decide, ?_⟩
  refine ⟨by show (0 : Nat) ≤ sizeLine; decide, fun M nM => ?_⟩
  have xM : x ≠ M := ne_of_none updS nM
  rw [upd_ne xM.symm] at nM
  have SM : S ≠ M := ne_of_none updS nM
  rw [upd_ne SM.symm] at nM
  have IM : I ≠ M := ne_of_none hI1 nM
  have nM0 := old kp1 nM xM.symm
  refine ⟨_, rfl, x, _, dx, _, rfl, updN xM updS, sc.cl, sc.n5, by show (4 : Nat) < 1000; decide, ?_⟩
  refine fun F nF => ?_
  have xF : x ≠ F := ne_of_none updS nF
  rw [upd_ne xF.symm] at nF
  have MF : M ≠ F := ne_of_none updS nF
  rw [upd_ne MF.symm, upd_ne xF.symm] at nF
  have SF : S ≠ F := ne_of_none updS nF
  rw [upd_ne SF.symm] at nF
  have IF : I ≠ F := ne_of_none hI1 nF
  have nF0 := old kp1 nF xF.symm
  refine ⟨_, rfl, x, _, dx, _, rfl, updN xF updS, sc.cl, sc.n6, by show (5 : Nat) < 1000; decide, ?_⟩
  refine ⟨by show (0 : Nat) ≤ sizeLine; decide, fun P nP => ?_⟩
  have xP : x ≠ P := ne_of_none updS nP
  rw [upd_ne xP.symm] at nP
  have FP : F ≠ P := ne_of_none updS nP
  rw [upd_ne FP.symm, upd_ne xP.symm] at nP
  have MP : M ≠ P := ne_of_none updS nP
  rw [upd_ne MP.symm, upd_ne xP.symm] at nP
  have SP : S ≠ P := ne_of_none updS nP
  rw [upd_ne SP.symm] at nP
  have IP : I ≠ P := ne_of_none hI1 nP
  have nP0 := old kp1 nP xP.symm
  refine ⟨_, rfl, x, _, dx, _, rfl, updN xP updS, sc.cl, sc.n7, by show (6 : Nat) < 1000; decide, ?_⟩
  refine k ⟨x, I, S, M, F, P⟩ _ rfl (fun a o e n => updN n (updN (ne_of_none e nP0) (updN n (updN (ne_of_none e nF0) (updN n (updN (ne_of_none e nM0) (updN n (updN (ne_of_none e nS0) (kp1 a o e n))))))))) ?_ ?_ ⟨sc, ⟨dx, updS⟩, ?_, List.nodup_nil, Nat.zero_le _⟩ ⟨?_, ?_, ?_, ?_⟩
  · intro y hy
    simp only [List.mem_cons, List.not_mem_nil, or_false] at hy
    rcases hy with rfl | rfl | rfl | rfl | rfl
    · exact nI
    · exact nS0
    · exact nM0
    · exact nF0
    · exact nP0
  · simp [nIx.symm, xS, xM, xF, xP, IS, IM, IF, IP, SM, SF, SP, MF, MP, FP]
  · exact updN nIx (updN IP (updN nIx (updN IF (updN nIx (updN IM (updN nIx (updN IS hI1)))))))
  · exact updN xS.symm (updN SP (updN xS.symm (updN SF (updN xS.symm (updN SM (updN xS.symm updS))))))
  · exact updN xM.symm (updN MP (updN xM.symm (updN MF (updN xM.symm updS))))
  · exact updN xF.symm (updN FP (updN xF.symm updS))
  · exact updN xP.symm updS
theorem pure_House_put (h : sp_House_put K vs H Q E) : t_House_put K { nx := fun _ H' => Q .non H', rt := Q } (start N_House_put vs) H := by
  obtain ⟨h, b, cs, as, ns, m, n, rfl, st, bk, n0, n1, few, k1, k2⟩ := h
  dsimp only [t_House_put, tSeq, tIfS, tNot, tB, tMeth]
  refine st.fB rfl ?_
  refine bk.meF (m := "is_name") (by decide) ?_
  refine ⟨_, rfl, b, cs, as, n, rfl, bk, _, rfl, ?_⟩
  rw [decide_eq_true n0, decide_eq_true n1]
  refine iteF ?_
  refine ⟨_, rfl, ?_⟩
  show tFld K (tVar 0) "inside" _ _ _
  refine st.fI rfl ?_
  refine ⟨h.I, _, rfl, DGet.k (k := Sum.inl n) st.hI, _, rfl, ?_⟩
  rw [nmD_some]
  by_cases hm : n ∈ ns
  · rw [decide_eq_true hm]
    exact iteT (k1 hm)
  · rw [decide_eq_false hm]
    refine iteF ?_
    dsimp only [tNext, tSeq, sDPut, tC]
    refine st.fI rfl ?_
    obtain ⟨dx, hA⟩ := st.ho
    have nAI : h.A ≠ h.I := st.ne
    refine ⟨_, rfl, h.I, _, rfl, DPut.k (k := Sum.inl n) st.hI (by rw [List.length_map]; exact Nat.lt_of_le_of_lt st.few (by decide)), ?_⟩
    rw [nmD_put hm]
    refine ⟨_, rfl, h.A, _, dx, _, _, rfl, updN nAI hA, st.hc.cl, st.hc.n3, rfl, _, _, rfl, rfl, _, _, updN nAI hA, by show (7 : Nat) < 1000; decide, ?_⟩
    exact k2 hm _ ((Kf.refl.up (by simp)).up (by simp)) ⟨st.hc, ⟨dx, updS⟩, updN nAI.symm updS, by
      rw [List.nodup_append]
      exact ⟨st.nd, by simp, fun a ha c hc e => hm (by rw [List.mem_singleton.mp hc] at e; rw [← e]; exact ha)⟩, by rw [List.length_append, List.length_singleton]; have := few hm; omega⟩
theorem pure_House_held (h : sp_House_held K vs H Q E) : t_House_held K { nx := fun _ H' => Q .non H', rt := Q } (start N_House_held vs) H := by
  obtain ⟨h, B, ns, m, rfl, st, k⟩ := h
  dsimp only [t_House_held, tRet, tCB, tCons]
  refine st.fI rfl ?_
  exact ⟨h.I, nmD ns, ns, rfl, st.hI, nmD_keys ns, fun ns' p pm inc np => k p ns' np pm inc⟩
theorem pure_House_view (h : sp_House_view K vs H Q E) : t_House_view K { nx := fun _ H' => Q .non H', rt := Q } (start N_House_view vs) H := by
  obtain ⟨h, b, cs, as, ns, m, rfl, hc, st, bk, nm, k⟩ := h
  dsimp only [t_House_view, tRet, tMake, tCons]
  refine st.fB rfl ?_
  refine st.me (fun _ => rfl) rfl ?_
  refine ⟨h, b.B, ns, m, rfl, st, fun L ns1 nL pm inc => ?_⟩
  intro x dx nx ndx ne
  have s1 : Same H (upd H L (.lst (ns1.map V.int))) := samN nL
  have hL : upd H L (.lst (ns1.map V.int)) L = some (.lst (ns1.map V.int)) := updS
  generalize upd H L (.lst (ns1.map V.int)) = H1 at s1 hL nx ndx
  have s2 : Same H1 (upd (upd H1 dx (.own x)) x (.ins (He.ga K "Holding") dx [])) := fun b o e => updN (ne_of_none e nx) (updN (ne_of_none e ndx) e)
  have s12 := s1.trans s2
  have fr : ∀ {y : Addr}, upd (upd H1 dx (.own x)) x (.ins (He.ga K "Holding") dx []) y = none → H y = none := by
    intro y e
    cases q : H y with
    | none => rfl
    | some o => rw [s12 _ _ q] at e; cases e
  have nx0 : H x = none := by
    cases q : H x with
    | none => rfl
    | some o => rw [s1 _ _ q] at nx; cases nx
  refine ⟨x, dx, L, b, cs, as, ns1, rfl, hc, updS, bk.same s12, .inl (s2 _ _ hL), fun n hn => nm n (pm.mem_iff.mp hn), by have := st.few; rw [pm.length_eq]; omega, fun v ns' H' eA kp nI nO mem hl => ⟨rfl, ?_⟩⟩
  subst eA
  exact k v ns' H' (fun a o e => kp a o (s12 a o e) (ne_of_none e nx0)) nx0 (fr nI) (fr nO) (fun q => (mem q).trans pm.mem_iff) hl
end
end Fw

set_option Elab.async false
set_option linter.all false
set_option maxRecDepth 100000
set_option maxHeartbeats 4000000
/-! The shape of a holding's versions, and that it is one (law k13). -/
namespace Fw
open PySem L2 RZ RT
/-- a walk of any body -/
theorem walk_W {J : It} {n : Nat} {G : Hp → Prop} {Y : Nat → Hp → V → Hp → Prop} (w : Walk J n G Y) {H0 : Hp} {Qd : Hp → Prop} {B : (Hp → Prop) → V → Hp → Prop} (Pv : Nat → Hp → Prop) (h0 : Pv 0 H0) (hG : ∀ i H, i ≤ n → Pv i H → G H) (step : ∀ i x H H', i < n → Pv i H → Y i H x H' → B (Pv (i + 1)) x H') (fin : ∀ H, Pv n H → Qd H) :
    ∃ W : Nat → Nat → Hp → Prop, (∃ m, W 0 m H0) ∧ ∀ i m H, W i m H → (J.stop i H ∧ Qd H) ∨ (J.go i H ∧ ∃ Nx : Hp → Prop, (∀ H', Nx H' → ∃ m', m' < m ∧ W (i + 1) m' H') ∧ ∀ x H', J.yld i H x H' → B Nx x H') := by
  refine ⟨fun i m H => m = n - i ∧ i ≤ n ∧ Pv i H, ⟨n, by omega, Nat.zero_le _, h0⟩, ?_⟩
  rintro i m H ⟨em, hi, p⟩
  by_cases h : i < n
  · exact .inr ⟨w.goes i H h (hG i H hi p), Pv (i + 1), fun H' q => ⟨n - (i + 1), by omega, rfl, h, q⟩, fun x H' hy => step i x H H' h p (w.yields i H x H' h (hG i H hi p) hy)⟩
  · obtain rfl : i = n := by omega
    exact .inl ⟨w.stops H (hG _ H hi p), fin H p⟩
/-- pairs of ints, each a tuple -/
def PsA (H : Hp) (as : List Addr) (ls : List (Int × Int)) : Prop := as.length = ls.length ∧ ∀ (i : Nat) (a : Addr) (l : Int × Int), as[i]? = some a → ls[i]? = some l → H a = some (.tup [.int l.1, .int l.2])
theorem PsA.mono {H H' : Hp} {as : List Addr} {ls : List (Int × Int)} (p : PsA H as ls) (tm : TM H H') : PsA H' as ls := ⟨p.1, fun i a l h1 h2 => tm _ _ (p.2 i a l h1 h2)⟩
theorem PsA.nil {H : Hp} : PsA H [] [] := ⟨rfl, fun i a l h => by cases h⟩
theorem PsA.snoc {H : Hp} {as : List Addr} {ls : List (Int × Int)} {T : Addr} {l : Int × Int} (p : PsA H as ls) (hT : H T = some (.tup [.int l.1, .int l.2])) : PsA H (as ++ [T]) (ls ++ [l]) := by
  refine ⟨by rw [List.length_append, List.length_append, p.1]; rfl, fun i a m h1 h2 => ?_⟩
  by_cases hi : i < as.length
  · rw [List.getElem?_append_left hi] at h1
    rw [List.getElem?_append_left (by rw [← p.1]; exact hi)] at h2
    exact p.2 i a m h1 h2
  · have hi2 : i < (as ++ [T]).length := (List.getElem?_eq_some_iff.mp h1).1
    rw [List.length_append, List.length_singleton] at hi2
    have e : i = as.length := by omega
    rw [List.getElem?_append_right (by omega), e, Nat.sub_self] at h1
    rw [List.getElem?_append_right (by rw [← p.1]; omega), e, p.1, Nat.sub_self] at h2
    cases Option.some.inj h1
    cases Option.some.inj h2
    exact hT
/-- the links of these versions -/
def lks (cs : List Ct) (ns es vs : List Int) : List (Int × Int) := vs.flatMap fun v => if v ∈ es then [] else ((parsOf cs v).filter (fun p => decide (p ∈ ns))).map fun p => (v, p)
/-- a shape, as it stands -/
def ShA (H : Hp) (q : Addr) (vs : List Int) (ls : List (Int × Int)) : Prop := ∃ (a l : Addr) (as : List Addr), H q = some (.tup [.ref a, .ref l]) ∧ H a = some (.tup (vs.map V.int)) ∧ H l = some (.tup (as.map V.ref)) ∧ PsA H as ls
theorem ShA.mono {H H' : Hp} {q : Addr} {vs : List Int} {ls : List (Int × Int)} (s : ShA H q vs ls) (tm : TM H H') : ShA H' q vs ls := by
  obtain ⟨a, l, as, h1, h2, h3, p⟩ := s
  exact ⟨a, l, as, tm _ _ h1, tm _ _ h2, tm _ _ h3, p.mono tm⟩
theorem ShA.same {H : Hp} {q r : Addr} {vs : List Int} {ls : List (Int × Int)} (s : ShA H q vs ls) (u : ShA H r vs ls) (h1 : vs.length ≤ 1000) (h2 : ls.length ≤ 10000) : SameV H 6 (.ref q) (.ref r) := by
  obtain ⟨a, l, as, q1, q2, q3, p⟩ := s
  obtain ⟨a', l', as', r1, r2, r3, p'⟩ := u
  refine SameV.tup q1 r1 rfl (by show (2 : Nat) ≤ 100000; decide) fun i x y hx hy => ?_
  match i, hx, hy with
  | 0, hx, hy =>
    cases Option.some.inj hx
    cases Option.some.inj hy
    exact SameV.tup q2 r2 rfl (by rw [List.length_map]; omega) SameV.ints
  | 1, hx, hy =>
    cases Option.some.inj hx
    cases Option.some.inj hy
    refine SameV.tup q3 r3 (by rw [List.length_map, List.length_map, p.1, p'.1]) (by rw [List.length_map, p.1]; omega) fun j x y hx hy => ?_
    rw [List.getElem?_map] at hx hy
    cases e1 : as[j]? with
    | none => rw [e1] at hx; cases hx
    | some b =>
      cases e2 : as'[j]? with
      | none => rw [e2] at hy; cases hy
      | some b' =>
        rw [e1] at hx
        rw [e2] at hy
        cases Option.some.inj hx
        cases Option.some.inj hy
        have hj : j < ls.length := by rw [← p.1]; exact (List.getElem?_eq_some_iff.mp e1).1
        have el := List.getElem?_eq_getElem hj
        refine SameV.tup (p.2 j b _ e1 el) (p'.2 j b' _ e2 el) rfl (by show (2 : Nat) ≤ 100000; decide) fun m x y hx hy => ?_
        match m, hx, hy with
        | 0, hx, hy =>
          cases Option.some.inj hx
          cases Option.some.inj hy
          exact SameV.int rfl
        | 1, hx, hy =>
          cases Option.some.inj hx
          cases Option.some.inj hy
          exact SameV.int rfl
/-- a lower pair: by its first, then by its second -/
def ltP (a b : Int × Int) : Prop := a.1 < b.1 ∨ (a.1 = b.1 ∧ a.2 < b.2)
def LtP (H : Hp) (x y : V) : Prop := ∃ (a b : Addr) (i j : Int × Int), x = .ref a ∧ y = .ref b ∧ H a = some (.tup [.int i.1, .int i.2]) ∧ H b = some (.tup [.int j.1, .int j.2]) ∧ ltP i j
theorem LtP.same {H H' : Hp} {x y : V} (h : LtP H x y) (s : Same H H') : LtP H' x y := by
  obtain ⟨a, b, i, j, h1, h2, h3, h4, h5⟩ := h
  exact ⟨a, b, i, j, h1, h2, s _ _ h3, s _ _ h4, h5⟩
theorem lexLt_pair {a b : Int × Int} (h : ltP a b) : HT.lexLt [a.1, a.2] [b.1, b.2] = true := by
  rcases h with h | ⟨e, h⟩
  · simp [HT.lexLt, h]
    exact .inl (by omega)
  · simp [HT.lexLt, e, h]
    omega
theorem LtP.run {K : PySem.W.Frag} {H : Hp} {x y : V} {Q : VK} (h : LtP H x y) (q : Q (.bl true) H) : rLtT K x y H Q := by
  obtain ⟨a, b, i, j, h1, h2, h3, h4, h5⟩ := h
  refine ⟨a, b, [i.1, i.2], [j.1, j.2], h1, h2, sqT h3, sqT h4, ?_⟩
  rw [lexLt_pair h5]
  exact q
def sp_rises13 (_ : PySem.W.Frag) : Sp := fun vs H Q _ => ∃ (p : Addr) (xs : List V), vs = [.ref p] ∧ (H p = some (.lst xs) ∨ H p = some (.tup xs)) ∧ xs.length ≤ 100000 ∧ (∀ (i : Nat) (x y : V), xs[i]? = some x → xs[i + 1]? = some y → LtP H x y) ∧ ∀ H', Same H H' → Q (.bl true) H'
def sp_are_versions13 (_ : PySem.W.Frag) : Sp := fun vs H Q _ => ∃ (a : Addr) (ns : List Int), vs = [.ref a] ∧ H a = some (.tup (ns.map V.int)) ∧ ns.length ≤ 400 ∧ ns.Pairwise (· < ·) ∧ (∀ n ∈ ns, 0 ≤ n) ∧ ∀ H', Same H H' → Q (.bl true) H'
def sp_is_link13 (_ : PySem.W.Frag) : Sp := fun vs H Q _ => ∃ (a k : Addr) (l : Int × Int) (is : List Int), vs = [.ref a, .ref k] ∧ H a = some (.tup [.int l.1, .int l.2]) ∧ H k = some (.dK (nmD is)) ∧ l.1 ∈ is ∧ l.2 ∈ is ∧ l.2 < l.1 ∧ ∀ H', Same H H' → Q (.bl true) H'
def sp_are_links13 (_ : PySem.W.Frag) : Sp := fun vs H Q _ => ∃ (l a : Addr) (as : List Addr) (ls : List (Int × Int)) (ns : List Int), vs = [.ref l, .ref a] ∧ H l = some (.tup (as.map V.ref)) ∧ PsA H as ls ∧ H a = some (.tup (ns.map V.int)) ∧ ns.length ≤ 400 ∧ ls.length ≤ 2000 ∧ (∀ x ∈ ls, x.1 ∈ ns ∧ x.2 ∈ ns ∧ x.2 < x.1) ∧ ls.Pairwise ltP ∧ ∀ H', Same H H' → Q (.bl true) H'
def sp_check13 (_ : PySem.W.Frag) : Sp := fun vs H Q _ => ∃ (q : Addr) (ns : List Int) (ls : List (Int × Int)), vs = [.ref q] ∧ ShA H q ns ls ∧ ns.length ≤ 400 ∧ ns.Pairwise (· < ·) ∧ (∀ n ∈ ns, 0 ≤ n) ∧ ls.length ≤ 2000 ∧ (∀ x ∈ ls, x.1 ∈ ns ∧ x.2 ∈ ns ∧ x.2 < x.1) ∧ ls.Pairwise ltP ∧ ∀ H', Same H H' → Q (.bl true) H'
section
variable [HasW]
def sp_Holding_held_parents (K : PySem.W.Frag) : Sp := fun vs H Q _ => ∃ (h : HlA) (b : BkA) (cs : List Ct) (as : List Addr) (ns : List Int) (i : Nat) (ps : List Int) (r s : Int), vs = [.ref h.A, .int (i : Int)] ∧ HlAt K H h b.B ns ∧ BkAt K H b cs as ∧ cs[i]? = some (.ver ps r s) ∧
  ∀ (L : Addr) (H' : Hp), Same H H' → H L = none → H' L = some (.lst ((ps.filter fun p => decide (p ∈ ns)).map V.int)) → Q (.ref L) H'
def sp_shape (K : PySem.W.Frag) : Sp := fun vs H Q _ => ∃ (h : HlA) (b : BkA) (cs : List Ct) (as : List Addr) (ns es : List Int) (e : Addr), vs = [.ref h.A, .ref e] ∧ HlAt K H h b.B ns ∧ BkAt K H b cs as ∧ NmOk cs ns ∧ H e = some (.tup (es.map V.int)) ∧ es.length ≤ 1000 ∧
  ∀ (q : Addr) (H' : Hp), Same H H' → ShA H' q (ns.filter (isV cs)) (lks cs ns es (ns.filter (isV cs))) → Q (.ref q) H'
end
section
variable [HasW] {K : PySem.W.Frag} {vs : List V} {H : Hp} {Q : VK} {E : XK}
theorem len_rises13 (h : sp_rises13 K vs H Q E) : vs.length = 1 := by obtain ⟨_, _, rfl, _⟩ := h; rfl
theorem len_are_versions13 (h : sp_are_versions13 K vs H Q E) : vs.length = 1 := by obtain ⟨_, _, rfl, _⟩ := h; rfl
theorem len_is_link13 (h : sp_is_link13 K vs H Q E) : vs.length = 2 := by obtain ⟨_, _, _, _, rfl, _⟩ := h; rfl
theorem len_are_links13 (h : sp_are_links13 K vs H Q E) : vs.length = 2 := by obtain ⟨_, _, _, _, _, rfl, _⟩ := h; rfl
theorem len_check13 (h : sp_check13 K vs H Q E) : vs.length = 1 := by obtain ⟨_, _, _, rfl, _⟩ := h; rfl
theorem len_Holding_held_parents (h : sp_Holding_held_parents K vs H Q E) : vs.length = 2 := by obtain ⟨_, _, _, _, _, _, _, _, _, rfl, _⟩ := h; rfl
theorem len_shape (h : sp_shape K vs H Q E) : vs.length = 2 := by obtain ⟨_, _, _, _, _, _, _, rfl, _⟩ := h; rfl
end
section
variable [HasW]
abbrev N_rises13 : List Str := ["things", "low", "high"]
def t_rises13 (K : PySem.W.Frag) : TS := (tRet (tCB (rAll K) (tCons (tLc (iZipA K (tCons (tVar 0) (tCons (tSl (rSlE K) (tVar 0) (tPart (tC (.int 1))) tNoPart) tNil))) (gTup K 2 (gCons (gName 1) (gCons (gName 2) gNil))) tYes (tOp (rLtT K) (tVar 1) (tVar 2)) [1, 2]) tNil)))
abbrev N_are_versions13 : List Str := ["thing", "version"]
def t_are_versions13 (K : PySem.W.Frag) : TS := (tRet (tAndV (tCall (sp_is_rising K) [] E0 (tCons (tVar 0) tNil)) (tAndV (tOp rLeI (tCB (fLen K) (tCons (tVar 0) tNil)) (tC (.int 400))) (tCB (rAll K) (tCons (tLc (iTup K (tVar 0)) (gName 1) tYes (tOp rGeI (tVar 1) (tC (.int 0))) [1]) tNil)))))
abbrev N_is_link13 : List Str := ["thing", "known"]
def t_is_link13 (K : PySem.W.Frag) : TS := (tSeq (tIfS (tOr (tNot (tB (tCall (sp_is_pairT K) [] E0 (tCons (tVar 0) tNil)))) (tOr (tNot (tB (tCall (sp_is_intI K) [] E0 (tCons (tOp (rIx K) (tVar 0) (tC (.int 0))) tNil)))) (tNot (tB (tCall (sp_is_intI K) [] E0 (tCons (tOp (rIx K) (tVar 0) (tC (.int 1))) tNil)))))) (tRet (tC (.bl false))) tNext)
    (tRet (tAndV (tDIn (tOp (rIx K) (tVar 0) (tC (.int 0))) (tVar 1)) (tAndV (tDIn (tOp (rIx K) (tVar 0) (tC (.int 1))) (tVar 1)) (tOp rLtI (tOp (rIx K) (tVar 0) (tC (.int 1))) (tOp (rIx K) (tVar 0) (tC (.int 0))))))))
abbrev N_are_links13 : List Str := ["thing", "versions", "known", "version", "link"]
def t_are_links13 (K : PySem.W.Frag) : TS := (tSeq (tIfS (tOr (tNot (tB (tCB (rIsi K) (tCons (tVar 0) (tCons (tC (.ty "tuple")) tNil))))) (tTest (tOp rGtI (tCB (fLen K) (tCons (tVar 0) tNil)) (tC (.int 2000))))) (tRet (tC (.bl false))) tNext)
    (tSeq (tAsg (tDc (iOr (iList K (tVar 1)) (iTup K (tVar 1))) (gName 3) tYes (tVar 3) (tC (.bl true)) [3]) (gName 2))
    (tRet (tAndV (tCB (rAll K) (tCons (tLc (iTup K (tVar 0)) (gName 4) tYes (tCall (sp_is_link13 K) [] E0 (tCons (tVar 4) (tCons (tVar 2) tNil))) [4]) tNil)) (tCall (sp_rises13 K) [] E0 (tCons (tVar 0) tNil))))))
abbrev N_check13 : List Str := ["thing"]
def t_check13 (K : PySem.W.Frag) : TS := (tSeq (tIfS (tOr (tNot (tB (tCall (sp_is_pairT K) [] E0 (tCons (tVar 0) tNil)))) (tOr (tNot (tB (tCall (sp_are_versions13 K) [] E0 (tCons (tOp (rIx K) (tVar 0) (tC (.int 0))) tNil)))) (tNot (tB (tCall (sp_are_links13 K) [] E0 (tCons (tOp (rIx K) (tVar 0) (tC (.int 1))) (tCons (tOp (rIx K) (tVar 0) (tC (.int 0))) tNil))))))) tNever tNext)
    (tRet (tC (.bl true))))
abbrev N_Holding_held_parents : List Str := ["self", "version", "parent"]
def t_Holding_held_parents (K : PySem.W.Frag) : TS := (tRet (tLc (iTup K (tMeth (He.ga K "Book") "parents" (sp_Book_parents K) [] E0 (tFld K (tVar 0) "book") (tCons (tVar 1) tNil))) (gName 2) (tB (tDIn (tVar 2) (tFld K (tVar 0) "inside"))) (tVar 2) [2]))
abbrev N_shape : List Str := ["view", "edges", "told", "edge", "versions", "links", "version", "parent"]
def t_shape (K : PySem.W.Frag) : TS := (tSeq (tAsg (tDc (iOr (iList K (tVar 1)) (iTup K (tVar 1))) (gName 3) tYes (tVar 3) (tC (.bl true)) [3]) (gName 2))
    (tSeq (tAsg (tMeth (He.ga K "Holding") "versions" (sp_Holding_versions K) [] E0 (tVar 0) tNil) (gName 4))
    (tSeq (tAsg (tLc2 (iList K (tVar 4)) (gName 6) (tB (tDNotIn (tVar 6) (tVar 2))) (iList K (tMeth (He.ga K "Holding") "held_parents" (sp_Holding_held_parents K) [] E0 (tVar 0) (tCons (tVar 6) tNil))) (gName 7) tYes (tTup (tCons (tVar 6) (tCons (tVar 7) tNil))) [6, 7] [7]) (gName 5))
    (tRet (tTup (tCons (tCB (fTupleOf K) (tCons (tVar 4) tNil)) (tCons (tCB (fTupleOf K) (tCons (tVar 5) tNil)) tNil)))))))
end
section
variable [HasW] {K : PySem.W.Frag} {vs : List V} {H : Hp} {Q : VK} {E : XK}
theorem pure_rises13 (h : sp_rises13 K vs H Q E) : t_rises13 K { nx := fun _ H' => Q .non H', rt := Q } (start N_rises13 vs) H := by
  obtain ⟨p, xs, rfl, hp, hz, hc, k⟩ := h
  have fin : ∀ {H1 H2 : Hp} {D : Addr}, Same H H1 → Same H1 H2 → H2 D = some (.lst (List.replicate (xs.length - 1) (.bl true))) → rAll K [V.ref D] H2 Q := fun {H1 H2 D} s1 s2 hD => by
    refine ⟨D, List.replicate (xs.length - 1) true, rfl, sqL (by rw [hD, List.map_replicate]), ?_⟩
    rw [all_rep]
    exact k _ (s1.trans s2)
  have step : ∀ {H1 H2 : Hp} {D T : Addr} {i : Nat} {x y : V} {Qn : Hp → Prop}, Same H H1 → xs[i]? = some x → (xs.drop 1)[i]? = some y → Same H1 H2 ∧ H2 D = some (.lst (List.replicate i (.bl true))) → H1 D = none → H2 T = none → (∀ H', Same H1 H' → H' D = some (.lst (List.replicate (i + 1) (.bl true))) → Qn H') →
      gTup K 2 (gCons (gName 1) (gCons (gName 2) gNil)) (.ref T) (wipe (start N_rises13 [V.ref p]) [1, 2]) (upd H2 T (.tup [x, y])) fun σ2 H2 => wipe σ2 [1, 2] = wipe (start N_rises13 [V.ref p]) [1, 2] ∧ tYes σ2 H2 fun b H3 =>
        if b = true then tOp (rLtT K) (tVar 1) (tVar 2) σ2 H3 fun y H4 => ∃ acc, H4 D = some (.lst acc) ∧ acc.length < sizeLine ∧ Qn (upd H4 D (.lst (acc ++ [y]))) else Qn H3 := by
    intro H1 H2 D T i x y Qn s0 hx hy s2 nD nT q
    rw [List.getElem?_drop, Nat.add_comm] at hy
    have hi := (List.getElem?_eq_some_iff.mp hy).1
    have nTD : D ≠ T := ne_of_none s2.2 nT
    have sT : Same H1 (upd H2 T (.tup [x, y])) := fun b o e => updN (ne_of_none (s2.1 _ _ e) nT) (s2.1 _ _ e)
    refine ⟨T, [x, y], rfl, sqT updS, rfl, x, [y], rfl, y, [], rfl, rfl, rfl, ?_⟩
    refine ⟨_, rfl, _, rfl, ((hc i x y hx hy).same (s0.trans sT)).run ⟨_, updN nTD s2.2, ?_, q _ (fun b o e => updN (ne_of_none e nD) (sT _ _ e)) ?_⟩⟩
    · refine Nat.lt_of_le_of_lt (?_ : _ ≤ 100000) (by decide)
      rw [List.length_replicate]
      omega
    · rw [updS, List.replicate_succ']
  rcases hp with hp | hp
  · refine ⟨_, rfl, _, rfl, _, rfl, .inr ⟨p, _, rfl, sqL hp, fun q nq => ?_⟩⟩
    rw [drop1]
    have s1 : Same H (upd H q (.lst (xs.drop 1))) := samN nq
    refine ⟨p, q, xs, _, rfl, .inl ⟨sqL (s1 _ _ hp), sqL updS, fun D nD => ?_⟩⟩
    have hq1 : upd H q (.lst (xs.drop 1)) q = some (.lst (xs.drop 1)) := updS
    have hp1 := s1 _ _ hp
    generalize upd H q (.lst (xs.drop 1)) = H1 at s1 hq1 hp1 nD ⊢
    exact lcz_lst (K := K) (a := p) (b := q) (xs := xs) (ys := xs.drop 1) (xs.length - 1) (by rw [List.length_drop]; omega) (fun i H2 => Same H1 H2 ∧ H2 D = some (.lst (List.replicate i (.bl true)))) ⟨samN nD, updS⟩ (fun i H2 s2 => ⟨sqL (s2.1 _ _ hp1), sqL (s2.1 _ _ hq1)⟩) (fun i x y T H2 hx hy s2 nT => step s1 hx hy s2 nD nT fun H' a b => ⟨a, b⟩) (fun H2 s2 => fin s1 s2.1 s2.2)
  · have main : ∀ (q : Addr) (H1 : Hp), Same H H1 → H1 q = some (.tup (xs.drop 1)) → ∀ D, H1 D = none → ∃ W : Nat → Nat → Hp → Prop, (∃ m, W 0 m (upd H1 D (.lst []))) ∧ ∀ i m H, W i m H →
        ((ItzT K p q).stop i H ∧ tNil (start N_rises13 [V.ref p]) H fun ys H2 => rAll K (.ref D :: ys) H2 Q) ∨ ((ItzT K p q).go i H ∧ ∃ Nx : Hp → Prop, (∀ H', Nx H' → ∃ m', m' < m ∧ W (i + 1) m' H') ∧ ∀ x H', (ItzT K p q).yld i H x H' → gTup K 2 (gCons (gName 1) (gCons (gName 2) gNil)) x (wipe (start N_rises13 [V.ref p]) [1, 2]) H' fun σ2 H2 => wipe σ2 [1, 2] = wipe (start N_rises13 [V.ref p]) [1, 2] ∧ tYes σ2 H2 fun b H3 =>
          if b = true then tOp (rLtT K) (tVar 1) (tVar 2) σ2 H3 fun y H4 => ∃ acc, H4 D = some (.lst acc) ∧ acc.length < sizeLine ∧ Nx (upd H4 D (.lst (acc ++ [y]))) else Nx H3) := by
      intro q H1 sm hq D nD
      exact lcz_tup (K := K) (a := p) (b := q) (xs := xs) (ys := xs.drop 1) (xs.length - 1) (by rw [List.length_drop]; omega) (fun i H2 => Same H1 H2 ∧ H2 D = some (.lst (List.replicate i (.bl true)))) ⟨samN nD, updS⟩ (fun i H2 s2 => ⟨sqT (s2.1 _ _ (sm _ _ hp)), sqT (s2.1 _ _ hq)⟩) (fun i x y T H2 hx hy s2 nT => step sm hx hy s2 nD nT fun H' a b => ⟨a, b⟩) (fun H2 s2 => fin sm s2.1 s2.2)
    refine ⟨_, rfl, _, rfl, _, rfl, .inl ⟨p, xs, rfl, sqT hp, fun e => ?_, fun e q nq => ?_⟩⟩
    · have e0 : xs.drop 1 = xs := by
        have e1 := e.1
        rw [show HT.sIx xs.length 0 (some 1) = min 1 xs.length from HT.sIx_nat xs.length 0 1] at e1
        have : xs.length = 0 := by omega
        rw [List.eq_nil_of_length_eq_zero this]
        rfl
      exact ⟨p, p, xs, xs, rfl, .inr ⟨sqT hp, sqT hp, main p H (Same.refl H) (by rw [e0]; exact hp)⟩⟩
    · have s1 : Same H (upd H q (.tup (cutV xs (some 1) none))) := fun b o e => updN (ne_of_none e nq) e
      refine ⟨p, q, xs, _, rfl, .inr ⟨sqT (s1 _ _ hp), sqT updS, main q _ s1 ?_⟩⟩
      rw [updS, drop1]
theorem pure_are_versions13 (h : sp_are_versions13 K vs H Q E) : t_are_versions13 K { nx := fun _ H' => Q .non H', rt := Q } (start N_are_versions13 vs) H := by
  obtain ⟨a, ns, rfl, ha, few, inc, pos, k⟩ := h
  refine ⟨_, rfl, a, ns, rfl, ha, by omega, inc, fun H1 s1 => ⟨_, rfl, iteT ⟨_, rfl, lenT (s1 _ _ ha) ⟨_, _, rfl, rfl, _, rfl, ?_⟩⟩⟩⟩
  rw [List.length_map, decide_eq_true (show ((ns.length : Nat) : Int) ≤ 400 by omega)]
  refine iteT ⟨_, rfl, a, rfl, ⟨_, sqT (s1 _ _ ha)⟩, fun L nL => ?_⟩
  refine lc_grow (walk_tup (xs := ns.map V.int)) yAt (ys := List.replicate ns.length (.bl true)) nL (by rw [List.length_replicate, List.length_map]) (by rw [List.length_map]; omega) (fun H' s => sqT (s _ _ (s1 _ _ ha))) ?_ ?_
  · rintro i x y H' R hi ⟨_, hx⟩ hy s q
    rw [List.getElem?_map] at hx
    cases e : ns[i]? with
    | none => rw [e] at hx; cases hx
    | some n =>
      rw [e] at hx
      cases Option.some.inj hx
      rw [List.getElem?_replicate, if_pos (List.getElem?_eq_some_iff.mp e).1] at hy
      cases Option.some.inj hy
      refine ⟨rfl, _, rfl, _, _, rfl, rfl, ?_⟩
      show R (.bl (decide ((0 : Int) ≤ n))) H'
      rw [decide_eq_true (show (0 : Int) ≤ n from pos n (List.mem_of_getElem? e))]
      exact q _ (Same.refl _)
  · intro H' s hL
    refine ⟨L, List.replicate ns.length true, rfl, sqL (by rw [hL, List.map_replicate]), ?_⟩
    rw [all_rep]
    exact k _ (s1.trans s)
theorem pure_is_link13 (h : sp_is_link13 K vs H Q E) : t_is_link13 K { nx := fun _ H' => Q .non H', rt := Q } (start N_is_link13 vs) H := by
  obtain ⟨a, kk, l, is, rfl, ha, hk, h1, h2, h3, k⟩ := h
  refine ⟨_, rfl, a, _, _, rfl, ha, _, rfl, iteF ?_⟩
  refine ⟨_, rfl, ixT ha rfl ⟨_, rfl, _, rfl, iteF ⟨_, rfl, ixT ha rfl ⟨_, rfl, _, rfl, iteF ?_⟩⟩⟩⟩
  refine ⟨_, rfl, ixT ha rfl ⟨_, rfl, kk, _, rfl, DGet.k (k := Sum.inl l.1) hk, ?_⟩⟩
  rw [nmD_some, decide_eq_true h1]
  refine ⟨_, rfl, iteT ⟨_, rfl, ixT ha rfl ⟨_, rfl, kk, _, rfl, DGet.k (k := Sum.inl l.2) hk, ?_⟩⟩⟩
  rw [nmD_some, decide_eq_true h2]
  refine ⟨_, rfl, iteT ⟨_, rfl, ixT ha rfl ⟨_, rfl, ixT ha rfl ⟨_, _, rfl, rfl, ?_⟩⟩⟩⟩
  show Q (.bl (decide (l.2 < l.1))) H
  rw [decide_eq_true h3]
  exact k _ (Same.refl _)
theorem pure_are_links13 (h : sp_are_links13 K vs H Q E) : t_are_links13 K { nx := fun _ H' => Q .non H', rt := Q } (start N_are_links13 vs) H := by
  obtain ⟨l, a, as, ls, ns, rfl, hl, ps, ha, few, few2, ok, pw, k⟩ := h
  have al : as.length = ls.length := ps.1
  refine ⟨_, rfl, isi (.base (.tup hl)) k_tt ⟨_, rfl, iteF ⟨_, rfl, lenT hl ⟨_, _, rfl, rfl, _, rfl, ?_⟩⟩⟩⟩
  rw [List.length_map, decide_eq_false (show ¬ (2000 : Int) < ((as.length : Nat) : Int) by omega)]
  refine iteF ?_
  dsimp only [tNext, tSeq, tAsg]
  refine tDc_setA (i := 1) rfl (by show 3 < 5; decide) (.inr ha) (by omega) fun F nF => ?_
  have sF : Same H (upd H F (.dK (nmD (once ns)))) := samN nF
  have hF : upd H F (.dK (nmD (once ns))) F = some (.dK (nmD (once ns))) := updS
  show tRet _ _ [some (.ref l), some (.ref a), some (.ref F), none, none] (upd H F (.dK (nmD (once ns))))
  generalize upd H F (.dK (nmD (once ns))) = H1 at sF hF ⊢
  have hl1 := sF _ _ hl
  have ps1 := ps.mono (TM.of sF)
  refine ⟨_, rfl, l, rfl, ⟨_, sqT hl1⟩, fun L nL => ?_⟩
  refine lc_grow (walk_tup (xs := as.map V.ref)) yAt (ys := List.replicate as.length (.bl true)) nL (by rw [List.length_replicate, List.length_map]) (by rw [List.length_map]; omega) (fun H' s => sqT (s _ _ hl1)) ?_ ?_
  · rintro i x y H' R hi ⟨_, hx⟩ hy s q
    rw [List.getElem?_map] at hx
    cases e : as[i]? with
    | none => rw [e] at hx; cases hx
    | some b =>
      rw [e] at hx
      cases Option.some.inj hx
      have hi2 := (List.getElem?_eq_some_iff.mp e).1
      rw [List.getElem?_replicate, if_pos hi2] at hy
      cases Option.some.inj hy
      have el := List.getElem?_eq_getElem (show i < ls.length by omega)
      have okx := ok _ (List.getElem_mem (show i < ls.length by omega))
      have mo := (once_ok ns).2
      exact ⟨rfl, _, rfl, _, rfl, b, F, ls[i], once ns, rfl, s _ _ (ps1.2 i b _ e el), s _ _ hF, (mo _).mpr okx.1, (mo _).mpr okx.2.1, okx.2.2, fun H'' s2 => q _ s2⟩
  · intro H2 s2 hL
    refine ⟨L, List.replicate as.length true, rfl, sqL (by rw [hL, List.map_replicate]), ?_⟩
    rw [all_rep]
    have s12 := s2
    refine ⟨_, rfl, iteT ⟨_, rfl, l, _, rfl, .inr (s2 _ _ hl1), by rw [List.length_map]; omega, fun i x y hx hy => ?_, fun H3 s3 => k _ (sF.trans (s2.trans s3))⟩⟩
    rw [List.getElem?_map] at hx hy
    cases e1 : as[i]? with
    | none => rw [e1] at hx; cases hx
    | some b1 =>
      cases e2 : as[i + 1]? with
      | none => rw [e2] at hy; cases hy
      | some b2 =>
        rw [e1] at hx
        rw [e2] at hy
        cases Option.some.inj hx
        cases Option.some.inj hy
        have i2 := (List.getElem?_eq_some_iff.mp e2).1
        have el1 := List.getElem?_eq_getElem (show i < ls.length by omega)
        have el2 := List.getElem?_eq_getElem (show i + 1 < ls.length by omega)
        exact ⟨b1, b2, _, _, rfl, rfl, s2 _ _ (ps1.2 _ _ _ e1 el1), s2 _ _ (ps1.2 _ _ _ e2 el2), List.pairwise_iff_getElem.mp pw i (i + 1) (by omega) (by omega) (by omega)⟩
theorem pure_check13 (h : sp_check13 K vs H Q E) : t_check13 K { nx := fun _ H' => Q .non H', rt := Q } (start N_check13 vs) H := by
  obtain ⟨q, ns, ls, rfl, ⟨a, l, as, hq, ha, hl, ps⟩, few, inc, pos, few2, ok, pw, k⟩ := h
  refine ⟨_, rfl, q, _, _, rfl, hq, _, rfl, iteF ?_⟩
  refine ⟨_, rfl, ixT hq rfl ⟨a, ns, rfl, ha, few, inc, pos, fun H1 s1 => ⟨_, rfl, iteF ?_⟩⟩⟩
  refine ⟨_, rfl, ixT (s1 _ _ hq) rfl ⟨_, rfl, ixT (s1 _ _ hq) rfl ⟨l, a, as, ls, ns, rfl, s1 _ _ hl, ps.mono (TM.of s1), s1 _ _ ha, few, few2, ok, pw, fun H2 s2 => ⟨_, rfl, iteF ?_⟩⟩⟩⟩
  exact k _ (s1.trans s2)
theorem pure_Holding_held_parents (h : sp_Holding_held_parents K vs H Q E) : t_Holding_held_parents K { nx := fun _ H' => Q .non H', rt := Q } (start N_Holding_held_parents vs) H := by
  obtain ⟨h, b, cs, as, ns, i, ps, r, s, rfl, hl, bk, hi, k⟩ := h
  have fo := (bk.ok _ (List.mem_of_getElem? hi)).1
  have z4 : ps.length ≤ 4 := fo.1
  obtain ⟨is, hI, mem⟩ := hl.hI
  dsimp only [t_Holding_held_parents, tRet, tLc, iTup, tMeth]
  refine hl.fB rfl ?_
  refine bk.meF (m := "parents") (by decide) ?_
  refine ⟨_, rfl, b, cs, as, i, ps, r, s, rfl, bk, hi, fun p hp => ?_⟩
  refine ⟨p, rfl, ⟨_, sqT hp⟩, fun L nL => ?_⟩
  refine lc_filt (walk_tup (xs := ps.map V.int)) (fun i H x H' hy => hy) (p := fun p => decide (p ∈ ns)) (by show 2 < 3; decide) nL (by rw [List.length_map]) (by rw [List.length_map]; omega) (fun H' s => sqT (s _ _ hp)) ?_ ?_
  · intro v H' R hv s r
    refine ⟨_, rfl, ?_⟩
    show tFld K (tVar 0) "inside" _ _ _
    refine (hl.same s).fI rfl ⟨h.I, _, rfl, DGet.k (k := Sum.inl v) (s _ _ hI), ?_⟩
    rw [nmD_some, decide_eq_decide.mpr (mem v)]
    exact ⟨_, rfl, r _ (Same.refl _)⟩
  · intro H' s hL
    exact k L H' s nL hL
theorem lks_snoc (cs : List Ct) (ns es vs : List Int) (v : Int) : lks cs ns es (vs ++ [v]) = lks cs ns es vs ++ (if v ∈ es then [] else ((parsOf cs v).filter (fun p => decide (p ∈ ns))).map fun p => (v, p)) := by
  unfold lks
  rw [List.flatMap_append]
  simp
theorem pure_shape (h : sp_shape K vs H Q E) : t_shape K { nx := fun _ H' => Q .non H', rt := Q } (start N_shape vs) H := by
  obtain ⟨h, b, cs, as, ns, es, e, rfl, hl, bk, nm, he, few, k⟩ := h
  dsimp only [t_shape, tSeq, tAsg]
  refine tDc_setA (i := 1) rfl (by show 3 < 8; decide) (.inr he) few fun F nF => ?_
  have sF : Same H (upd H F (.dK (nmD (once es)))) := samN nF
  have hF : upd H F (.dK (nmD (once es))) F = some (.dK (nmD (once es))) := updS
  dsimp only [gName]
  show tMeth _ _ _ _ _ _ _ [some (.ref h.A), some (.ref e), some (.ref F), none, none, none, none, none] (upd H F (.dK (nmD (once es)))) _
  generalize upd H F (.dK (nmD (once es))) = H1 at sF hF ⊢
  have hl1 := hl.same sF
  have bk1 := bk.same sF
  refine hl1.me rfl rfl ⟨h, b, cs, as, ns, rfl, hl1, bk1, nm, fun L H2 s2 nL hL => ?_⟩
  have hl2 := hl1.same s2
  have bk2 := bk1.same s2
  have hF2 := s2 _ _ hF
  have fewn := hl.few
  generalize ev : ns.filter (isV cs) = wv at hL k
  have lv : wv.length ≤ 400 := by rw [← ev]; exact Nat.le_trans (List.length_filter_le _ _) fewn
  refine ⟨_, rfl, L, rfl, ⟨_, sqL hL⟩, fun D nD => ?_⟩
  have keep : ∀ {H' : Hp} {o : HO}, Same H2 H' → Same H2 (upd H' D o) := fun s b o e => updN (ne_of_none e nD) (s b o e)
  have l0 : (wv.map V.int).length = wv.length := List.length_map ..
  refine walk_W (walk_list (K := K) (a := L) (xs := wv.map V.int)) (fun i H => Same H2 H ∧ ∃ las : List Addr, H D = some (.lst (las.map V.ref)) ∧ PsA H las (lks cs ns es (wv.take i)) ∧ las.length ≤ 4 * i) ⟨samN nD, [], updS, PsA.nil, Nat.zero_le _⟩ (fun i H _ p => sqL (p.1 _ _ hL)) ?_ ?_
  · rintro i x H3 H4 hi ⟨s3, las, hD, pl, ll⟩ ⟨rfl, hx⟩
    rw [l0] at hi
    have hv : wv[i]? = some wv[i] := List.getElem?_eq_getElem hi
    rw [List.getElem?_map, hv] at hx
    cases Option.some.inj hx
    have eT : wv.take (i + 1) = wv.take i ++ [wv[i]] := by rw [List.take_succ, hv]; rfl
    generalize wv[i] = v at hv eT
    have hvm : v ∈ ns.filter (isV cs) := by rw [ev]; exact List.mem_of_getElem? hv
    obtain ⟨hv1, hv2⟩ := List.mem_filter.mp hvm
    obtain ⟨idx, c, rfl, hc⟩ := nm.get hv1
    obtain ⟨ps, r, st, rfl⟩ := isV_ver hc hv2
    have hpar := parsOf_at hc
    have fo := (bk.ok _ (List.mem_of_getElem? hc)).1
    have z4 : ps.length ≤ 4 := fo.1
    refine ⟨rfl, _, rfl, _, rfl, F, _, rfl, DGet.k (k := Sum.inl (idx : Int)) (s3 _ _ hF2), _, rfl, ?_⟩
    rw [nmD_some]
    by_cases he1 : (idx : Int) ∈ es
    · rw [decide_eq_true ((once_ok es).2 _ |>.mpr he1)]
      refine iteF ⟨s3, las, hD, ?_, by omega⟩
      rw [eT, lks_snoc, if_pos he1, List.append_nil]
      exact pl
    · rw [decide_eq_false (fun z => he1 ((once_ok es).2 _ |>.mp z))]
      refine iteT ?_
      have hl3 := hl2.same s3
      have bk3 := bk2.same s3
      refine hl3.me rfl rfl ⟨_, rfl, h, b, cs, as, ns, idx, ps, r, st, rfl, hl3, bk3, hc, fun M H5 s5 nM hM => ?_⟩
      have nDM : D ≠ M := ne_of_none hD nM
      generalize eq : (ps.filter fun p => decide (p ∈ ns)) = qs at hM
      have lq : qs.length ≤ 4 := by rw [← eq]; exact Nat.le_trans (List.length_filter_le _ _) z4
      refine ⟨M, rfl, ⟨_, sqL hM⟩, ?_⟩
      have l1 : (qs.map V.int).length = qs.length := List.length_map ..
      refine walk_W (walk_list (K := K) (a := M) (xs := qs.map V.int)) (fun j H => Same H2 H ∧ H M = some (.lst (qs.map V.int)) ∧ ∃ las : List Addr, H D = some (.lst (las.map V.ref)) ∧ PsA H las (lks cs ns es (wv.take i) ++ (qs.take j).map fun p => ((idx : Int), p)) ∧ las.length ≤ 4 * i + j) ⟨s3.trans s5, hM, las, s5 _ _ hD, by rw [List.take_zero, List.map_nil, List.append_nil]; exact pl.mono (TM.of s5), by omega⟩ (fun j H _ p => sqL p.2.1) ?_ ?_
      · rintro j x H6 H7 hj ⟨s6, hM6, las6, hD6, pl6, ll6⟩ ⟨rfl, hx⟩
        rw [l1] at hj
        have hp : qs[j]? = some qs[j] := List.getElem?_eq_getElem hj
        rw [List.getElem?_map, hp] at hx
        cases Option.some.inj hx
        have eQ : qs.take (j + 1) = qs.take j ++ [qs[j]] := by rw [List.take_succ, hp]; rfl
        refine ⟨rfl, ?_⟩
        dsimp only [tYes]
        rw [if_pos rfl]
        refine ⟨_, rfl, _, rfl, by show (2 : Nat) ≤ sizeLine; decide, fun T nT => ?_⟩
        have sT : Same H7 (upd H7 T (.tup [.int (idx : Int), .int qs[j]])) := samN nT
        have nDT : D ≠ T := ne_of_none hD6 nT
        have nMD : M ≠ D := nDM.symm
        have e3 : (las6.map V.ref ++ [V.ref T]) = (las6 ++ [T]).map V.ref := by rw [List.map_append]; rfl
        refine ⟨las6.map V.ref, sT _ _ hD6, by rw [List.length_map]; exact Nat.lt_of_lt_of_le (show _ < 2000 by omega) (by decide), keep (s6.trans sT), updN nMD (sT _ _ hM6), las6 ++ [T], by rw [updS, e3], ?_, by rw [List.length_append, List.length_singleton]; omega⟩
        have tmD : TM (upd H7 T (.tup [.int (idx : Int), .int qs[j]])) (upd (upd H7 T (.tup [.int (idx : Int), .int qs[j]])) D (.lst (las6.map V.ref ++ [V.ref T]))) := fun a xs e => updN (ne_of e (sT _ _ hD6) fun z => by cases z) e
        rw [eQ, List.map_append, ← List.append_assoc]
        exact ((pl6.mono (TM.of sT)).mono tmD).snoc (l := ((idx : Int), qs[j])) (updN nDT.symm updS)
      · rintro H6 ⟨s6, hM6, las6, hD6, pl6, ll6⟩
        rw [l1] at pl6 ll6
        refine ⟨s6, las6, hD6, ?_, by omega⟩
        rw [eT, lks_snoc, if_neg he1, hpar, eq]
        rw [List.take_length] at pl6
        exact pl6
  · rintro H3 ⟨s3, las, hD, pl, ll⟩
    rw [l0] at pl ll
    rw [List.take_length] at pl
    refine ⟨_, rfl, L, _, rfl, .inl ⟨sqL (s3 _ _ hL), fun a na => ?_⟩⟩
    have sa : Same H3 (upd H3 a (.tup (wv.map V.int))) := samN na
    refine ⟨_, rfl, D, _, rfl, .inl ⟨sqL (sa _ _ hD), fun l nl => ?_⟩⟩
    have sl : Same (upd H3 a (.tup (wv.map V.int))) (upd (upd H3 a (.tup (wv.map V.int))) l (.tup (las.map V.ref))) := samN nl
    refine ⟨by show (2 : Nat) ≤ sizeLine; decide, fun q nq => ?_⟩
    have sq : Same (upd (upd H3 a (.tup (wv.map V.int))) l (.tup (las.map V.ref))) (upd (upd (upd H3 a (.tup (wv.map V.int))) l (.tup (las.map V.ref))) q (.tup [.ref a, .ref l])) := samN nq
    have s13 := sa.trans (sl.trans sq)
    exact k q _ (sF.trans (s2.trans (s3.trans s13))) ⟨a, l, las, updS, sq _ _ (sl _ _ updS), sq _ _ updS, pl.mono (TM.of s13)⟩
end
end Fw

set_option Elab.async false
set_option linter.all false
set_option maxRecDepth 100000
set_option maxHeartbeats 4000000
/-! sorted(set(t)), t a tuple of ints: rules. -/
namespace Fw
open PySem PySem.Spec PyProof.Rows L2
/-- set(t) of ints -/
def rSetIT (K : PySem.W.Frag) (w : World) : List V → Hp → VK → Prop := fun vs H Q => ∃ (a : Addr) (ns : List Int), vs = [.ref a] ∧ SqT K H a (ns.map V.int) ∧ ns.length < 64 ∧ ∀ (p : Addr) (S : Int → Bool) (n : Nat), H p = none → (∀ k, S k = true ↔ k ∈ ns) → n ≤ ns.length → Q (.ref p) (upd H p (SetO w p S n))
theorem cr_setIT {X : Cx} (hc : X.calm = true) : CallR X (.type "set") (rSetIT X.K X.w) := by
  intro pins s σ H vs us Q I r h
  obtain ⟨a, ns, rfl, hs, few, q⟩ := h
  obtain ⟨its, rv, hl, hz⟩ := I.tuple hs
  rw [Vals.ref1 r]
  have hi := rv.ints
  refine call_set_tupI ns (I.ok.hd hc) hl (show PyProof.Rows.IntsAre its.toArray.toList ns from hi) (Nat.lt_of_lt_of_le (show ns.length + 1 < 65 by omega) (by decide)) fun h' tk m R g k => ?_
  exact ⟨.ref s.heap.objs.size, upd H s.heap.objs.size (SetO X.w s.heap.objs.size _ m), I.laid (t' := tk) k (Nat.le_refl _) (setO_new R), rfl, q _ _ _ (I.hok.fresh (Nat.le_refl _)) (fun k => decide_eq_true_iff) g⟩
def tSortSetT (K : PySem.W.Frag) (te : TE) : TE := fun σ H Q => te σ H fun x H1 => ∃ (a : Addr) (ns : List Int), x = .ref a ∧ SqT K H1 a (ns.map V.int) ∧ ns.length < 64 ∧
  ∀ (ys : List Int) (q p : Addr) (u : HO), H1 q = none → upd H1 q u p = none → ys.Pairwise (· < ·) → (∀ k, k ∈ ys ↔ k ∈ ns) → ys.length ≤ ns.length → Q (.ref p) (upd (upd H1 q u) p (.lst (ys.map V.int)))
theorem pe_sortSetT {X : Cx} {e : Expr} {te : TE} {p pos p2 pos2 : Pos} (hc : X.calm = true) (hg : Gl X "sorted") (hm : X.mg "sorted" = none) (hg2 : Gl X "set") (hm2 : X.mg "set" = none) (he : PE X e te)
    (hs : starEach [.Call (.Name "set" p2) [e] [] pos2] X.env = (false, eval (.Call (.Name "set" p2) [e] [] pos2) X.env) :: starEach [] X.env := by rfl)
    (hs2 : starEach [e] X.env = (false, eval e X.env) :: starEach [] X.env := by rfl) : PE X (.Call (.Name "sorted" p) [.Call (.Name "set" p2) [e] [] pos2] [] pos) (tSortSetT X.K te) := by
  have inner : PE X (.Call (.Name "set" p2) [e] [] pos2) (tCB (rSetIT X.K X.w) (tCons (tClo te) tNil)) := pe_callTy (cr_setIT hc) hg2 hm2 (by decide +kernel) (pa_cons (pe_clo he) pa_nil hs2) (he := hs2)
  have outer := pe_callB (p := p) (pos := pos) (cr_sortedSet hc) hg hm (by decide +kernel) (pa_cons inner pa_nil hs) (he := hs)
  refine ⟨fun pins s σ H Q I h => outer.run pins s σ H Q I ⟨_, h, ?_⟩⟩
  rintro x H1 ⟨a, ns, rfl, hs, few, k⟩
  refine ⟨a, ns, rfl, hs, few, fun q S n hq mem hn => ⟨q, S, n, rfl, updS, by omega, fun ys p inc m2 len hp => ?_⟩⟩
  exact k ys q p _ hq hp inc (fun j => (m2 j).trans (mem j)) (by omega)
end Fw

set_option Elab.async false
set_option linter.all false
set_option maxRecDepth 100000
set_option maxHeartbeats 4000000
/-! What lies at some versions and before them, in a view: spread. -/
namespace Fw
open PySem L2 RZ RT
theorem Same.updA {H H' : Hp} {q : Addr} {o : HO} (s : Same H H') (n : H q = none) : Same H (L2.upd H' q o) := fun b u e => updN (ne_of_none e n) (s b u e)
def ovA : Option Int → V
  | none => .non
  | some u => .int u
/-- the dict of the versions come to, each with the one it was come to from -/
def AbvD (ks : List Int) (f : Int → Option Int) : List (Key × V) := ks.map fun x => ((Sum.inl x : Key), ovA (f x))
theorem AbvD_val (f : Int → Option Int) : ∀ (ks : List Int) (n : Int), valV (AbvD ks f) (.inl n) = if n ∈ ks then some (ovA (f n)) else none
  | [], n => by rw [if_neg (by simp)]; rfl
  | m :: ks, n => by
    by_cases h : m = n
    · rw [show AbvD (m :: ks) f = ((Sum.inl m : Key), ovA (f m)) :: AbvD ks f from rfl, valV_pos (by rw [h]), if_pos (by rw [h]; exact List.mem_cons_self), h]
    · have := AbvD_val f ks n
      have e : valV (AbvD (m :: ks) f) (.inl n) = valV (AbvD ks f) (.inl n) := by
        show ((((Sum.inl m : Key), ovA (f m)) :: AbvD ks f).find? fun kv => decide (kv.1 = Sum.inl n)).map (·.2) = _
        rw [List.find?_cons_of_neg (by simp; exact fun e => h e)]
        rfl
      rw [e, this]
      by_cases h2 : n ∈ ks
      · rw [if_pos h2, if_pos (List.mem_cons_of_mem _ h2)]
      · rw [if_neg h2, if_neg fun z => (List.mem_cons.mp z).elim (fun q => h q.symm) h2]
theorem AbvD_some (f : Int → Option Int) (ks : List Int) (n : Int) : (valV (AbvD ks f) (.inl n)).isSome = decide (n ∈ ks) := by
  rw [AbvD_val]
  by_cases h : n ∈ ks
  · rw [if_pos h, decide_eq_true h]; rfl
  · rw [if_neg h, decide_eq_false h]; rfl
theorem AbvD_put {ks : List Int} {n : Int} (f : Int → Option Int) (o : Option Int) (h : n ∉ ks) : putK (AbvD ks f) (.inl n) (ovA o) = AbvD (ks ++ [n]) (fun x => if x = n then o else f x) := by
  unfold putK
  rw [if_neg]
  · unfold AbvD
    rw [List.map_append, List.map_singleton]
    show _ = _ ++ [((Sum.inl n : Key), ovA (if n = n then o else f n))]
    rw [if_pos rfl]
    congr 1
    refine List.map_congr_left fun x hx => ?_
    show _ = ((Sum.inl x : Key), ovA (if x = n then o else f x))
    rw [if_neg fun e : x = n => h (by rw [← e]; exact hx)]
  · intro z
    obtain ⟨p, hp, e⟩ := List.any_eq_true.mp z
    obtain ⟨m, hm, rfl⟩ := List.mem_map.mp hp
    have e : (Sum.inl m : Key) = Sum.inl n := of_decide_eq_true e
    cases e
    exact h hm
theorem AbvD_none {ks : List Int} {n : Int} (h : n ∉ ks) : putK (AbvD ks fun _ => none) (.inl n) .non = AbvD (ks ++ [n]) fun _ => none := by
  have := AbvD_put (fun _ => none) none h
  rw [show ovA none = V.non from rfl] at this
  rw [this]
  congr 1
  funext x
  split <;> rfl
theorem AbvD_len (ks : List Int) (f : Int → Option Int) : (AbvD ks f).length = ks.length := List.length_map ..
theorem AbvD_keys (ks : List Int) (f : Int → Option Int) : (AbvD ks f).map (·.1) = ks.map Sum.inl := by
  unfold AbvD
  rw [List.map_map]
  rfl
/-- the parents that the view holds -/
def parA (cs : List Ct) (ns : List Int) (v : Int) : List Int := (parsOf cs v).filter fun p => decide (p ∈ ns)
/-- come to in so many steps -/
def RchN (cs : List Ct) (ns : List Int) (S : Int → Prop) : Nat → Int → Prop
  | 0, x => S x
  | k + 1, x => RchN cs ns S k x ∨ ∃ u, RchN cs ns S k u ∧ x ∈ parA cs ns u
theorem RchN.le0 {cs : List Ct} {ns : List Int} {S : Int → Prop} {x : Int} (h : S x) : ∀ {k : Nat}, RchN cs ns S k x
  | 0 => h
  | k + 1 => .inl (RchN.le0 h)
/-- u stands ahead of x -/
def Bef (l : List Int) (u x : Int) : Prop := ∃ a b, l = a ++ x :: b ∧ u ∈ a
theorem Bef.app {l m : List Int} {u x : Int} (h : Bef l u x) : Bef (l ++ m) u x := by
  obtain ⟨a, b, rfl, hu⟩ := h
  exact ⟨a, b ++ m, by simp, hu⟩
theorem Bef.snoc {l : List Int} {u x : Int} (h : u ∈ l) : Bef (l ++ [x]) u x := ⟨l, [], rfl, h⟩
theorem Bef.mem {l : List Int} {u x : Int} (h : Bef l u x) : x ∈ l ∧ u ∈ l := by
  obtain ⟨a, b, rfl, hu⟩ := h
  exact ⟨by simp, List.mem_append_left _ hu⟩
structure SprI (cs : List Ct) (ns : List Int) (S : Int → Prop) (k : Nat) (ks ws : List Int) (f : Int → Option Int) : Prop where
  nd : ks.Nodup
  mem : ∀ x, x ∈ ks ↔ RchN cs ns S k x
  src : ∀ x ∈ ks, (f x = none ↔ S x)
  up : ∀ x u, f x = some u → x ∈ parA cs ns u ∧ Bef ks u x
  wk : ∀ x ∈ ws, x ∈ ks
  cl : ∀ x ∈ ks, x ∉ ws → ∀ p ∈ parA cs ns x, p ∈ ks
structure SprM (cs : List Ct) (ns : List Int) (S : Int → Prop) (ks cm : List Int) (f : Int → Option Int) : Prop where
  nd : (ks ++ cm).Nodup
  src : ∀ x ∈ ks ++ cm, (f x = none ↔ S x)
  up : ∀ x u, f x = some u → x ∈ parA cs ns u ∧ Bef (ks ++ cm) u x
  cmu : ∀ x ∈ cm, ∃ u ∈ ks, x ∈ parA cs ns u
structure SprOk (cs : List Ct) (ns : List Int) (S : Int → Prop) (k : Nat) (ks : List Int) (f : Int → Option Int) : Prop where
  nd : ks.Nodup
  mem : ∀ x, x ∈ ks ↔ RchN cs ns S k x
  src : ∀ x ∈ ks, (f x = none ↔ S x)
  up : ∀ x u, f x = some u → x ∈ parA cs ns u ∧ Bef ks u x
section
variable {cs : List Ct} {ns : List Int} {S : Int → Prop} {k : Nat} {ks ws cm : List Int} {f : Int → Option Int}
theorem lt_nodupA {ns : List Int} (h : ns.Pairwise (· < ·)) : ns.Nodup := h.imp fun {a b} h e => by omega
theorem len_subA {fs vs : List Int} (nd : fs.Nodup) (h : ∀ x ∈ fs, x ∈ vs) : fs.length ≤ vs.length := sub_len nd h
theorem SprI.src0 {w0 : List Int} (h : SprI cs ns S k ks ws f) (_ : ∀ x, S x → x ∈ w0) : ∀ x, S x → x ∈ ks := fun x hx => (h.mem x).mpr (RchN.le0 hx)
theorem SprI.start (h : SprI cs ns S k ks ws f) : SprM cs ns S ks [] f := by
  refine ⟨?_, ?_, ?_, fun _ z => nomatch z⟩ <;> rw [List.append_nil]
  · exact h.nd
  · exact h.src
  · exact h.up
theorem SprM.add (h : SprM cs ns S ks cm f) (hS : ∀ x, S x → x ∈ ks) {v p : Int} (hv : v ∈ ks) (hp : p ∈ parA cs ns v) (hn : p ∉ ks ++ cm) : SprM cs ns S ks (cm ++ [p]) (fun x => if x = p then some v else f x) := by
  have e0 : ks ++ (cm ++ [p]) = ks ++ cm ++ [p] := (List.append_assoc ..).symm
  refine ⟨?_, fun x hx => ?_, fun x u e => ?_, fun x hx => ?_⟩
  · rw [e0, List.nodup_append]
    exact ⟨h.nd, by simp, fun y hy z hz e => hn (by rw [List.mem_singleton.mp hz] at e; rw [← e]; exact hy)⟩
  · rw [e0] at hx
    by_cases q : x = p
    · rw [if_pos q]
      exact ⟨(fun z => nomatch z), fun z => absurd (List.mem_append_left cm (hS x z)) (by rw [q]; exact hn)⟩
    · rw [if_neg q]
      refine h.src x ((List.mem_append.mp hx).elim id fun z => absurd (List.mem_singleton.mp z) q)
  · rw [e0]
    by_cases q : x = p
    · rw [if_pos q] at e
      cases Option.some.inj e
      rw [q]
      exact ⟨hp, Bef.snoc (List.mem_append_left _ hv)⟩
    · rw [if_neg q] at e
      exact ⟨(h.up x u e).1, (h.up x u e).2.app⟩
  · rcases List.mem_append.mp hx with hx | hx
    · exact h.cmu x hx
    · rw [List.mem_singleton.mp hx]
      exact ⟨v, hv, hp⟩
theorem SprI.next {f' : Int → Option Int} (h : SprI cs ns S k ks ws f) (m : SprM cs ns S ks cm f') (dn : ∀ u ∈ ws, ∀ p ∈ parA cs ns u, p ∈ ks ++ cm) : SprI cs ns S (k + 1) (ks ++ cm) cm f' := by
  refine ⟨m.nd, fun x => ⟨fun hx => ?_, fun hx => ?_⟩, m.src, m.up, fun x hx => List.mem_append_right _ hx, fun x hx hn p hp => ?_⟩
  · rcases List.mem_append.mp hx with hx | hx
    · exact .inl ((h.mem x).mp hx)
    · obtain ⟨u, hu, hp⟩ := m.cmu x hx
      exact .inr ⟨u, (h.mem u).mp hu, hp⟩
  · rcases hx with hx | ⟨u, hu, hp⟩
    · exact List.mem_append_left _ ((h.mem x).mpr hx)
    · have hu := (h.mem u).mpr hu
      by_cases q : u ∈ ws
      · exact dn u q x hp
      · exact List.mem_append_left _ (h.cl u hu q x hp)
  · have hx : x ∈ ks := (List.mem_append.mp hx).elim id fun z => absurd z hn
    by_cases q : x ∈ ws
    · exact dn x q p hp
    · exact List.mem_append_left _ (h.cl x hx q p hp)
theorem RchN.le {j : Nat} {x : Int} : ∀ {k : Nat}, j ≤ k → RchN cs ns S j x → RchN cs ns S k x
  | 0, h, r => by rw [Nat.le_zero.mp h] at r; exact r
  | k + 1, h, r => by
    by_cases q : j = k + 1
    · rw [q] at r; exact r
    · exact .inl (RchN.le (by omega) r)
theorem RchN.out (h : ∀ x, RchN cs ns S k x → ∀ p ∈ parA cs ns x, RchN cs ns S k p) {x : Int} : ∀ {j : Nat}, RchN cs ns S j x → RchN cs ns S k x
  | 0, r => RchN.le (Nat.zero_le _) r
  | j + 1, r => by
    rcases r with r | ⟨u, r, hp⟩
    · exact RchN.out h r
    · exact h u (RchN.out h r) x hp
theorem SprI.done (h : SprI cs ns S k ks ws f) {n : Nat} (hk : k ≤ n) (e : ws = [] ∨ k = n) : SprOk cs ns S n ks f := by
  refine ⟨h.nd, fun x => (h.mem x).trans ⟨RchN.le hk, fun r => ?_⟩, h.src, h.up⟩
  rcases e with rfl | rfl
  · exact RchN.out (fun y hy p hp => (h.mem p).mp (h.cl y ((h.mem y).mpr hy) (fun z => nomatch z) p hp)) r
  · exact r
theorem SprOk.sub (h : SprOk cs ns S k ks f) (hS : ∀ x, S x → x ∈ ns) : ∀ x ∈ ks, x ∈ ns := fun x hx => by
  have : ∀ k x, RchN cs ns S k x → x ∈ ns := by
    intro k
    induction k with
    | zero => exact fun x hx => hS x hx
    | succ k ih =>
      rintro x (r | ⟨u, _, hp⟩)
      · exact ih x r
      · exact of_decide_eq_true (List.mem_filter.mp hp).2
  exact this k x ((h.mem x).mp hx)
end
theorem dc_walk {J : It} {n : Nat} {G : Hp → Prop} {Y : Nat → Hp → V → Hp → Prop} (wk : Walk J n G Y) {H1 : Hp} {D : Addr} {Qd : Hp → Prop} {B : (Hp → Prop) → V → Hp → Prop} (Pv : Nat → Hp → Prop) (h0 : Pv 0 (upd H1 D (.dK []))) (hG : ∀ i H, i ≤ n → Pv i H → G H)
    (hs : ∀ i x H H', i < n → Pv i H → Y i H x H' → B (Pv (i + 1)) x H') (hd : ∀ H, Pv n H → Qd H) :
    ∃ W : Nat → Nat → Hp → Prop, (∃ m, W 0 m (upd H1 D (.dK []))) ∧ ∀ i m H, W i m H → (J.stop i H ∧ Qd H) ∨ (J.go i H ∧ ∃ Nx : Hp → Prop, (∀ H', Nx H' → ∃ m', m' < m ∧ W (i + 1) m' H') ∧ ∀ x H', J.yld i H x H' → B Nx x H') := walk_W wk Pv h0 hG hs hd
section
variable [HasW]
def sp_spread (K : PySem.W.Frag) : Sp := fun vs H Q _ => ∃ (h : HlA) (b : BkA) (cs : List Ct) (as : List Addr) (ns : List Int) (sT : Addr) (starts : List Int) (deep : Nat), vs = [.ref h.A, .ref sT, .int (deep : Int)] ∧ HlAt K H h b.B ns ∧ BkAt K H b cs as ∧ NmOk cs ns ∧ H sT = some (.tup (starts.map V.int)) ∧ starts.length < 64 ∧ (∀ x ∈ starts, x ∈ ns → isV cs x = true) ∧
  ∀ (D : Addr) (ks : List Int) (f : Int → Option Int) (H' : Hp), Same H H' → H D = none → H' D = some (.dK (AbvD ks f)) → SprOk cs ns (fun x => x ∈ starts ∧ x ∈ ns) deep ks f → Q (.ref D) H'
end
section
variable [HasW] {K : PySem.W.Frag} {vs : List V} {H : Hp} {Q : VK} {E : XK}
theorem len_spread (h : sp_spread K vs H Q E) : vs.length = 3 := by obtain ⟨_, _, _, _, _, _, _, _, rfl, _⟩ := h; rfl
end
section
variable [HasW]
abbrev N_spread : List Str := ["view", "starts", "deep", "waiting", "start", "above", "steps", "coming", "version", "parent"]
def t_spread_next (K : PySem.W.Frag) : TS := (tDrop (tBM K "list" rAppend (tVar 7) (tCons (tVar 9) tNil)))
def t_spread_row (K : PySem.W.Frag) : TS := (tSeq (tAsg (tLst tNil) (gName 7))
    (tSeq (tFor (iList K (tVar 3)) (gName 8) (tFor (iList K (tMeth (He.ga K "Holding") "held_parents" (sp_Holding_held_parents K) [] E0 (tVar 0) (tCons (tVar 8) tNil))) (gName 9) (tIfS (tB (tDNotIn (tVar 9) (tVar 5))) (tSeq (sDPut (tVar 5) (tVar 9) (tVar 8))
    (t_spread_next K)) tNext)))
    (tSeq (tAsg (tVar 7) (gName 3))
    (tAug 6 (tC (.int 1)) (ipI fun i j => i + j)))))
def t_spread_turn (K : PySem.W.Frag) : TS := (tSeq (tWhile (tAnd (tTru K (tVar 3)) (tTest (tOp rLtI (tVar 6) (tVar 2)))) (t_spread_row K))
    (tRet (tVar 5)))
def t_spread_steps (K : PySem.W.Frag) : TS := (tSeq (tAsg (tDc (iList K (tVar 3)) (gName 4) tYes (tVar 4) (tC .non) [4]) (gName 5))
    (tSeq (tAsg (tC (.int 0)) (gName 6))
    (t_spread_turn K)))
def t_spread_above (K : PySem.W.Frag) : TS := (tSeq (tAsg (tLc (iList K (tSortSetT K (tVar 1))) (gName 4) (tB (tMeth (He.ga K "Holding") "holds" (sp_Holding_holds K) [] E0 (tVar 0) (tCons (tVar 4) tNil))) (tVar 4) [4]) (gName 3))
    (t_spread_steps K))
def t_spread (K : PySem.W.Frag) : TS := (t_spread_above K)
end
section
variable [HasW] {K : PySem.W.Frag} {vs : List V} {H : Hp} {Q : VK} {E : XK}
/-- the versions that a view holds are versions, their parents too -/
theorem ver_of {b : BkA} {cs : List Ct} {as : List Addr} {ns : List Int} (bk : BkAt K H b cs as) (nm : NmOk cs ns) {x : Int} (hx : x ∈ ns) (hv : isV cs x = true) : ∃ (i : Nat) (ps : List Int) (r s : Int), x = (i : Int) ∧ cs[i]? = some (.ver ps r s) ∧ ps.length ≤ 4 ∧ ∀ p ∈ ps, isV cs p = true := by
  obtain ⟨i, c, rfl, hc⟩ := nm.get hx
  obtain ⟨ps, r, s, rfl⟩ := isV_ver hc hv
  have fo := bk.ok _ (List.mem_of_getElem? hc)
  refine ⟨i, ps, r, s, rfl, hc, fo.1.1, fun p hp => ?_⟩
  have ib := fo.2
  unfold Ct.inB at ib
  rw [Bool.and_eq_true] at ib
  have := List.all_eq_true.mp ib.1 p hp
  unfold hasK at this
  rw [Bool.and_eq_true, Bool.and_eq_true, List.contains_iff_mem, List.mem_singleton] at this
  exact decide_eq_true this.2.2
theorem pure_spread (h : sp_spread K vs H Q E) : t_spread K { nx := fun _ H' => Q .non H', rt := Q } (start N_spread vs) H := by
  obtain ⟨h, b, cs, as, ns, sT, starts, deep, rfl, hl, bk, nm, hT, few, hv, k⟩ := h
  have fewn := hl.few
  refine ⟨_, rfl, sT, starts, rfl, sqT hT, few, fun ys q p u nq np inc mem len => ⟨p, rfl, ⟨_, sqL updS⟩, fun L nL => ?_⟩⟩
  have s1 : Same H (upd (upd H q u) p (.lst (ys.map V.int))) := (samN nq).trans (samN np)
  have hp : upd (upd H q u) p (.lst (ys.map V.int)) p = some (.lst (ys.map V.int)) := updS
  generalize upd (upd H q u) p (.lst (ys.map V.int)) = H1 at s1 hp nL ⊢
  refine lc_filt (walk_list (xs := ys.map V.int)) (fun i H x H' hy => hy) (p := fun x => decide (x ∈ ns)) (by show 4 < 10; decide) nL (by rw [List.length_map]) (by rw [List.length_map]; omega) (fun H' s => sqL (s _ _ hp)) ?_ ?_
  · intro v H' R _ s r
    exact (hl.same (s1.trans s)).me rfl rfl ⟨_, rfl, h, b.B, ns, _, rfl, hl.same (s1.trans s), .inl ⟨v, rfl, _, rfl, r _ (Same.refl _)⟩⟩
  intro H2 s2 hL
  have nL0 : H L = none := by
    cases z : H L with
    | none => rfl
    | some o => rw [s1 _ _ z] at nL; cases nL
  have nd0 : (ys.filter fun x => decide (x ∈ ns)).Nodup := (lt_nodupA inc).filter _
  have mem0 : ∀ x, x ∈ (ys.filter fun x => decide (x ∈ ns)) ↔ (x ∈ starts ∧ x ∈ ns) := fun x => by
    rw [List.mem_filter, mem x, decide_eq_true_eq]
  have len0 : (ys.filter fun x => decide (x ∈ ns)).length ≤ 64 := Nat.le_trans (List.length_filter_le _ _) (by omega)
  generalize (ys.filter fun x => decide (x ∈ ns)) = w0 at hL nd0 mem0 len0
  have s12 := s1.trans s2
  refine ⟨_, rfl, L, rfl, ⟨_, sqL hL⟩, fun D nD => ?_⟩
  have nD0 : H D = none := by
    cases z : H D with
    | none => rfl
    | some o => rw [s12 _ _ z] at nD; cases nD
  have nLD : L ≠ D := ne_of_none hL nD
  have l0 : (w0.map V.int).length = w0.length := List.length_map ..
  refine walk_W (walk_list (K := K) (a := L) (xs := w0.map V.int)) (fun i H' => H' = upd H2 D (.dK (AbvD (w0.take i) fun _ => none))) rfl (fun i H' _ e => by rw [e]; exact sqL (updN nLD hL)) ?_ ?_
  · rintro i x H' H'' hi rfl ⟨rfl, hx⟩
    rw [l0] at hi
    have hv : w0[i]? = some w0[i] := List.getElem?_eq_getElem hi
    rw [List.getElem?_map, hv] at hx
    cases Option.some.inj hx
    have eT : w0.take (i + 1) = w0.take i ++ [w0[i]] := by rw [List.take_succ, hv]; rfl
    refine ⟨rfl, ?_⟩
    dsimp only [tYes]
    rw [if_pos rfl]
    refine ⟨_, rfl, AbvD (w0.take i) fun _ => none, Sum.inl w0[i], rfl, updS, ?_, ?_⟩
    · rw [AbvD_len, List.length_take]
      exact Nat.lt_of_le_of_lt (show _ ≤ 1000 by omega) (by decide)
    · rw [upd_upd, AbvD_none, ← eT]
      have nd1 := nd0.sublist (List.take_sublist (i + 1) w0)
      rw [eT, List.nodup_append] at nd1
      exact fun z => nd1.2.2 _ z _ (List.mem_singleton.mpr rfl) rfl
  rintro H3 e3
  rw [l0, List.take_length] at e3
  have hD3 : H3 D = some (.dK (AbvD w0 fun _ => none)) := by rw [e3]; exact updS
  have hL3 : H3 L = some (.lst (w0.map V.int)) := by rw [e3]; exact updN nLD hL
  have s3 : Same H H3 := by rw [e3]; exact Same.updA s12 nD0
  clear e3
  have S0 : ∀ x, (x ∈ starts ∧ x ∈ ns) → x ∈ w0 := fun x hx => (mem0 x).mpr hx
  refine while_by (fun σ H' => ∃ (kk : Nat) (W : Addr) (ks ws : List Int) (f : Int → Option Int) (z4 z7 z8 z9 : Option V), σ = [some (.ref h.A), some (.ref sT), some (.int (deep : Int)), some (.ref W), z4, some (.ref D), some (.int (kk : Int)), z7, z8, z9] ∧ Same H H' ∧ H W = none ∧ W ≠ D ∧ H' W = some (.lst (ws.map V.int)) ∧ H' D = some (.dK (AbvD ks f)) ∧ SprI cs ns (fun x => x ∈ starts ∧ x ∈ ns) kk ks ws f ∧ kk ≤ deep)
    (fun σ _ => match σ[6]? with | some (some (V.int i)) => deep - i.toNat | _ => 0)
    ⟨0, L, w0, w0, fun _ => none, _, _, _, _, rfl, s3, nL0, nLD, hL3, hD3, ⟨nd0, fun x => mem0 x, fun x hx => ⟨fun _ => (mem0 x).mp hx, fun _ => rfl⟩, (fun x u z => nomatch z), fun x hx => hx, fun x hx hn => absurd hx hn⟩, Nat.zero_le _⟩ ?_ ?_
  · rintro σ H4 ⟨kk, W, ks, ws, f, z4, z7, z8, z9, rfl, s4, nW, nWD, hW, hD, I, hk⟩
    have sub : ∀ x ∈ ks, x ∈ ns := fun x hx => (SprI.done (ws := ws) I (Nat.le_refl _) (.inr rfl)).sub (fun x hx => hx.2) x hx
    have verk : ∀ j x, RchN cs ns (fun x => x ∈ starts ∧ x ∈ ns) j x → isV cs x = true := by
      intro j
      induction j with
      | zero => exact fun x hx => hv x hx.1 hx.2
      | succ j ih =>
        rintro x (r | ⟨u, r, hp⟩)
        · exact ih x r
        · have hp0 := hp
          unfold parA at hp0
          have hm := List.mem_filter.mp hp0
          by_cases hu : u ∈ ns
          · obtain ⟨i, ps, r', s', rfl, hc, _, hps⟩ := ver_of bk nm hu (ih u r)
            rw [parsOf_at hc] at hm
            exact hps x hm.1
          · have : ∀ j x, RchN cs ns (fun x => x ∈ starts ∧ x ∈ ns) j x → x ∈ ns := by
              intro j
              induction j with
              | zero => exact fun x hx => hx.2
              | succ j ih2 =>
                rintro x (r | ⟨u, _, hp⟩)
                · exact ih2 x r
                · exact of_decide_eq_true (List.mem_filter.mp hp).2
            exact absurd (this j u r) hu
    have lks : ks.length ≤ 400 := Nat.le_trans (len_subA I.nd sub) fewn
    refine ⟨_, rfl, !ws.isEmpty, .inl ⟨_, sqL hW, by cases ws <;> rfl⟩, ?_⟩
    cases ws with
    | nil =>
      refine ⟨_, rfl, ?_⟩
      exact k D ks f H4 s4 nD0 hD (SprI.done I hk (.inl rfl))
    | cons v0 vr =>
      rw [if_pos (show (!(v0 :: vr).isEmpty) = true from rfl)]
      generalize hws : v0 :: vr = ws at hW I
      refine ⟨_, rfl, _, rfl, _, _, rfl, rfl, _, rfl, ?_⟩
      refine ite2 (fun lt => ?_) (fun nlt => ?_)
      · have lt : kk < deep := by have := of_decide_eq_true lt; omega
        refine ⟨by show (0 : Nat) ≤ sizeLine; decide, fun C nC => ?_⟩
        have nC0 : H C = none := by
          cases z : H C with
          | none => rfl
          | some o => rw [s4 _ _ z] at nC; cases nC
        have nWC : W ≠ C := ne_of_none hW nC
        have nDC : D ≠ C := ne_of_none hD nC
        refine ⟨_, rfl, W, rfl, ⟨_, sqL (updN nWC hW)⟩, ?_⟩
        refine for_list (K := K) (a := W) (xs := ws.map V.int) (fun i σ H' => ∃ (cm : List Int) (f' : Int → Option Int) (y8 y9 : Option V), σ = [some (.ref h.A), some (.ref sT), some (.int (deep : Int)), some (.ref W), z4, some (.ref D), some (.int (kk : Int)), some (.ref C), y8, y9] ∧ Same H H' ∧ H' W = some (.lst (ws.map V.int)) ∧ H' D = some (.dK (AbvD (ks ++ cm) f')) ∧ H' C = some (.lst (cm.map V.int)) ∧ SprM cs ns (fun x => x ∈ starts ∧ x ∈ ns) ks cm f' ∧ ∀ u ∈ ws.take i, ∀ p ∈ parA cs ns u, p ∈ ks ++ cm) ?_ ?_ ?_ ?_
        · refine ⟨[], f, _, _, rfl, Same.updA s4 nC0, updN nWC hW, by rw [List.append_nil]; exact updN nDC hD, updS, I.start, ?_⟩
          rw [List.take_zero]
          exact fun u z => nomatch z
        · rintro i σ H' _ ⟨cm, f', y8, y9, rfl, _, hW', _⟩
          exact sqL hW'
        · rintro i x σ H5 hx ⟨cm, f', y8, y9, rfl, s5, hW5, hD5, hC5, M, dn⟩
          rw [List.getElem?_map] at hx
          cases ex : ws[i]? with
          | none => rw [ex] at hx; cases hx
          | some v =>
          rw [ex] at hx
          cases Option.some.inj hx
          have eT : ws.take (i + 1) = ws.take i ++ [v] := by rw [List.take_succ, ex]; rfl
          have hvk : v ∈ ks := I.wk v (List.mem_of_getElem? ex)
          have hvn := sub v hvk
          have hvv := verk kk v ((I.mem v).mp hvk)
          obtain ⟨j, ps, r, st, rfl, hc, lp, _⟩ := ver_of bk nm hvn hvv
          have epar : parA cs ns (j : Int) = ps.filter fun p => decide (p ∈ ns) := by unfold parA; rw [parsOf_at hc]
          have hl5 := hl.same s5
          refine hl5.me rfl rfl ⟨_, rfl, h, b, cs, as, ns, j, ps, r, st, rfl, hl5, bk.same s5, hc, fun Mp H6 s6 nM hM => ?_⟩
          rw [← epar] at hM
          have nMW : W ≠ Mp := ne_of_none hW5 nM
          have nMD : D ≠ Mp := ne_of_none hD5 nM
          have nMC : C ≠ Mp := ne_of_none hC5 nM
          refine ⟨Mp, rfl, ⟨_, sqL hM⟩, ?_⟩
          refine for_list (K := K) (a := Mp) (xs := (parA cs ns (j : Int)).map V.int) (fun l σ H' => ∃ (cm : List Int) (f' : Int → Option Int) (y9 : Option V), σ = [some (.ref h.A), some (.ref sT), some (.int (deep : Int)), some (.ref W), z4, some (.ref D), some (.int (kk : Int)), some (.ref C), some (.int (j : Int)), y9] ∧ Same H H' ∧ H' W = some (.lst (ws.map V.int)) ∧ H' Mp = some (.lst ((parA cs ns (j : Int)).map V.int)) ∧ H' D = some (.dK (AbvD (ks ++ cm) f')) ∧ H' C = some (.lst (cm.map V.int)) ∧ SprM cs ns (fun x => x ∈ starts ∧ x ∈ ns) ks cm f' ∧ (∀ u ∈ ws.take i, ∀ p ∈ parA cs ns u, p ∈ ks ++ cm) ∧ ∀ p ∈ (parA cs ns (j : Int)).take l, p ∈ ks ++ cm) ?_ ?_ ?_ ?_
          · refine ⟨cm, f', _, rfl, s5.trans s6, s6 _ _ hW5, hM, s6 _ _ hD5, s6 _ _ hC5, M, dn, ?_⟩
            rw [List.take_zero]
            exact fun u z => nomatch z
          · rintro l σ H' _ ⟨cm, f', y9, rfl, _, _, hM', _⟩
            exact sqL hM'
          · rintro l x σ H7 hx ⟨cm, f', y9, rfl, s7, hW7, hM7, hD7, hC7, M, dn, dl⟩
            rw [List.getElem?_map] at hx
            cases ex : (parA cs ns (j : Int))[l]? with
            | none => rw [ex] at hx; cases hx
            | some p =>
            rw [ex] at hx
            cases Option.some.inj hx
            have eL : (parA cs ns (j : Int)).take (l + 1) = (parA cs ns (j : Int)).take l ++ [p] := by rw [List.take_succ, ex]; rfl
            have hpp : p ∈ parA cs ns (j : Int) := List.mem_of_getElem? ex
            have hpn : p ∈ ns := of_decide_eq_true (List.mem_filter.mp hpp).2
            have sub2 : ∀ y ∈ ks ++ cm, y ∈ ns := fun y hy => (List.mem_append.mp hy).elim (sub y) fun z => by
              obtain ⟨u, _, hu⟩ := M.cmu y z
              exact of_decide_eq_true (List.mem_filter.mp hu).2
            have lkc : (ks ++ cm).length ≤ 400 := Nat.le_trans (len_subA M.nd sub2) fewn
            refine ⟨_, rfl, _, rfl, D, _, rfl, DGet.k (k := Sum.inl p) hD7, _, rfl, ?_⟩
            rw [AbvD_some]
            refine ite2 (fun e => ?_) (fun e => ?_)
            · have hn : p ∉ ks ++ cm := fun z => by rw [decide_eq_true z] at e; cases e
              refine ⟨_, rfl, _, rfl, _, rfl, D, _, rfl, DPut.k (k := Sum.inl p) hD7 (by rw [AbvD_len]; exact Nat.lt_of_le_of_lt (show _ ≤ 1000 by omega) (by decide)), ?_⟩
              rw [show V.int (j : Int) = ovA (some (j : Int)) from rfl, AbvD_put f' (some (j : Int)) hn]
              have nCD2 : C ≠ D := nDC.symm
              refine ⟨_, rfl, .inl ⟨rfl, _, sqL (updN nCD2 hC7)⟩, _, rfl, C, _, _, rfl, rfl, updN nCD2 hC7, ?_, ?_⟩
              · rw [List.length_map]
                rw [List.length_append] at lkc
                exact Nat.lt_of_le_of_lt (show cm.length ≤ 1000 by omega) (by decide)
              · rw [show cm.map V.int ++ [V.int p] = (cm ++ [p]).map V.int by rw [List.map_append]; rfl]
                refine ⟨cm ++ [p], _, _, rfl, Same.updA (Same.updA s7 nD0) nC0, updN nWC (updN nWD hW7), updN nMC.symm (updN nMD.symm hM7), ?_, updS, M.add (fun x hx => I.src0 S0 x hx) hvk hpp hn, fun u hu q hq => ?_, fun q hq => ?_⟩
                · rw [← List.append_assoc]
                  exact updN nDC updS
                · rw [← List.append_assoc]
                  exact List.mem_append_left _ (dn u hu q hq)
                · rw [← List.append_assoc]
                  rw [eL] at hq
                  rcases List.mem_append.mp hq with hq | hq
                  · exact List.mem_append_left _ (dl q hq)
                  · rw [List.mem_singleton.mp hq]; simp
            · have hn : p ∈ ks ++ cm := Classical.byContradiction fun z => by rw [decide_eq_false z] at e; exact e rfl
              refine ⟨cm, f', _, rfl, s7, hW7, hM7, hD7, hC7, M, dn, fun q hq => ?_⟩
              rw [eL] at hq
              rcases List.mem_append.mp hq with hq | hq
              · exact dl q hq
              · rw [List.mem_singleton.mp hq]; exact hn
          · rintro σ H7 ⟨cm, f', y9, rfl, s7, hW7, hM7, hD7, hC7, M, dn, dl⟩
            rw [List.length_map, List.take_length] at dl
            refine ⟨cm, f', _, _, rfl, s7, hW7, hD7, hC7, M, fun u hu => ?_⟩
            rw [eT] at hu
            rcases List.mem_append.mp hu with hu | hu
            · exact dn u hu
            · rw [List.mem_singleton.mp hu]; exact dl
        · rintro σ H5 ⟨cm, f', y8, y9, rfl, s5, hW5, hD5, hC5, M, dn⟩
          rw [List.length_map, List.take_length] at dn
          refine ⟨_, rfl, _, rfl, _, _, rfl, rfl, ?_⟩
          refine ⟨⟨kk + 1, C, ks ++ cm, cm, f', _, _, _, _, rfl, s5, nC0, nDC.symm, hC5, hD5, I.next M dn, lt⟩, ?_⟩
          show deep - ((kk : Int) + 1).toNat < deep - ((kk : Int)).toNat
          omega
      · have e : kk = deep := by
          have : ¬ ((kk : Int) < (deep : Int)) := fun z => nlt (decide_eq_true z)
          omega
        exact ⟨_, rfl, k D ks f H4 s4 nD0 hD (SprI.done I hk (.inr e))⟩
  · intro σ H Q Q' f h
    obtain ⟨v, e, b1, t1, h⟩ := h
    refine ⟨v, e, b1, t1, ?_⟩
    cases b1 with
    | false => exact f _ _ h
    | true =>
      rw [if_pos rfl] at h ⊢
      obtain ⟨x1, q1, x2, q2, x3, x4, q3, q4, x5, q5, h⟩ := h
      exact ⟨x1, q1, x2, q2, x3, x4, q3, q4, x5, q5, f _ _ h⟩
end
end Fw

set_option Elab.async false
set_option linter.all false
set_option maxRecDepth 100000
set_option maxHeartbeats 4000000
namespace Fw
open PySem PySem.Spec PyProof.Rows L2
theorem str_eq_dict (b : Str) (u : Tok) (l : Addr) (c : Value) (es : Array DictEntry) (n : Nat) (dd : Option Addr) (sl : Array (Option Value)) :
    Meets (Builtin.«str.__eq__» ⟨[.str b u, .ref l], []⟩) (fun _ R s => s.heap.get? l = some { cls := c, dict := dd, data := .dict es n, slots := sl } ∧ R (.ok (.ret .notImplemented)) s) :=
  .of_wp fun prog w A R s h => by
    obtain ⟨hp, g, d, tk, os⟩ := s
    obtain ⟨hl, h⟩ := h
    wp_walk using AutoSeq1.wpAny_loadPart' hl, wpAny_load hl
    exact ⟨_, rfl, h⟩
section
variable {prog : Program} {w : World} {K : Type} [DecidableEq K] {knd : KeyKind prog w K} {A : Around} {E : Value → Shared → Prop} {s : Shared}
theorem rc_dict_str {a : Addr} {b : Str} {u : Tok} {ka : List (K × Value)} (da : s.heap.DictOf knd a ka) (hu : A.units < cLine) (Q : Value → Shared → Prop) (h : Q (.bool false) s) : wpAny (model prog w) A (richCompare .Eq (.ref a) (.str b u)) Q E s := by
  obtain ⟨⟨cls, dd, data, sl⟩, es, ep, ho, hx, hd, _⟩ := id da
  simp only at hd
  subst hd
  refine SeqAt.rc_eq_decline_or (k := false) da.typeIs (typeIs_str s b u) (by decide) PySem.F.sub_str_dict PySem.F.slot_dict_eq PySem.F.slot_str_eq_refl
    (fun Q' hq => ?_) (fun _ hq => call_meets PySem.F.slot_str_eq_refl (typeIs_str s b u) PySem.F.entry_str_eq (PySem.F.args_str_eq_2 _ _) (str_eq_dict b u a cls es ep dd sl) ⟨ho, hq⟩)
    (fun _ hq => wpAny_of_eq (rfl : isSame (.ref a) (.str b u) = pure false) hq) (.inr hu) h
  refine wpAny_call_entry PySem.F.slot_dict_eq da.typeIs PySem.F.entry_dict_eq ?_ (PySem.F.args_dict_eq_2 _ _)
  show wpAny _ _ (Builtin.Dict.dictSlotArgs "__eq__" ⟨[.ref a, .str b u], []⟩ >>= _) _ _ s
  refine wpAny_bind ?_
  unfold Builtin.Dict.dictSlotArgs
  refine wpAny_bind (wpAny_notOrdered_dict da.typeIs ?_)
  show wpAny _ _ (pure (Value.ref a, Value.str b u)) _ _ s
  refine wpAny_pure ?_
  refine wpAny_bind (wpAny_isInstance (T := "str") (typeIs_str s b u) PySem.F.sub_str_dict ?_)
  simp only [Bool.not_false, if_true]
  exact wpAny_bind (wpAny_rule (wpAny_pure ⟨_, rfl, hq⟩))
end
/-- x == a text, x any data -/
def rEqS (K : PySem.W.Frag) : R2 := fun x y H Q => ∃ z, y = .str z ∧ ((scal x y = true ∧ Q (.bl (decide (x = y))) H) ∨ ∃ a, x = .ref a ∧ ((∃ xs, SqT K H a xs) ∨ (∃ xs, SqL K H a xs) ∨ ∃ kvs, H a = some (.dK kvs)) ∧ Q (.bl false) H)
theorem op_eqS {X : Cx} (hu : X.A.units + 64 < cLine) : OpR X (compareOp .Eq) (rEqS X.K) := by
  intro pins s σ H x y v u Q I rx ry h
  obtain ⟨z, rfl, h⟩ := h
  rcases h with h | ⟨a, rfl, h, q⟩
  · exact op_eq pins s σ H _ _ v u Q I rx ry h
  · cases (show v = Value.ref a from rx)
    obtain ⟨t, rfl⟩ := ry
    have hu2 : X.A.units < cLine := by omega
    show wpAny _ _ (richCompare .Eq (.ref a) (.str z t)) _ _ s
    rcases h with ⟨xs, h⟩ | ⟨xs, h⟩ | ⟨kvs, h⟩
    · obtain ⟨its, rv, p, _⟩ := I.tuple h
      exact SeqAt.RcAt.tuple_str z t p hu2 _ _ _ _ ⟨.bl false, H, I, rfl, q⟩
    · obtain ⟨its, rv, p, _⟩ := I.list h
      exact SeqAt.RcAt.list_str z t p.isList hu2 _ _ _ _ ⟨.bl false, H, I, rfl, q⟩
    · obtain ⟨_, ya, va, ra, da⟩ := (show ObjOk X.prog X.w H s.heap a (.dK kvs) from I.hok a _ h)
      exact rc_dict_str da hu2 _ ⟨.bl false, H, I, rfl, q⟩
/-- a text times an int -/
def rRepS : R2 := fun x y H Q => ∃ (z : Str) (k : Nat), x = .str z ∧ y = .int (k : Int) ∧ 2 ≤ k ∧ k ≤ 1000 ∧ 1 ≤ z.length ∧ z.length ≤ 1000 ∧ (⟨(List.replicate k z.cps).foldl (· ++ ·) #[]⟩ : Str).length ≤ sizeLine ∧ Q (.str ⟨(List.replicate k z.cps).foldl (· ++ ·) #[]⟩) H
theorem op_repS {X : Cx} : OpR X (binaryOp .Mult) rRepS := by
  intro pins s σ H x y v u Q I rx ry h
  obtain ⟨z, k, rfl, rfl, k1, k2, z1, z2, z3, q⟩ := h
  obtain ⟨t, rfl⟩ := rx
  obtain ⟨t', rfl⟩ := ry
  have hm : z.length * k ≤ 1000 * 1000 := Nat.mul_le_mul z2 k2
  have e1 : ¬ ((k : Nat) : Int) < 1 := by omega
  have e2 : (((k : Nat) : Int) == 1 || z.length == 0) = false := by
    rw [Bool.or_eq_false_iff, beq_eq_false_iff_ne, beq_eq_false_iff_ne]
    omega
  refine PySem.P.mul_str ?_ (fun _ _ => ?_) (fun _ _ => ?_) ?_
  · rw [Bool.or_eq_false_iff, decide_eq_false_iff_not, decide_eq_false_iff_not]
    omega
  · have : (1000 : Int) ≤ (2 ^ 63 - 1) / (k : Int) := (Int.le_ediv_iff_mul_le (by omega)).mpr (by omega)
    omega
  · show decide (z.length * k > sizeLine) = false
    rw [decide_eq_false_iff_not, sizeLine_eq]
    omega
  · rw [if_neg e1, if_neg (by rw [e2]; exact Bool.false_ne_true)]
    exact ⟨z3, ⟨.str _, H, I.tok _, ⟨_, rfl⟩, q⟩⟩
end Fw

set_option Elab.async false
set_option linter.all false
set_option maxRecDepth 100000
set_option maxHeartbeats 4000000
/-! t * 1 of a tuple: the tuple itself. -/
namespace Fw
open PySem PySem.Spec PyProof.Rows L2
theorem tuple_mul1 (l : Addr) (items : Array Value) (n : Nat) (dd : Option Addr) (sl : Array (Option Value)) (u : Tok) :
    Meets (Builtin.«tuple.__mul__» ⟨[.ref l, .int 1 u], []⟩) (fun _ R s => s.heap.get? l = some { cls := .type "tuple", dict := dd, data := .seq items n, slots := sl } ∧ R (.ok (.ret (Value.ref l))) s) :=
  .of_wp fun prog w A R s h => by
    obtain ⟨hp, g, d, tk, os⟩ := s
    obtain ⟨hl, h⟩ := h
    have f1 := AutoSeq1.idx_int
    have c1 : (items.isEmpty || (1 : Int) == 1) = true := by cases items.isEmpty <;> rfl
    have c0 : (decide ((1 : Int) < -(2 ^ 63)) || decide ((1 : Int) ≥ 2 ^ 63)) = false := by decide
    wp_walk using wpAny_loadPart' hl
    repeat (first
      | (refine wpAny_ite_false (decide_eq_false (by rw [c0]; exact Bool.false_ne_true)) ?_; wp_walk using wpAny_loadPart' hl)
      | (refine wpAny_ite_true (decide_eq_true c1) ?_; wp_walk using wpAny_loadPart' hl))
    exact ⟨_, rfl, h⟩
def rRepT1 (K : PySem.W.Frag) : R2 := fun x y H Q => ∃ l k xs, x = .ref l ∧ y = .int k ∧ SqT K H l xs ∧ k = 1 ∧ Q (.ref l) H
theorem op_repT1 {X : Cx} : OpR X (binaryOp .Mult) (rRepT1 X.K) := by
  intro pins s σ H x y v u Q I rx ry h
  obtain ⟨l, k, xs, rfl, rfl, hT, rfl, q⟩ := h
  cases rx
  obtain ⟨t, rfl⟩ := ry
  obtain ⟨its, r, ⟨⟨cls, dd, data, sl⟩, ho, hc, n, hd⟩, hs⟩ := I.tuple hT
  simp only at hc hd
  subst hc hd
  refine wpAny_binaryOp_repeat_ref (T := "tuple") (U := "int") (by decide) ⟨_, ho, rfl⟩ (fun s' => typeIs_int s' 1 t) noFill_tuple_mul F.fills_int_mul F.slot_int_rmul repeat_tuple F.slot_int_index.lookup
    (call_meets F.slot_int_rmul (typeIs_int s 1 t) F.entry_int_rmul (F.args_int_rmul_2 _ _) (int_rmul_tuple 1 t l its.toArray n dd sl)
      ⟨ho, rfl, ⟨_, ho, rfl⟩, call_meets F.slot_tuple_mul ⟨_, ho, rfl⟩ F.entry_tuple_mul (F.args_tuple_mul_2 _ _) (tuple_mul1 l its.toArray n dd sl t) ⟨ho, ?_⟩⟩)
  exact ⟨.ref l, H, I, rfl, q⟩
abbrev rRepTA (K : PySem.W.Frag) : R2 := fun x y H Q => rRepT K x y H Q ∨ rRepT1 K x y H Q
abbrev rAddSS : R2 := fun x y H Q => ∃ i j, x = .str i ∧ y = .str j ∧ i.length + j.length ≤ sizeLine ∧ Q (.str (i ++ j)) H
end Fw

set_option Elab.async false
set_option linter.all false
set_option maxRecDepth 100000
set_option maxHeartbeats 4000000
/-! What lies under a name, and the names that a law holds. -/
namespace Fw
open PySem L2 RZ RT
def partsN (cs : List Ct) (n : Int) : List Int := (cs.getD n.toNat (.leaf [])).parts
theorem partsN_at {cs : List Ct} {n : Nat} {c : Ct} (h : cs[n]? = some c) : partsN cs (n : Int) = c.parts := by
  unfold partsN
  rw [getD_nat h]
/-- the names under these, these too -/
structure Under (cs : List Ct) (st ns : List Int) : Prop where
  all : ∀ x ∈ st, x ∈ ns
  closed : ∀ n ∈ ns, ∀ p ∈ partsN cs n, p ∈ ns
  least : ∀ S : Int → Prop, (∀ x ∈ st, S x) → (∀ n, S n → ∀ p ∈ partsN cs n, S p) → ∀ n ∈ ns, S n
theorem len_sub : ∀ {fs vs : List Int}, fs.Nodup → (∀ x ∈ fs, x ∈ vs) → fs.length ≤ vs.length
  | [], _, _, _ => Nat.zero_le _
  | x :: fs, vs, nd, h => by
    rw [List.nodup_cons] at nd
    have hx := h x List.mem_cons_self
    have e : (vs.erase x).length = vs.length - 1 := List.length_erase_of_mem hx
    have pos : 0 < vs.length := List.length_pos_of_mem hx
    have := len_sub (vs := vs.erase x) nd.2 fun y hy => (List.mem_erase_of_ne fun z => nd.1 (by rw [← z]; exact hy)).mpr (h y (List.mem_cons_of_mem _ hy))
    rw [List.length_cons]
    omega
theorem NmOk.mem {cs : List Ct} {ns : List Int} (h : NmOk cs ns) {n : Int} (hn : n ∈ ns) : n ∈ (List.range cs.length).map Int.ofNat := by
  have := h n hn
  obtain ⟨m, rfl⟩ := Int.eq_ofNat_of_zero_le this.1
  exact List.mem_map.mpr ⟨m, List.mem_range.mpr (by have := this.2; rwa [Int.toNat_natCast] at this), rfl⟩
theorem NmOk.len {cs : List Ct} {ns : List Int} (h : NmOk cs ns) (nd : ns.Nodup) : ns.length ≤ cs.length := by
  have := len_sub nd fun x hx => h.mem hx
  rwa [List.length_map, List.length_range] at this
/-- the parts of a content of a family are names of it -/
theorem FamOk.parts {cs : List Ct} (f : FamOk cs) {n : Nat} {c : Ct} (h : cs[n]? = some c) : NmOk cs c.parts := fun p hp => by
  have inb := f.inb n c h
  have lt : ∀ {ks : List Str} {p : Int}, hasK (cs.take n) ks p = true → 0 ≤ p ∧ p.toNat < cs.length := fun q => by
    have := hasK_lt q
    rw [List.length_take] at this
    exact ⟨this.1, by omega⟩
  cases c with
  | leaf rows => exact nomatch hp
  | tree es =>
    unfold Ct.inB at inb
    rw [Bool.and_eq_true] at inb
    obtain ⟨e, he, rfl⟩ := List.mem_map.mp (show p ∈ es.map (·.2) from hp)
    exact lt (List.all_eq_true.mp inb.1 e he)
  | ver ps r s =>
    unfold Ct.inB at inb
    rw [Bool.and_eq_true] at inb
    rcases List.mem_append.mp (show p ∈ ps ++ [r] from hp) with h | h
    · exact lt (List.all_eq_true.mp inb.1 p h)
    · rw [List.mem_singleton.mp h]
      exact lt inb.2
section
variable [HasW]
def sp_l_under (_ : PySem.W.Frag) : Sp := fun vs H Q _ => ∃ (T L : Addr) (as : List Addr) (cs : List Ct) (st : List Int), vs = [.ref T, .ref L] ∧ H T = some (.lst (as.map V.ref)) ∧ CsAt H as cs ∧ FamOk cs ∧ H L = some (.lst (st.map V.int)) ∧ NmOk cs st ∧ st.length ≤ 1000 ∧ cs.length ≤ 300 ∧
  ∀ (R : Addr) (ns : List Int) (H' : Hp), Same H H' → H R = none → H' R = some (.lst (ns.map V.int)) → ns.Pairwise (· < ·) → NmOk cs ns → Under cs st ns → Q (.ref R) H'
end
section
variable [HasW] {K : PySem.W.Frag} {vs : List V} {H : Hp} {Q : VK} {E : XK}
theorem len_l_under (h : sp_l_under K vs H Q E) : vs.length = 2 := by obtain ⟨_, _, _, _, _, rfl, _⟩ := h; rfl
end
section
variable [HasW]
abbrev N_l_under : List Str := ["_law_things", "_law_starts", "_law_found", "_law_left", "_law_name"]
def t_l_under (K : PySem.W.Frag) : TS := (tSeq (tAsg tDNewK (gName 2))
    (tSeq (tAsg (tCB (fListOf K) (tCons (tVar 1) tNil)) (gName 3))
    (tSeq (tWhile (tTest (tOp rGtI (tCB (fLen K) (tCons (tVar 3) tNil)) (tC (.int 0)))) (tSeq (tAsg (tBM0 K "list" rPop (tVar 3)) (gName 4))
    (tIfS (tB (tDNotIn (tVar 4) (tVar 2))) (tSeq (sDPut (tVar 2) (tVar 4) (tC (.bl true)))
    (tDrop (tBM K "list" (rExtendA K) (tVar 3) (tCons (tCall (sp_l_parts K) [] E0 (tCons (tOp (rIx K) (tVar 0) (tVar 4)) tNil)) tNil)))) tNext)))
    (tRet (tCB rSortK (tCons (tVar 2) tNil))))))
end
section
variable [HasW] {K : PySem.W.Frag} {vs : List V} {H : Hp} {Q : VK} {E : XK}
theorem pure_l_under (h : sp_l_under K vs H Q E) : t_l_under K { nx := fun _ H' => Q .non H', rt := Q } (start N_l_under vs) H := by
  obtain ⟨T, L, as, cs, st, rfl, hT, hcs, f, hL, nm, few, fc, k⟩ := h
  refine fun F nF => ?_
  have sF : Same H (upd H F (.dK [])) := samN nF
  have hF : upd H F (.dK []) F = some (.dK (nmD [])) := updS
  generalize upd H F (.dK []) = H1 at sF hF
  refine ⟨_, rfl, L, _, rfl, .inl (sqL (sF _ _ hL)), fun M nM => ?_⟩
  have sM : Same H1 (upd H1 M (.lst (st.map V.int))) := samN nM
  have hM : upd H1 M (.lst (st.map V.int)) M = some (.lst (st.map V.int)) := updS
  have hF2 := sM _ _ hF
  have nFM : F ≠ M := ne_of_none hF nM
  have s2 := sF.trans sM
  have nM0 : H M = none := by
    cases q : H M with
    | none => rfl
    | some o => rw [sF _ _ q] at nM; cases nM
  generalize upd H1 M (.lst (st.map V.int)) = H2 at sM hM hF2 s2
  have old : ∀ {H' : Hp}, Kf [F, M] H2 H' → Same H H' := fun kf b o e => kf _ _ (s2 _ _ e) (by simp [ne_of_none e nF, ne_of_none e nM0])
  refine ⟨fun m σ H' => ∃ (fd lf : List Int) (z4 : Option V), σ = [some (.ref T), some (.ref L), some (.ref F), some (.ref M), z4] ∧ Kf [F, M] H2 H' ∧ H' F = some (.dK (nmD fd)) ∧ H' M = some (.lst (lf.map V.int)) ∧ fd.Nodup ∧ NmOk cs fd ∧ NmOk cs lf ∧ lf.length ≤ 1000 + 20 * fd.length ∧ m = 21 * (cs.length - fd.length) + lf.length ∧
    (∀ x ∈ st, x ∈ fd ∨ x ∈ lf) ∧ (∀ n ∈ fd, ∀ p ∈ partsN cs n, p ∈ fd ∨ p ∈ lf) ∧ ∀ S : Int → Prop, (∀ x ∈ st, S x) → (∀ n, S n → ∀ p ∈ partsN cs n, S p) → ∀ n, n ∈ fd ∨ n ∈ lf → S n,
    ⟨_, [], st, _, rfl, .refl, hF2, hM, List.nodup_nil, (fun _ z => nomatch z), nm, by omega, rfl, fun x hx => .inr hx, (fun _ z => nomatch z), fun S h1 _ n hn => hn.elim (fun z => nomatch z) (h1 n)⟩, ?_⟩
  rintro m σ H3 ⟨fd, lf, z4, rfl, kf, hF3, hM3, nd, nf, nl, sz, em, a1, a2, a3⟩
  have so := old kf
  have fl := nf.len nd
  refine ⟨_, rfl, lenL hM3 ⟨_, _, rfl, rfl, _, rfl, ?_⟩⟩
  rw [List.length_map]
  refine ite2 (fun pos => ?_) (fun non => ?_)
  · have pos : 0 < lf.length := by simpa using pos
    have hv : lf[lf.length - 1]? = some lf[lf.length - 1] := List.getElem?_eq_getElem (by omega)
    have split : lf = lf.dropLast ++ [lf[lf.length - 1]] := by
      have := List.dropLast_concat_getLast (l := lf) (List.length_pos_iff.mp pos)
      rw [List.getLast_eq_getElem] at this
      exact this.symm
    have mem : lf[lf.length - 1] ∈ lf := List.getElem_mem _
    generalize hx : lf[lf.length - 1] = x at hv split mem
    have mdl : ∀ y, y ∈ lf → y ∈ lf.dropLast ∨ y = x := fun y hy => by
      rw [split] at hy
      exact (List.mem_append.mp hy).imp id fun z => List.mem_singleton.mp z
    have dl : ∀ y, y ∈ lf.dropLast → y ∈ lf := fun y hy => List.dropLast_subset _ hy
    have ll : lf.dropLast.length = lf.length - 1 := List.length_dropLast
    refine ⟨fun σ' H' => ∃ m', m' < m ∧ _, fun σ' H' h => h, ?_⟩
    refine ⟨_, rfl, .inl ⟨rfl, _, sqL hM3⟩, M, _, .int x, rfl, rfl, hM3, by rw [List.length_map, List.getElem?_map, hv]; rfl, ?_⟩
    have ed : (lf.map V.int).dropLast = lf.dropLast.map V.int := by rw [List.map_dropLast]
    rw [ed]
    have kf4 : Kf [F, M] H2 (upd H3 M (.lst (lf.dropLast.map V.int))) := kf.up (by simp)
    have hF4 : upd H3 M (.lst (lf.dropLast.map V.int)) F = some (.dK (nmD fd)) := updN nFM hF3
    have hM4 : upd H3 M (.lst (lf.dropLast.map V.int)) M = some (.lst (lf.dropLast.map V.int)) := updS
    generalize upd H3 M (.lst (lf.dropLast.map V.int)) = H4 at kf4 hF4 hM4
    refine ⟨_, rfl, _, rfl, F, _, rfl, DGet.k (k := Sum.inl x) hF4, _, rfl, ?_⟩
    rw [nmD_some]
    by_cases hin : x ∈ fd
    · rw [decide_eq_true hin]
      refine iteF ⟨_, ?_, fd, lf.dropLast, _, rfl, kf4, hF4, hM4, nd, nf, fun y hy => nl y (dl y hy), by omega, rfl, fun y hy => ?_, fun n hn p hp => ?_, fun S h1 h2 n hn => a3 S h1 h2 n (hn.imp id (dl n))⟩
      · omega
      · rcases a1 y hy with h | h
        · exact .inl h
        · exact (mdl y h).elim .inr fun e => .inl (by rw [e]; exact hin)
      · rcases a2 n hn p hp with h | h
        · exact .inl h
        · exact (mdl p h).elim .inr fun e => .inl (by rw [e]; exact hin)
    · rw [decide_eq_false hin]
      refine iteT ?_
      obtain ⟨i, c, ei, hi⟩ := nl.get mem
      obtain ⟨a, ha, hc⟩ := hcs.get hi
      have lt : fd.length < cs.length := by
        have nd2 : (fd ++ [x]).Nodup := by
          rw [List.nodup_append]
          exact ⟨nd, by simp, fun y hy z hz e => hin (by rw [List.mem_singleton.mp hz] at e; rw [← e]; exact hy)⟩
        have := NmOk.len (cs := cs) (ns := fd ++ [x]) (fun y hy => (List.mem_append.mp hy).elim (nf y) fun z => by rw [List.mem_singleton.mp z]; exact nl x mem) nd2
        rw [List.length_append, List.length_singleton] at this
        omega
      refine ⟨_, rfl, _, rfl, F, _, rfl, DPut.k (k := Sum.inl x) hF4 (by rw [List.length_map]; exact Nat.lt_of_le_of_lt (show _ ≤ 1000 by omega) (by decide)), ?_⟩
      rw [nmD_put hin]
      have kf5 : Kf [F, M] H2 (upd H4 F (.dK (nmD (fd ++ [x])))) := kf4.up (by simp)
      have hF5 : upd H4 F (.dK (nmD (fd ++ [x]))) F = some (.dK (nmD (fd ++ [x]))) := updS
      have hM5 : upd H4 F (.dK (nmD (fd ++ [x]))) M = some (.lst (lf.dropLast.map V.int)) := updN nFM.symm hM4
      generalize upd H4 F (.dK (nmD (fd ++ [x]))) = H5 at kf5 hF5 hM5
      have so5 := old kf5
      have fo := f.form c (List.mem_of_getElem? hi)
      have lp := Ct.parts_len fo
      refine ⟨_, rfl, .inl ⟨rfl, _, sqL hM5⟩, _, rfl, _, rfl, ixL (so5 _ _ hT) (by rw [ei]; exact atI_nat (by rw [List.getElem?_map, ha]; rfl)) ⟨a, c, rfl, hc.mono (TM.of so5), fo, fun P H6 s6 hP => ?_⟩⟩
      refine ⟨M, P, _, _, rfl, rfl, s6 _ _ hM5, .inl hP, by rw [List.length_map, List.length_map]; omega, ?_⟩
      have ep : partsN cs x = c.parts := by rw [ei]; exact partsN_at hi
      rw [← List.map_append]
      refine ⟨_, ?_, fd ++ [x], lf.dropLast ++ c.parts, _, rfl, (kf5.trans (.same s6)).up (by simp), updN nFM (s6 _ _ hF5), updS, ?_, ?_, ?_, ?_, rfl, fun y hy => ?_, fun n hn p hp => ?_, fun S h1 h2 n hn => ?_⟩
      · rw [List.length_append, List.length_append, List.length_singleton]
        omega
      · rw [List.nodup_append]
        exact ⟨nd, by simp, fun y hy z hz e => hin (by rw [List.mem_singleton.mp hz] at e; rw [← e]; exact hy)⟩
      · exact fun y hy => (List.mem_append.mp hy).elim (nf y) fun z => by rw [List.mem_singleton.mp z]; exact nl x mem
      · exact fun y hy => (List.mem_append.mp hy).elim (fun z => nl y (dl y z)) fun z => f.parts hi y z
      · rw [List.length_append, List.length_append, List.length_singleton]
        omega
      · rcases a1 y hy with h | h
        · exact .inl (List.mem_append_left _ h)
        · exact (mdl y h).elim (fun z => .inr (List.mem_append_left _ z)) fun e => .inl (by rw [e]; simp)
      · rcases List.mem_append.mp hn with hn | hn
        · rcases a2 n hn p hp with h | h
          · exact .inl (List.mem_append_left _ h)
          · exact (mdl p h).elim (fun z => .inr (List.mem_append_left _ z)) fun e => .inl (by rw [e]; simp)
        · rw [List.mem_singleton.mp hn, ep] at hp
          exact .inr (List.mem_append_right _ hp)
      · have hS := a3 S h1 h2
        have sx := hS x (.inr mem)
        rcases hn with hn | hn
        · rcases List.mem_append.mp hn with h | h
          · exact hS n (.inl h)
          · rw [List.mem_singleton.mp h]; exact sx
        · rcases List.mem_append.mp hn with h | h
          · exact hS n (.inr (dl n h))
          · exact h2 x sx n (by rw [ep]; exact h)
  · have e0 : lf = [] := by
      cases lf with
      | nil => rfl
      | cons y r => exact absurd (by simp) non
    subst e0
    refine ⟨_, rfl, F, _, fd, rfl, hF3, nmD_keys fd, fun ns R pm inc nR => ?_⟩
    have nR0 : H R = none := by
      cases q : H R with
      | none => rfl
      | some o => rw [so _ _ q] at nR; cases nR
    refine k R ns _ (fun b o e => updN (ne_of_none (so _ _ e) nR) (so _ _ e)) nR0 updS (perm_lt pm inc nd) (fun n hn => nf n (pm.mem_iff.mp hn)) ⟨fun x hx => ?_, fun n hn p hp => ?_, fun S h1 h2 n hn => a3 S h1 h2 n (.inl (pm.mem_iff.mp hn))⟩
    · exact pm.mem_iff.mpr ((a1 x hx).elim id fun z => nomatch z)
    · exact pm.mem_iff.mpr ((a2 n (pm.mem_iff.mp hn) p hp).elim id fun z => nomatch z)
end
/-- some of the ints of a walk, the test may draw -/
theorem lc_sub {J : It} {n : Nat} {G : Hp → Prop} {Y : Nat → Hp → V → Hp → Prop} {ns : List Int} (w : Walk J n G Y) (hY : ∀ i H x H', Y i H x H' → H' = H ∧ (ns.map V.int)[i]? = some x) {k : Nat} {tt : TT} {σ : L2.St} {H1 : Hp} {L : Addr} {Qd : Hp → Prop} (Pv : Nat → Hp → Prop) (φ : Int → Prop) (hk : k < σ.length)
    (hl : ns.length = n) (hz : n ≤ 100000) (h0 : Pv 0 (L2.upd H1 L (.lst []))) (hG : ∀ i H', Pv i H' → G H') (up : ∀ i H' o, Pv i H' → Pv i (L2.upd H' L o))
    (hs : ∀ (i : Nat) (v : Int) (H' : Hp) (R : Bool → Hp → Prop), ns[i]? = some v → Pv i H' → (∀ b H'', (b = true → φ v) → Pv (i + 1) H'' → H'' L = H' L → R b H'') → tt ((wipe σ [k]).set k (some (.int v))) H' R)
    (hd : ∀ (H' : Hp) (ms : List Int), Pv n H' → ms.Sublist ns → (∀ m ∈ ms, φ m) → H' L = some (.lst (ms.map V.int)) → Qd H') :
    ∃ W : Nat → Nat → Hp → Prop, (∃ m, W 0 m (L2.upd H1 L (.lst []))) ∧ ∀ i m H, W i m H →
      (J.stop i H ∧ Qd H) ∨ (J.go i H ∧ ∃ Nx : Hp → Prop, (∀ H', Nx H' → ∃ m', m' < m ∧ W (i + 1) m' H') ∧ ∀ x H', J.yld i H x H' → gName k x (wipe σ [k]) H' fun σ2 H2 => wipe σ2 [k] = wipe σ [k] ∧ tt σ2 H2 fun b H3 =>
        if b = true then tVar k σ2 H3 fun y H4 => ∃ acc, H4 L = some (.lst acc) ∧ acc.length < sizeLine ∧ Nx (L2.upd H4 L (.lst (acc ++ [y]))) else Nx H3) := by
  refine lc_it w (fun i H => Pv i H ∧ ∃ ms : List Int, ms.Sublist (ns.take i) ∧ (∀ m ∈ ms, φ m) ∧ H L = some (.lst (ms.map V.int))) ⟨h0, [], List.nil_sublist _, (fun _ z => nomatch z), updS⟩ (fun i H _ q => hG i H q.1) (fun i x H H' hi q hy => ?_) fun H ⟨p, ms, hm, hf, e⟩ => hd H ms p (by rw [List.take_of_length_le (by omega)] at hm; exact hm) hf e
  obtain ⟨rfl, hx⟩ := hY i H x H' hy
  obtain ⟨pv, ms, hm, hf, e⟩ := q
  rw [List.getElem?_map] at hx
  have hv : ns[i]? = some ns[i] := List.getElem?_eq_getElem (by omega)
  rw [hv] at hx
  cases Option.some.inj hx
  have eT : ns.take (i + 1) = ns.take i ++ [ns[i]] := by rw [List.take_succ, hv]; rfl
  refine ⟨?_, hs i _ _ _ hv pv fun b H'' bf p2 e2 => ?_⟩
  · show (((σ.set k none).set k _).set k none) = σ.set k none
    rw [List.set_set, List.set_set]
  have lm := hm.length_le
  rw [List.length_take] at lm
  rw [e] at e2
  refine ite2 (fun eb => ?_) fun _ => ⟨p2, ms, by rw [eT]; exact hm.trans (List.sublist_append_left _ _), hf, e2⟩
  refine ⟨.int ns[i], List.getElem?_set_self (show k < (σ.set k none).length by rw [List.length_set]; exact hk), _, e2, ?_, up _ _ _ p2, ms ++ [ns[i]], by rw [eT]; exact hm.append_right _, fun m hm => (List.mem_append.mp hm).elim (hf m) fun z => by rw [List.mem_singleton.mp z]; exact bf eb, by rw [updS, List.map_append]; rfl⟩
  rw [List.length_map]
  exact Nat.lt_of_le_of_lt (show ms.length ≤ 100000 by omega) (by decide)
theorem fl_ints : ∀ ns : List Int, (ns.map V.int).all flatV = true
  | [] => rfl
  | n :: r => by rw [List.map_cons, List.all_cons, fl_ints r]; rfl
theorem i_ints (w : Int) : ∀ ns : List Int, inV (.int w) (ns.map V.int) = decide (w ∈ ns)
  | [] => by simp [inV]
  | n :: r => by
    have ih := i_ints w r
    unfold inV at ih ⊢
    rw [List.map_cons, List.any_cons, ih]
    show ((n == w) || _) = _
    by_cases h : n = w
    · simp [h]
    · have : w ≠ n := fun e => h e.symm
      simp [h, this]
def insN (ns : List Int) (n : Int) : List Int := if n ∈ ns then ns else ns ++ [n]
theorem nmD_ins (ns : List Int) (n : Int) : putK (nmD ns) (.inl n) (.bl true) = nmD (insN ns n) := by
  unfold insN
  by_cases h : n ∈ ns
  · rw [if_pos h]
    unfold putK
    rw [if_pos (List.any_eq_true.mpr ⟨((Sum.inl n : Key), V.bl true), List.mem_map.mpr ⟨n, h, rfl⟩, decide_eq_true rfl⟩)]
    rw [List.map_map]
    refine List.map_congr_left fun m _ => ?_
    show (if (Sum.inl m : Key) = Sum.inl n then ((Sum.inl m : Key), V.bl true) else ((Sum.inl m : Key), V.bl true)) = _
    split <;> rfl
  · rw [if_neg h]
    exact nmD_put h
theorem insN_nodup {ns : List Int} {n : Int} (h : ns.Nodup) : (insN ns n).Nodup := by
  unfold insN
  split
  · exact h
  · rename_i hn
    rw [List.nodup_append]
    exact ⟨h, by simp, fun y hy z hz e => hn (by rw [List.mem_singleton.mp hz] at e; rw [← e]; exact hy)⟩
theorem insN_mem {ns : List Int} {n m : Int} : m ∈ insN ns n ↔ m ∈ ns ∨ m = n := by
  unfold insN
  split
  · rename_i h
    exact ⟨.inl, fun z => z.elim id fun e => by rw [e]; exact h⟩
  · rw [List.mem_append, List.mem_singleton]
theorem insN_ok {cs : List Ct} {ns : List Int} {n : Int} (h : NmOk cs ns) (hn : 0 ≤ n ∧ n.toNat < cs.length) : NmOk cs (insN ns n) := fun m hm => (insN_mem.mp hm).elim (h m) fun e => by rw [e]; exact hn
theorem NmOk.sub {cs : List Ct} {ns ms : List Int} (h : NmOk cs ns) (s : ∀ x ∈ ms, x ∈ ns) : NmOk cs ms := fun n hn => h n (s n hn)
theorem lt_nodup {ns : List Int} (h : ns.Pairwise (· < ·)) : ns.Nodup := h.imp fun {a b} h e => by omega
theorem range_lt (n : Nat) : ((List.range n).map Int.ofNat).Pairwise (· < ·) := List.Pairwise.map Int.ofNat (fun a b (h : a < b) => Int.ofNat_lt.mpr h) List.pairwise_lt_range
theorem range_ok (cs : List Ct) : NmOk cs ((List.range cs.length).map Int.ofNat) := fun n hn => by
  obtain ⟨m, hm, rfl⟩ := List.mem_map.mp hn
  exact ⟨Int.natCast_nonneg _, List.mem_range.mp hm⟩
theorem rgV_names {k : Nat} : rgV 0 (k : Int) = ((List.range k).map Int.ofNat).map V.int := by
  unfold rgV
  rw [Int.sub_zero, Int.toNat_natCast, List.map_map]
  refine List.map_congr_left fun i _ => ?_
  rw [Int.zero_add]
  rfl
section
variable [HasW]
def sp_l_held (_ : PySem.W.Frag) : Sp := fun vs H Q _ => ∃ (c D T : Addr) (dn : List Int) (t : Nat) (as : List Addr) (cs : List Ct), vs = [.ref D, .ref T] ∧ Dk c D dn t H ∧ T ≠ D ∧ H T = some (.lst (as.map V.ref)) ∧ CsAt H as cs ∧ FamOk cs ∧ cs.length ≤ 300 ∧ t + 1000 < 1000000000 ∧
  ∀ (R : Addr) (ns : List Int) (H' : Hp), Kp D H H' → H R = none → H' R = some (.lst (ns.map V.int)) → ns.Pairwise (· < ·) → NmOk cs ns → Dk c D dn (t + 1000) H' → Q (.ref R) H'
end
section
variable [HasW] {K : PySem.W.Frag} {vs : List V} {H : Hp} {Q : VK} {E : XK}
theorem len_l_held (h : sp_l_held K vs H Q E) : vs.length = 2 := by obtain ⟨_, _, _, _, _, _, _, rfl, _⟩ := h; rfl
end
section
variable [HasW]
abbrev N_l_held : List Str := ["_law_deck_here", "_law_things", "_law_names", "_law_pick", "_law_name", "_law_gone", "_law_k", "_law_heads", "_law_held_here", "_law_top"]
def t_l_held_top (K : PySem.W.Frag) : TS := (tSeq (sDPut (tVar 8) (tVar 9) (tC (.bl true)))
    (tFor (iList K (tCall (sp_l_under K) [] E0 (tCons (tVar 1) (tCons (tLst (tCons (tOp (rIx K) (tOp (rIx K) (tVar 1) (tVar 9)) (tC (.int 2))) tNil)) tNil)))) (gName 4) (sDPut (tVar 8) (tVar 4) (tC (.bl true)))))
def t_l_held_tops (K : PySem.W.Frag) : TS := (tSeq (tAsg tDNewK (gName 8))
    (tSeq (tFor (iList K (tVar 7)) (gName 9) (t_l_held_top K))
    (tRet (tCB rSortK (tCons (tVar 8) tNil)))))
def t_l_held_two (K : PySem.W.Frag) : TS := (tSeq (tIfS (tTest (tOp rEq (tVar 3) (tC (.int 2)))) (tRet (tCall (sp_l_under K) [] E0 (tCons (tVar 1) (tCons (tVar 7) tNil)))) tNext)
    (t_l_held_tops K))
def t_l_held_heads (K : PySem.W.Frag) : TS := (tSeq (tAsg (tLc (iList K (tVar 2)) (gName 4) (tAnd (tTest (tOp rEq (tOp (rIx K) (tOp (rIx K) (tVar 1) (tVar 4)) (tC (.int 0))) (tC (.str "version")))) (tTest (tOp rEq (tCall (sp_l_draw K) [] E0 (tCons (tVar 0) (tCons (tC (.int 2)) tNil))) (tC (.int 1))))) (tVar 4) [4]) (gName 7))
    (t_l_held_two K))
def t_l_held_gone (K : PySem.W.Frag) : TS := (tSeq (tIfS (tTest (tOp rEq (tVar 3) (tC (.int 1)))) (tSeq (tAsg (tLc (iRng1 (tCons (tC (.int 3)) tNil)) (gName 6) tYes (tCall (sp_l_draw K) [] E0 (tCons (tVar 0) (tCons (tOp rAddI (tCB (fLen K) (tCons (tVar 1) tNil)) (tC (.int 1))) tNil))) [6]) (gName 5))
    (tRet (tLc (iList K (tVar 2)) (gName 4) (tTest (tOp (rIn K true) (tVar 4) (tVar 5))) (tVar 4) [4]))) tNext)
    (t_l_held_heads K))
def t_l_held_pick (K : PySem.W.Frag) : TS := (tSeq (tIfS (tTest (tOp rEq (tVar 3) (tC (.int 0)))) (tRet (tLc (iList K (tVar 2)) (gName 4) (tTest (tOp rEq (tCall (sp_l_draw K) [] E0 (tCons (tVar 0) (tCons (tC (.int 2)) tNil))) (tC (.int 1)))) (tVar 4) [4])) tNext)
    (t_l_held_gone K))
def t_l_held (K : PySem.W.Frag) : TS := (tSeq (tAsg (tLstRg (tRg1 (tCB (fLen K) (tCons (tVar 1) tNil)))) (gName 2))
    (tSeq (tAsg (tCall (sp_l_draw K) [] E0 (tCons (tVar 0) (tCons (tC (.int 4)) tNil))) (gName 3))
    (t_l_held_pick K)))
end
section
variable [HasW] {K : PySem.W.Frag} {vs : List V} {H : Hp} {Q : VK} {E : XK}
theorem held_tops {c D T N M : Addr} {dn : List Int} {t : Nat} {as : List Addr} {cs : List Ct} {ms : List Int} {i3 : Int} {z4 z5 z6 z8 z9 : Option V} (dk : Dk c D dn t H) (hT : H T = some (.lst (as.map V.ref))) (hcs : CsAt H as cs) (f : FamOk cs) (fc : cs.length ≤ 300) (hM : H M = some (.lst (ms.map V.int))) (nm : NmOk cs ms) (ver : ∀ m ∈ ms, isV cs m = true) (lm : ms.length ≤ 300)
    (k : ∀ (R : Addr) (ns : List Int) (H' : Hp), Same H H' → H R = none → H' R = some (.lst (ns.map V.int)) → ns.Pairwise (· < ·) → NmOk cs ns → Q (.ref R) H') :
    t_l_held_tops K { nx := fun _ H' => Q .non H', rt := Q } [some (.ref D), some (.ref T), some (.ref N), some (.int i3), z4, z5, z6, some (.ref M), z8, z9] H := by
  refine fun F nF => ?_
  have sF : Same H (upd H F (.dK [])) := samN nF
  have hF : upd H F (.dK []) F = some (.dK (nmD [])) := updS
  generalize upd H F (.dK []) = H1 at sF hF
  have old : ∀ {H' : Hp}, Kf [F] H1 H' → Same H H' := fun kf b o e => kf _ _ (sF _ _ e) (by simp [ne_of_none e nF])
  refine ⟨_, rfl, M, rfl, ⟨_, sqL (sF _ _ hM)⟩, ?_⟩
  refine for_it (walk_list (xs := ms.map V.int)) (fun i σ H' => Kf [F] H1 H' ∧ (∃ hs : List Int, H' F = some (.dK (nmD hs)) ∧ hs.Nodup ∧ NmOk cs hs) ∧ ∃ z4 z9, σ = [some (.ref D), some (.ref T), some (.ref N), some (.int i3), z4, z5, z6, some (.ref M), some (.ref F), z9]) ⟨.refl, ⟨[], hF, List.nodup_nil, fun _ z => nomatch z⟩, _, _, rfl⟩ (fun i σ H' _ e => sqL (old e.1 _ _ hM)) ?_ ?_
  · rintro i y σ H2 H3 hi ⟨kf, ⟨hs, hF2, nd, nh⟩, z4, z9, rfl⟩ ⟨rfl, hy⟩
    rw [List.length_map] at hi
    have hv : ms[i]? = some ms[i] := List.getElem?_eq_getElem hi
    rw [List.getElem?_map, hv] at hy
    cases Option.some.inj hy
    have hm := List.getElem_mem hi
    obtain ⟨j, d, ej, hj⟩ := nm.get hm
    obtain ⟨a, ha, hc⟩ := hcs.get hj
    obtain ⟨ps, r, s, rfl⟩ := isV_ver hj (by rw [← ej]; exact ver _ hm)
    have lh := nh.len nd
    refine ⟨_, rfl, _, rfl, F, _, rfl, DPut.k (k := Sum.inl ms[i]) hF2 (by rw [List.length_map]; exact Nat.lt_of_le_of_lt (show _ ≤ 1000 by omega) (by decide)), ?_⟩
    rw [nmD_ins]
    have kf3 : Kf [F] H1 (upd H3 F (.dK (nmD (insN hs ms[i])))) := kf.up (by simp)
    have hF3 : upd H3 F (.dK (nmD (insN hs ms[i]))) F = some (.dK (nmD (insN hs ms[i]))) := updS
    have nd3 := insN_nodup (n := ms[i]) nd
    have nh3 := insN_ok nh (nm _ hm)
    generalize insN hs ms[i] = hs3 at hF3 nd3 nh3 kf3
    generalize upd H3 F (.dK (nmD hs3)) = H4 at kf3 hF3
    have s4 := old kf3
    obtain ⟨p, h1, h2⟩ := hc.mono (TM.of s4)
    refine ⟨_, rfl, _, rfl, _, rfl, ixL (s4 _ _ hT) (by rw [ej]; exact atI_nat (by rw [List.getElem?_map, ha]; rfl)) (ixT h1 rfl ⟨by show (1 : Nat) ≤ sizeLine; decide, fun P nP => ?_⟩)⟩
    have s5 : Same H4 (upd H4 P (.lst [.int r])) := samN nP
    have s45 := s4.trans s5
    have rok : 0 ≤ r ∧ r.toNat < cs.length := f.parts hj r (by show r ∈ ps ++ [r]; simp)
    refine ⟨T, P, as, cs, [r], rfl, s45 _ _ hT, hcs.mono (TM.of s45), f, updS, fun n hn => by rw [List.mem_singleton.mp hn]; exact rok, by show (1 : Nat) ≤ 1000; decide, fc, fun R ns H6 s6 nR hR lt nn un => ?_⟩
    have kf6 : Kf [F] H1 H6 := (kf3.trans (.same s5)).trans (.same s6)
    have hF6 := s6 _ _ (s5 _ _ hF3)
    refine ⟨R, rfl, ⟨_, sqL hR⟩, ?_⟩
    have nRF : R ≠ F := fun e => by rw [e, s5 _ _ hF3] at nR; cases nR
    refine for_it (walk_list (xs := ns.map V.int)) (fun i σ H' => (Kf [F] H1 H' ∧ H' R = some (.lst (ns.map V.int))) ∧ (∃ hs : List Int, H' F = some (.dK (nmD hs)) ∧ hs.Nodup ∧ NmOk cs hs) ∧ ∃ z4 z9, σ = [some (.ref D), some (.ref T), some (.ref N), some (.int i3), z4, z5, z6, some (.ref M), some (.ref F), z9]) ⟨⟨kf6, hR⟩, ⟨hs3, hF6, nd3, nh3⟩, _, _, rfl⟩ (fun i σ H' _ e => sqL e.1.2) ?_ ?_
    · rintro i' y' σ' H7 H8 hi' ⟨⟨kf7, hR7⟩, ⟨hs7, hF7, nd7, nh7⟩, z4', z9', rfl⟩ ⟨rfl, hy'⟩
      rw [List.length_map] at hi'
      have hv' : ns[i']? = some ns[i'] := List.getElem?_eq_getElem hi'
      rw [List.getElem?_map, hv'] at hy'
      cases Option.some.inj hy'
      have lh7 := nh7.len nd7
      refine ⟨_, rfl, _, rfl, F, _, rfl, DPut.k (k := Sum.inl ns[i']) hF7 (by rw [List.length_map]; exact Nat.lt_of_le_of_lt (show _ ≤ 1000 by omega) (by decide)), ?_⟩
      rw [nmD_ins]
      exact ⟨⟨kf7.up (by simp), updN nRF hR7⟩, ⟨_, updS, insN_nodup nd7, insN_ok nh7 (nn _ (List.getElem_mem hi'))⟩, _, _, rfl⟩
    · rintro σ' H7 ⟨⟨kf7, hR7⟩, q, z4', z9', rfl⟩
      exact ⟨kf7, q, _, _, rfl⟩
  · rintro σ H2 ⟨kf, ⟨hs, hF2, nd, nh⟩, z4, z9, rfl⟩
    have so := old kf
    refine ⟨_, rfl, F, _, hs, rfl, hF2, nmD_keys hs, fun ns R pm inc nR => ?_⟩
    have nR0 : H R = none := by
      cases q : H R with
      | none => rfl
      | some o => rw [so _ _ q] at nR; cases nR
    exact k R ns _ (fun b o e => updN (ne_of_none (so _ _ e) nR) (so _ _ e)) nR0 updS (perm_lt pm inc nd) fun n hn => nh n (pm.mem_iff.mp hn)
theorem held_heads {c D T N : Addr} {dn : List Int} {t : Nat} {as : List Addr} {cs : List Ct} {i3 : Int} {z4 z5 z6 z7 z8 z9 : Option V} (dk : Dk c D dn t H) (nTD : T ≠ D) (hT : H T = some (.lst (as.map V.ref))) (hcs : CsAt H as cs) (f : FamOk cs) (fc : cs.length ≤ 300) (hN : H N = some (.lst (((List.range cs.length).map Int.ofNat).map V.int))) (nND : N ≠ D) (ht : t + 500 < 1000000000)
    (k : ∀ (R : Addr) (ns : List Int) (H' : Hp), Kp D H H' → H R = none → H' R = some (.lst (ns.map V.int)) → ns.Pairwise (· < ·) → NmOk cs ns → Dk c D dn (t + 400) H' → Q (.ref R) H') :
    t_l_held_heads K { nx := fun _ H' => Q .non H', rt := Q } [some (.ref D), some (.ref T), some (.ref N), some (.int i3), z4, z5, z6, z7, z8, z9] H := by
  refine ⟨_, rfl, N, rfl, ⟨_, sqL hN⟩, fun M nM => ?_⟩
  have nDM : D ≠ M := (dk.neD nM).symm
  have ncM : c ≠ M := (dk.neC nM).symm
  have nTM : T ≠ M := ne_of_none hT nM
  have nNM : N ≠ M := ne_of_none hN nM
  have l0 : ((List.range cs.length).map Int.ofNat).length = cs.length := by rw [List.length_map, List.length_range]
  obtain ⟨xs, hD⟩ := dk.someD
  have tmO : ∀ {H' : Hp}, Kf [D, M] H H' → TM H H' := fun kf => kf.tm fun x hx ys e => by
    simp only [List.mem_cons, List.not_mem_nil, or_false] at hx
    rcases hx with rfl | rfl
    · rw [hD] at e; cases e
    · rw [nM] at e; cases e
  refine lc_sub (ns := (List.range cs.length).map Int.ofNat) (walk_list (xs := ((List.range cs.length).map Int.ofNat).map V.int)) (fun i H x H' y => ⟨y.1, y.2⟩) (fun i H' => Kf [D, M] H H' ∧ ∃ t', t' ≤ t + i ∧ Dk c D dn t' H') (fun n => isV cs n = true) (by show 4 < 10; decide) (by simp) (by rw [List.length_map, l0]; omega) ⟨Kf.refl.up (by simp), t, Nat.le_refl _, dk.upd ncM.symm nDM.symm⟩ (fun i H' p => sqL (p.1 _ _ hN (by simp [nND, nNM]))) (fun i H' o p => ⟨p.1.up (by simp), p.2.elim fun t' q => ⟨t', q.1, q.2.upd ncM.symm nDM.symm⟩⟩) ?_ ?_
  · intro i v H' R hv ⟨kf, t', ht', d'⟩ q
    have hi := (List.getElem?_eq_some_iff.mp hv).1
    rw [l0] at hi
    rw [List.getElem?_map, List.getElem?_range hi] at hv
    cases Option.some.inj hv
    obtain ⟨a, ha, hc⟩ := hcs.get (List.getElem?_eq_getElem hi)
    refine ⟨_, rfl, _, rfl, ixL (kf _ _ hT (by simp [nTD, nTM])) (atI_nat (by rw [List.getElem?_map, ha]; rfl)) ((hc.mono (tmO kf)).fst ⟨rfl, _, rfl, ?_⟩)⟩
    rw [strD, show decide (cs[i].word = "version") = isV cs (Int.ofNat i) from (isV_at (List.getElem?_eq_getElem hi)).symm]
    refine ite2 (fun e => ?_) fun e => q false H' (fun z => by cases z) ⟨kf, t', by omega, d'⟩ rfl
    refine ⟨_, rfl, c, D, dn, t', 2, rfl, d', by omega, by decide, by decide, fun x H'' _ _ d'' fr => ⟨rfl, _, rfl, q _ H'' (fun _ => e) ⟨kf.trans (Kf.but fr (by simp)), t' + 1, by omega, d''⟩ (fr _ nDM.symm)⟩⟩
  · intro H' ms ⟨kf, t', ht', d'⟩ sb hv hM
    rw [List.length_map, l0] at ht'
    have nm : NmOk cs ms := (range_ok cs).sub fun x hx => sb.subset hx
    have lm : ms.length ≤ 300 := by
      have := sb.length_le
      rw [l0] at this
      omega
    have hT' := kf _ _ hT (by simp [nTD, nTM])
    have tm := tmO kf
    have kp : ∀ {H'' : Hp}, Same H' H'' → Kp D H H'' := fun s b o e n => s _ _ (kf b o e (by simp [n, ne_of_none e nM]))
    have fr : ∀ {R : Addr}, H' R = none → H R = none := fun {R} e => by
      cases q : H R with
      | none => rfl
      | some o =>
        by_cases z : R = D
        · obtain ⟨ys, e2⟩ := d'.someD
          rw [z, e2] at e
          cases e
        · rw [kf R o q (by simp [z, ne_of_none q nM])] at e
          cases e
    refine ⟨_, rfl, rfl, _, rfl, ite2 (fun _ => ?_) (fun _ => ?_)⟩
    · exact ⟨_, rfl, _, rfl, T, M, as, cs, ms, rfl, hT', hcs.mono tm, f, hM, nm, by omega, fc, fun R ns H'' s nR hR lt nn un => k R ns H'' (kp s) (fr nR) hR lt nn ((d'.same s).le (by omega))⟩
    · exact held_tops d' hT' (hcs.mono tm) f fc hM nm hv lm fun R ns H'' s nR hR lt nn => k R ns H'' (kp s) (fr nR) hR lt nn ((d'.same s).le (by omega))
theorem pure_l_held (h : sp_l_held K vs H Q E) : t_l_held K { nx := fun _ H' => Q .non H', rt := Q } (start N_l_held vs) H := by
  obtain ⟨c, D, T, dn, t, as, cs, rfl, dk, nTD, hT, hcs, f, fc, ht, k⟩ := h
  have tl : as.length = cs.length := hcs.1
  refine ⟨_, rfl, lenL hT ⟨_, rfl, RgOk.of_le (by decide) (by rw [List.length_map]; omega) (by decide) (by omega), fun N nN => ?_⟩⟩
  rw [List.length_map, tl, rgV_names]
  have sN : Same H (upd H N (.lst (((List.range cs.length).map Int.ofNat).map V.int))) := samN nN
  have hN : upd H N (.lst (((List.range cs.length).map Int.ofNat).map V.int)) N = some (.lst (((List.range cs.length).map Int.ofNat).map V.int)) := updS
  have nND := dk.neD nN
  have d1 := dk.same sN
  generalize upd H N (.lst (((List.range cs.length).map Int.ofNat).map V.int)) = H1 at sN hN d1
  refine ⟨_, rfl, c, D, dn, t, 4, rfl, d1, by omega, by decide, by decide, fun v H2 v0 v1 d2 fr2 => ?_⟩
  have kp2 : Kp D H H2 := (Kp.of_same sN).trans (.fr fr2)
  have hT2 := kp2 _ _ hT nTD
  have hN2 : H2 N = some (.lst (((List.range cs.length).map Int.ofNat).map V.int)) := by rw [fr2 _ nND]; exact hN
  have hcs2 : CsAt H2 as cs := hcs.mono (kp2.tm dk)
  have fr0 : ∀ {R : Addr}, H2 R = none → H R = none := fun {R} e => kp2.free e (d2.neD e)
  have l0 : ((List.range cs.length).map Int.ofNat).length = cs.length := by rw [List.length_map, List.length_range]
  show t_l_held_pick K { nx := fun _ H' => Q .non H', rt := Q } [some (.ref D), some (.ref T), some (.ref N), some (.int v), none, none, none, none, none, none] H2
  refine ⟨_, rfl, rfl, _, rfl, ite2 (fun _ => ?_) (fun _ => ?_)⟩
  · refine ⟨_, rfl, N, rfl, ⟨_, sqL hN2⟩, fun L nL => ?_⟩
    have nDL : D ≠ L := (d2.neD nL).symm
    have ncL : c ≠ L := (d2.neC nL).symm
    have nNL : N ≠ L := ne_of_none hN2 nL
    refine lc_sub (ns := (List.range cs.length).map Int.ofNat) (walk_list (xs := ((List.range cs.length).map Int.ofNat).map V.int)) (fun i H x H' y => ⟨y.1, y.2⟩) (fun i H' => Kf [D, L] H2 H' ∧ Dk c D dn (t + 1 + i) H') (fun _ => True) (by show 4 < 10; decide) (by simp) (by rw [List.length_map, l0]; omega) ⟨Kf.refl.up (by simp), d2.upd ncL.symm nDL.symm⟩ (fun i H' p => sqL (p.1 _ _ hN2 (by simp [nND, nNL]))) (fun i H' o p => ⟨p.1.up (by simp), p.2.upd ncL.symm nDL.symm⟩) ?_ ?_
    · intro i v H' R hv ⟨kf, d'⟩ q
      have hi := (List.getElem?_eq_some_iff.mp hv).1
      rw [l0] at hi
      exact ⟨_, rfl, c, D, dn, _, 2, rfl, d', by omega, by decide, by decide, fun x H'' _ _ d'' fr => ⟨rfl, _, rfl, q _ H'' (fun _ => trivial) ⟨kf.trans (Kf.but fr (by simp)), d''⟩ (fr _ nDL.symm)⟩⟩
    · intro H' ms ⟨kf, d'⟩ sb _ hL
      rw [List.length_map, l0] at d'
      exact k L ms H' (kp2.trans fun b o e n => kf b o e (by simp [n, ne_of_none e nL])) (fr0 nL) hL ((range_lt _).sublist sb) ((range_ok cs).sub fun x hx => sb.subset hx) (d'.le (by omega))
  · show t_l_held_gone K { nx := fun _ H' => Q .non H', rt := Q } [some (.ref D), some (.ref T), some (.ref N), some (.int v), none, none, none, none, none, none] H2
    refine ⟨_, rfl, rfl, _, rfl, ite2 (fun _ => ?_) (fun _ => ?_)⟩
    · refine ⟨3, rfl, by decide, by decide, fun G nG => ?_⟩
      have nDG : D ≠ G := (d2.neD nG).symm
      have ncG : c ≠ G := (d2.neC nG).symm
      have nTG : T ≠ G := ne_of_none hT2 nG
      refine lc_it (walk_range (lo := 0) (n := (3 : Int).toNat)) (fun i H' => Kf [D, G] H2 H' ∧ Dk c D dn (t + 1 + i) H' ∧ ∃ gs : List Int, H' G = some (.lst (gs.map V.int)) ∧ gs.length = i) ⟨Kf.refl.up (by simp), d2.upd ncG.symm nDG.symm, [], updS, rfl⟩ (fun _ _ _ _ => True.intro) ?_ ?_
      · rintro i x H' H'' hi ⟨kf, d', gs, hG, gl⟩ hy
        obtain ⟨rfl, rfl⟩ := hy
        refine ⟨by simp [wipe], ?_⟩
        dsimp only [tYes]
        rw [if_pos rfl]
        have hi3 : i < 3 := hi
        refine ⟨_, rfl, _, rfl, lenL (kf _ _ hT2 (by simp [nTD, nTG])) ⟨_, _, rfl, rfl, c, D, dn, _, _, rfl, d', by omega, by rw [List.length_map]; omega, by rw [List.length_map]; exact small100 (by omega), fun y H4 _ _ d4 fr4 => ?_⟩⟩
        have hG4 := (fr4 _ nDG.symm).trans hG
        refine ⟨_, hG4, ?_, (kf.trans (Kf.but fr4 (by simp))).up (by simp), d4.upd ncG.symm nDG.symm, gs ++ [y], by rw [updS, List.map_append]; rfl, by rw [List.length_append, gl]; rfl⟩
        rw [List.length_map]
        exact Nat.lt_of_le_of_lt (show gs.length ≤ 1000 by omega) (by decide)
      · rintro H' ⟨kf, d', gs, hG, gl⟩
        have d' : Dk c D dn (t + 1 + 3) H' := d'
        have hN3 := kf _ _ hN2 (by simp [nND, ne_of_none hN2 nG])
        refine ⟨_, rfl, N, rfl, ⟨_, sqL hN3⟩, fun L nL => ?_⟩
        refine lc_filt (ns := (List.range cs.length).map Int.ofNat) (p := fun q => !decide (q ∈ gs)) (walk_list (xs := ((List.range cs.length).map Int.ofNat).map V.int)) (fun i H x H' y => ⟨y.1, y.2⟩) (by show 4 < 10; decide) nL (by simp) (by rw [List.length_map, l0]; omega) (fun H' s => sqL (s _ _ hN3)) ?_ ?_
        · intro v H5 X hv s q
          refine ⟨_, rfl, _, rfl, G, _, rfl, .inl (sqL (s _ _ hG)), rfl, fl_ints _, _, rfl, ?_⟩
          rw [if_pos rfl, i_ints]
          exact q _ (Same.refl _)
        · intro H5 s5 hL
          have nL2 : H2 L = none := by
            cases q : H2 L with
            | none => rfl
            | some o =>
              by_cases z : L = D
              · obtain ⟨ys, e2⟩ := d'.someD
                rw [z, e2] at nL
                cases nL
              · rw [kf L o q (by simp [z, ne_of_none q nG])] at nL
                cases nL
          have sb : (((List.range cs.length).map Int.ofNat).filter fun q => !decide (q ∈ gs)).Sublist ((List.range cs.length).map Int.ofNat) := List.filter_sublist
          exact k L _ H5 (kp2.trans fun b o e n => s5 _ _ (kf b o e (by simp [n, ne_of_none e nG]))) (fr0 nL2) hL ((range_lt _).sublist sb) ((range_ok cs).sub fun x hx => sb.subset hx) ((d'.same s5).le (by omega))
    · exact held_heads d2 nTD hT2 hcs2 f fc hN2 nND (by omega) fun R ns H' kp nR hR lt nn d' => k R ns H' (kp2.trans kp) (fr0 nR) hR lt nn (d'.le (by omega))
end
end Fw

set_option Elab.async false
set_option linter.all false
set_option maxRecDepth 100000
set_option maxHeartbeats 4000000
/-! Ways between two versions in a view: way, right_way (law k52). -/
namespace Fw
open PySem L2 RZ RT
theorem Bef.idx {l : List Int} {u x : Int} (nd : l.Nodup) (h : Bef l u x) : l.idxOf u < l.idxOf x := by
  obtain ⟨a, b, rfl, hu⟩ := h
  have hx : x ∉ a := fun z => by
    rw [List.nodup_append] at nd
    exact nd.2.2 x z x List.mem_cons_self rfl
  rw [List.idxOf_append, List.idxOf_append, if_pos hu, if_neg hx, List.idxOf_cons_self]
  have := List.idxOf_lt_length_iff.mpr hu
  omega
theorem ix_mono {K : PySem.W.Frag} {H : Hp} {x y : V} {Q Q' : VK} (f : ∀ v H', Q v H' → Q' v H') (h : rIx K x y H Q) : rIx K x y H Q' := by
  rcases h with h | h | h
  · obtain ⟨a, b, c, d, h1, h2, h3, h4, q⟩ := h
    exact .inl ⟨a, b, c, d, h1, h2, h3, h4, f _ _ q⟩
  · obtain ⟨a, b, c, d, h1, h2, h3, h4, q⟩ := h
    exact .inr (.inl ⟨a, b, c, d, h1, h2, h3, h4, f _ _ q⟩)
  · obtain ⟨a, b, c, h1, h2, h3, h4, q⟩ := h
    exact .inr (.inr ⟨a, b, c, h1, h2, h3, h4, f _ _ q⟩)
theorem at_last {xs : List V} {y : V} : atI (xs ++ [y]) (-1) = some y := by
  unfold atI ixN
  rw [List.length_append, List.length_singleton, if_neg (by decide), if_pos (by omega)]
  show (xs ++ [y])[(-1 + ((xs.length + 1 : Nat) : Int)).toNat]? = _
  rw [show (-1 + ((xs.length + 1 : Nat) : Int)).toNat = xs.length by omega, List.getElem?_append_right (Nat.le_refl _), Nat.sub_self]
  rfl
/-- come to in any number of steps -/
def Lw (cs : List Ct) (ns : List Int) (new x : Int) : Prop := ∃ k, RchN cs ns (fun y => y = new) k x
theorem RchN.congr {cs : List Ct} {ns : List Int} {S T : Int → Prop} (h : ∀ x, S x ↔ T x) : ∀ {k : Nat} {x : Int}, RchN cs ns S k x ↔ RchN cs ns T k x
  | 0, x => h x
  | k + 1, x => or_congr (RchN.congr h) ⟨fun ⟨u, r, p⟩ => ⟨u, (RchN.congr h).mp r, p⟩, fun ⟨u, r, p⟩ => ⟨u, (RchN.congr h).mpr r, p⟩⟩
/-- a version's parents are lower names -/
def LowP (cs : List Ct) : Prop := ∀ (i : Nat) (ps : List Int) (r s : Int), cs[i]? = some (.ver ps r s) → ∀ p ∈ ps, p < (i : Int)
theorem par_low {cs : List Ct} {ns : List Int} (lo : LowP cs) (nm : NmOk cs ns) {u x : Int} (hu : u ∈ ns) (h : x ∈ parA cs ns u) : x < u ∧ x ∈ ns := by
  obtain ⟨i, c, rfl, hc⟩ := nm.get hu
  unfold parA at h
  obtain ⟨h1, h2⟩ := List.mem_filter.mp h
  refine ⟨?_, of_decide_eq_true h2⟩
  cases c with
  | leaf rows =>
    unfold parsOf at h1
    rw [getD_nat hc] at h1
    exact nomatch h1
  | tree es =>
    unfold parsOf at h1
    rw [getD_nat hc] at h1
    exact nomatch h1
  | ver ps r s =>
    rw [parsOf_at hc] at h1
    exact lo i ps r s hc x h1
theorem Lw.near {cs : List Ct} {ns : List Int} {new : Int} (lo : LowP cs) (nm : NmOk cs ns) (hn : new ∈ ns) : ∀ {k : Nat} {x : Int}, RchN cs ns (fun y => y = new) k x → x ∈ ns ∧ x ≤ new ∧ ∃ j : Nat, x + (j : Int) ≤ new ∧ RchN cs ns (fun y => y = new) j x
  | 0, x, h => by
    have h : x = new := h
    subst h
    exact ⟨hn, Int.le_refl _, 0, by omega, rfl⟩
  | k + 1, x, h => by
    rcases h with h | ⟨u, h, hp⟩
    · exact Lw.near lo nm hn h
    · obtain ⟨hu, _, j, hj, r⟩ := Lw.near lo nm hn h
      obtain ⟨lt, hx⟩ := par_low lo nm hu hp
      exact ⟨hx, by omega, j + 1, by omega, .inr ⟨u, r, hp⟩⟩
theorem Lw.at {cs : List Ct} {ns : List Int} {new : Int} (lo : LowP cs) (nm : NmOk cs ns) (few : cs.length ≤ 400) (hn : new ∈ ns) {x : Int} : Lw cs ns new x ↔ RchN cs ns (fun y => y = new) 400 x := by
  refine ⟨fun ⟨k, r⟩ => ?_, fun r => ⟨_, r⟩⟩
  obtain ⟨hx, _, j, hj, q⟩ := Lw.near lo nm hn r
  have h1 := nm x hx
  have h2 := nm new hn
  exact RchN.le (by omega) q
theorem Lw.ver [HasW] {K : PySem.W.Frag} {H : Hp} {b : BkA} {cs : List Ct} {as : List Addr} {ns : List Int} {new : Int} (bk : BkAt K H b cs as) (lo : LowP cs) (nm : NmOk cs ns) (hn : new ∈ ns) (hv : isV cs new = true) : ∀ {k : Nat} {x : Int}, RchN cs ns (fun y => y = new) k x → isV cs x = true
  | 0, x, h => by
    have h : x = new := h
    rw [h]
    exact hv
  | k + 1, x, h => by
    rcases h with h | ⟨u, h, hp⟩
    · exact Lw.ver bk lo nm hn hv h
    · have hu := Lw.ver bk lo nm hn hv h
      obtain ⟨hun, _⟩ := Lw.near lo nm hn h
      obtain ⟨i, ps, r', s', rfl, hc, _, hps⟩ := ver_of bk nm hun hu
      unfold parA at hp
      have hm := (List.mem_filter.mp hp).1
      rw [parsOf_at hc] at hm
      exact hps x hm
/-- is an edge: a parent is not held -/
def brim (cs : List Ct) (ns : List Int) (v : Int) : Bool := !(parsOf cs v).all fun p => decide (p ∈ ns)
structure WalkB (cs : List Ct) (ns : List Int) (old new : Int) (ws : List Int) : Prop where
  fst : ws[0]? = some new
  lst : ws[ws.length - 1]? = some old
  all : ∀ x ∈ ws, x ∈ ns ∧ isV cs x = true
  st : ∀ (i : Nat) (u x : Int), ws[i]? = some u → ws[i + 1]? = some x → x ∈ parsOf cs u
  few : ws.length ≤ 1000
/-- the way told: ahead, with a walk, or apart, with all that new is at or after, and its edges -/
def WayA (H : Hp) (q : Addr) (cs : List Ct) (ns : List Int) (old new : Int) : Prop :=
  (Lw cs ns new old ∧ ∃ (w : Addr) (ws : List Int), H q = some (.tup [.str "ahead", .ref w]) ∧ H w = some (.tup (ws.map V.int)) ∧ WalkB cs ns old new ws) ∨
  (¬ Lw cs ns new old ∧ ∃ (v e : Addr) (ks : List Int), H q = some (.tup [.str "apart", .ref v, .ref e]) ∧ H v = some (.tup (ks.map V.int)) ∧ H e = some (.tup ((ks.filter (brim cs ns)).map V.int)) ∧ ks.Pairwise (· < ·) ∧ (∀ x, x ∈ ks ↔ Lw cs ns new x) ∧ (∀ x ∈ ks, x ∈ ns ∧ isV cs x = true) ∧ ks.length ≤ 400)
theorem WayA.same {H H' : Hp} {q : Addr} {cs : List Ct} {ns : List Int} {old new : Int} (h : WayA H q cs ns old new) (s : Same H H') : WayA H' q cs ns old new := by
  rcases h with ⟨l, w, ws, h1, h2, h3⟩ | ⟨l, v, e, ks, h1, h2, h3, h4⟩
  · exact .inl ⟨l, w, ws, s _ _ h1, s _ _ h2, h3⟩
  · exact .inr ⟨l, v, e, ks, s _ _ h1, s _ _ h2, s _ _ h3, h4⟩
section
variable [HasW]
def sp_followed (_ : PySem.W.Frag) : Sp := fun vs H Q _ => ∃ (S : Addr) (v : Int) (ks : List Int) (f : Int → Option Int), vs = [.ref S, .int v] ∧ H S = some (.dK (AbvD ks f)) ∧ v ∈ ks ∧ ks.Nodup ∧ ks.length ≤ 999 ∧ (∀ x u, f x = some u → Bef ks u x) ∧
  ∀ (W : Addr) (wk : List Int) (H' : Hp), Same H H' → H W = none → H' W = some (.lst (wk.map V.int)) → wk[0]? = some v → (∀ (i : Nat) (x : Int), wk[i]? = some x → f x = wk[i + 1]?) → (∀ x ∈ wk, x ∈ ks) → wk.length ≤ 1000 → Q (.ref W) H'
def sp_edges_of (K : PySem.W.Frag) : Sp := fun vs H Q _ => ∃ (h : HlA) (b : BkA) (cs : List Ct) (as : List Addr) (ns : List Int) (T : Addr) (ks : List Int), vs = [.ref h.A, .ref T] ∧ HlAt K H h b.B ns ∧ BkAt K H b cs as ∧ NmOk cs ns ∧ H T = some (.tup (ks.map V.int)) ∧ ks.length ≤ 400 ∧ (∀ x ∈ ks, x ∈ ns ∧ isV cs x = true) ∧
  ∀ (e : Addr) (H' : Hp), Same H H' → H' e = some (.tup ((ks.filter (brim cs ns)).map V.int)) → Q (.ref e) H'
def sp_way (K : PySem.W.Frag) : Sp := fun vs H Q _ => ∃ (h : HlA) (b : BkA) (cs : List Ct) (as : List Addr) (ns : List Int) (old new : Int), vs = [.ref h.A, .int old, .int new] ∧ HlAt K H h b.B ns ∧ BkAt K H b cs as ∧ NmOk cs ns ∧ LowP cs ∧ new ∈ ns ∧ isV cs new = true ∧
  ∀ (q : Addr) (H' : Hp), Same H H' → WayA H' q cs ns old new → Q (.ref q) H'
def sp_Holding_holds_version (K : PySem.W.Frag) : Sp := fun vs H Q _ => ∃ (h : HlA) (b : BkA) (cs : List Ct) (as : List Addr) (ns : List Int) (x : Int), vs = [.ref h.A, .int x] ∧ HlAt K H h b.B ns ∧ BkAt K H b cs as ∧ NmOk cs ns ∧ x ∈ ns ∧ isV cs x = true ∧ Q (.bl true) H
def sp_is_walk_back (K : PySem.W.Frag) : Sp := fun vs H Q _ => ∃ (h : HlA) (b : BkA) (cs : List Ct) (as : List Addr) (ns : List Int) (old new : Int) (T : Addr) (ws : List Int), vs = [.ref h.A, .ref T] ∧ HlAt K H h b.B ns ∧ BkAt K H b cs as ∧ NmOk cs ns ∧ H T = some (.tup (ws.map V.int)) ∧ WalkB cs ns old new ws ∧ ∀ H', Same H H' → Q (.bl true) H'
def sp_is_ahead (K : PySem.W.Frag) : Sp := fun vs H Q _ => ∃ (h : HlA) (b : BkA) (cs : List Ct) (as : List Addr) (ns : List Int) (old new : Int) (T : Addr) (ws : List Int), vs = [.ref h.A, .int old, .int new, .ref T] ∧ HlAt K H h b.B ns ∧ BkAt K H b cs as ∧ NmOk cs ns ∧ H T = some (.tup (ws.map V.int)) ∧ WalkB cs ns old new ws ∧ ∀ H', Same H H' → Q (.bl true) H'
def sp_is_apart (K : PySem.W.Frag) : Sp := fun vs H Q _ => ∃ (h : HlA) (b : BkA) (cs : List Ct) (as : List Addr) (ns : List Int) (old new : Int) (v e : Addr) (ks : List Int), vs = [.ref h.A, .int old, .int new, .ref v, .ref e] ∧ HlAt K H h b.B ns ∧ BkAt K H b cs as ∧ NmOk cs ns ∧ H v = some (.tup (ks.map V.int)) ∧ H e = some (.tup ((ks.filter (brim cs ns)).map V.int)) ∧ ks.Pairwise (· < ·) ∧ (∀ x, x ∈ ks ↔ Lw cs ns new x) ∧ (∀ x ∈ ks, x ∈ ns ∧ isV cs x = true) ∧ ks.length ≤ 400 ∧ ¬ Lw cs ns new old ∧ ∀ H', Same H H' → Q (.bl true) H'
def sp_right_way (K : PySem.W.Frag) : Sp := fun vs H Q _ => ∃ (h : HlA) (b : BkA) (cs : List Ct) (as : List Addr) (ns : List Int) (old new : Int) (q : Addr), vs = [.ref h.A, .int old, .int new, .ref q] ∧ HlAt K H h b.B ns ∧ BkAt K H b cs as ∧ NmOk cs ns ∧ WayA H q cs ns old new ∧ ∀ H', Same H H' → Q (.bl true) H'
end
section
variable [HasW] {K : PySem.W.Frag} {vs : List V} {H : Hp} {Q : VK} {E : XK}
theorem len_followed (h : sp_followed K vs H Q E) : vs.length = 2 := by obtain ⟨_, _, _, _, rfl, _⟩ := h; rfl
theorem len_edges_of (h : sp_edges_of K vs H Q E) : vs.length = 2 := by obtain ⟨_, _, _, _, _, _, _, rfl, _⟩ := h; rfl
theorem len_way (h : sp_way K vs H Q E) : vs.length = 3 := by obtain ⟨_, _, _, _, _, _, _, rfl, _⟩ := h; rfl
theorem len_Holding_holds_version (h : sp_Holding_holds_version K vs H Q E) : vs.length = 2 := by obtain ⟨_, _, _, _, _, _, rfl, _⟩ := h; rfl
theorem len_is_walk_back (h : sp_is_walk_back K vs H Q E) : vs.length = 2 := by obtain ⟨_, _, _, _, _, _, _, _, _, rfl, _⟩ := h; rfl
theorem len_is_ahead (h : sp_is_ahead K vs H Q E) : vs.length = 4 := by obtain ⟨_, _, _, _, _, _, _, _, _, rfl, _⟩ := h; rfl
theorem len_is_apart (h : sp_is_apart K vs H Q E) : vs.length = 5 := by obtain ⟨_, _, _, _, _, _, _, _, _, _, rfl, _⟩ := h; rfl
theorem len_right_way (h : sp_right_way K vs H Q E) : vs.length = 4 := by obtain ⟨_, _, _, _, _, _, _, _, rfl, _⟩ := h; rfl
end
section
variable [HasW]
abbrev N_followed : List Str := ["steps", "version", "walk"]
def t_followed (K : PySem.W.Frag) : TS := (tSeq (tAsg (tLst (tCons (tVar 1) tNil)) (gName 2))
    (tSeq (tWhile (tTest (tOp fNotN (tDGet (tVar 0) (tOp (rIx K) (tVar 2) (tUn rNegI (tC (.int 1))))) (tC .non))) (tDrop (tBM K "list" rAppend (tVar 2) (tCons (tDGet (tVar 0) (tOp (rIx K) (tVar 2) (tUn rNegI (tC (.int 1))))) tNil))))
    (tRet (tVar 2))))
abbrev N_edges_of : List Str := ["view", "versions", "version"]
def t_edges_of (K : PySem.W.Frag) : TS := (tRet (tCB (fTupleOf K) (tCons (tLc (iTup K (tVar 1)) (gName 2) (tNot (tB (tMeth (He.ga K "Holding") "has_parents" (sp_Holding_has_parents K) [] E0 (tVar 0) (tCons (tVar 2) tNil)))) (tVar 2) [2]) tNil)))
abbrev N_way : List Str := ["view", "old", "new", "above", "versions"]
def t_way_apart (K : PySem.W.Frag) : TS := (tRet (tTup (tCons (tC (.str "ahead")) (tCons (tCB (fTupleOf K) (tCons (tRevL K (tCall (sp_followed K) [] E0 (tCons (tVar 3) (tCons (tVar 1) tNil)))) tNil)) tNil))))
def t_way_told (K : PySem.W.Frag) : TS := (tSeq (tAsg (tCall (sp_spread K) [] E0 (tCons (tVar 0) (tCons (tTup (tCons (tVar 2) tNil)) (tCons (tC (.int 400)) tNil)))) (gName 3))
    (tSeq (tIfS (tB (tDIn (tVar 1) (tVar 3))) (t_way_apart K) tNext)
    (tSeq (tAsg (tCB (fTupleOf K) (tCons (tCB rSortK (tCons (tVar 3) tNil)) tNil)) (gName 4))
    (tRet (tTup (tCons (tC (.str "apart")) (tCons (tVar 4) (tCons (tCall (sp_edges_of K) [] E0 (tCons (tVar 0) (tCons (tVar 4) tNil))) tNil))))))))
def t_way (K : PySem.W.Frag) : TS := (t_way_told K)
abbrev N_Holding_holds_version : List Str := ["self", "thing"]
def t_Holding_holds_version (K : PySem.W.Frag) : TS := (tRet (tAndV (tMeth (He.ga K "Holding") "holds" (sp_Holding_holds K) [] E0 (tVar 0) (tCons (tVar 1) tNil)) (tOp rEq (tMeth (He.ga K "Book") "kind" (sp_Book_kind K) [] E0 (tFld K (tVar 0) "book") (tCons (tVar 1) tNil)) (tC (.str "version")))))
abbrev N_is_walk_back : List Str := ["view", "thing", "name", "upper", "lower"]
def t_is_walk_back (K : PySem.W.Frag) : TS := (tSeq (tIfS (tOr (tNot (tB (tCB (rIsi K) (tCons (tVar 1) (tCons (tC (.ty "tuple")) tNil))))) (tOr (tTest (tOp rEq (tCB (fLen K) (tCons (tVar 1) tNil)) (tC (.int 0)))) (tNot (tB (tCB (rAll K) (tCons (tLc (iTup K (tVar 1)) (gName 2) tYes (tMeth (He.ga K "Holding") "holds_version" (sp_Holding_holds_version K) [] E0 (tVar 0) (tCons (tVar 2) tNil)) [2]) tNil)))))) (tRet (tC (.bl false))) tNext)
    (tRet (tCB (rAll K) (tCons (tLc (iZipA K (tCons (tVar 1) (tCons (tSl (rSlA K) (tVar 1) (tPart (tC (.int 1))) tNoPart) tNil))) (gTup K 2 (gCons (gName 3) (gCons (gName 4) gNil))) tYes (tOp (rIn K false) (tVar 4) (tMeth (He.ga K "Book") "parents" (sp_Book_parents K) [] E0 (tFld K (tVar 0) "book") (tCons (tVar 3) tNil))) [3, 4]) tNil))))
abbrev N_is_ahead : List Str := ["view", "old", "new", "versions"]
def t_is_ahead (K : PySem.W.Frag) : TS := (tRet (tAndV (tCall (sp_is_walk_back K) [] E0 (tCons (tVar 0) (tCons (tVar 3) tNil))) (tAndV (tOp rEq (tOp (rIx K) (tVar 3) (tC (.int 0))) (tVar 2)) (tOp rEq (tOp (rIx K) (tVar 3) (tUn rNegI (tC (.int 1)))) (tVar 1)))))
abbrev N_is_apart : List Str := ["view", "old", "new", "versions", "edges", "name", "inside", "version", "parent"]
def t_is_apart (K : PySem.W.Frag) : TS := (tSeq (tIfS (tOr (tNot (tB (tCall (sp_is_rising K) [] E0 (tCons (tVar 3) tNil)))) (tOr (tNot (tB (tCall (sp_is_rising K) [] E0 (tCons (tVar 4) tNil)))) (tNot (tB (tCB (rAll K) (tCons (tLc (iTup K (tVar 3)) (gName 5) tYes (tMeth (He.ga K "Holding") "holds_version" (sp_Holding_holds_version K) [] E0 (tVar 0) (tCons (tVar 5) tNil)) [5]) tNil)))))) (tRet (tC (.bl false))) tNext)
    (tSeq (tAsg (tDc (iTup K (tVar 3)) (gName 7) tYes (tVar 7) (tC (.bl true)) [7]) (gName 6))
    (tSeq (tIfS (tOr (tB (tDNotIn (tVar 2) (tVar 6))) (tB (tDIn (tVar 1) (tVar 6)))) (tRet (tC (.bl false))) tNext)
    (tSeq (tIfS (tNot (tB (tCB (rAll K) (tCons (tLc2 (iTup K (tVar 3)) (gName 7) tYes (iList K (tMeth (He.ga K "Holding") "held_parents" (sp_Holding_held_parents K) [] E0 (tVar 0) (tCons (tVar 7) tNil))) (gName 8) tYes (tDIn (tVar 8) (tVar 6)) [7, 8] [8]) tNil)))) (tRet (tC (.bl false))) tNext)
    (tRet (tOp (rEqD K) (tVar 4) (tCall (sp_edges_of K) [] E0 (tCons (tVar 0) (tCons (tVar 3) tNil)))))))))
abbrev N_right_way : List Str := ["view", "old", "new", "thing"]
def t_right_way (K : PySem.W.Frag) : TS := (tSeq (tIfS (tOr (tNot (tB (tCB (rIsi K) (tCons (tVar 3) (tCons (tC (.ty "tuple")) tNil))))) (tTest (tOp rEq (tCB (fLen K) (tCons (tVar 3) tNil)) (tC (.int 0))))) (tRet (tC (.bl false))) tNext)
    (tSeq (tIfS (tTest (tOp rEq (tOp (rIx K) (tVar 3) (tC (.int 0))) (tC (.str "ahead")))) (tRet (tAndV (tOp rEq (tCB (fLen K) (tCons (tVar 3) tNil)) (tC (.int 2))) (tCall (sp_is_ahead K) [] E0 (tCons (tVar 0) (tCons (tVar 1) (tCons (tVar 2) (tCons (tOp (rIx K) (tVar 3) (tC (.int 1))) tNil))))))) tNext)
    (tRet (tAndV (tOp rEq (tOp (rIx K) (tVar 3) (tC (.int 0))) (tC (.str "apart"))) (tAndV (tOp rEq (tCB (fLen K) (tCons (tVar 3) tNil)) (tC (.int 3))) (tCall (sp_is_apart K) [] E0 (tCons (tVar 0) (tCons (tVar 1) (tCons (tVar 2) (tCons (tOp (rIx K) (tVar 3) (tC (.int 1))) (tCons (tOp (rIx K) (tVar 3) (tC (.int 2))) tNil)))))))))))
end
section
variable [HasW] {K : PySem.W.Frag} {vs : List V} {H : Hp} {Q : VK} {E : XK}
def lastW (W : Addr) (ks : List Int) (H : Hp) : Nat := match H W with
  | some (.lst xs) => match xs.getLastD .non with
    | V.int i => ks.idxOf i
    | _ => 0
  | _ => 0
theorem pure_followed (h : sp_followed K vs H Q E) : t_followed K { nx := fun _ H' => Q .non H', rt := Q } (start N_followed vs) H := by
  obtain ⟨S, v, ks, f, rfl, hS, hv, nd, few, hst, k⟩ := h
  refine ⟨_, rfl, by show (1 : Nat) ≤ sizeLine; decide, fun W nW => ?_⟩
  have nSW : S ≠ W := ne_of_none hS nW
  show tSeq (tWhile _ _) _ _ [some (.ref S), some (.int v), some (.ref W)] _
  have lastOf : ∀ (ys : List Int) (l : Int) (H' : Hp), H' W = some (.lst ((ys ++ [l]).map V.int)) → lastW W ks H' = ks.idxOf l := fun ys l H' e => by
    unfold lastW
    rw [e]
    simp
  refine while_by (fun σ H' => ∃ (ys : List Int) (l : Int), σ = [some (.ref S), some (.int v), some (.ref W)] ∧ Same H H' ∧ H' W = some (.lst ((ys ++ [l]).map V.int)) ∧ l ∈ ks ∧ (∀ y ∈ ys, y ∈ ks) ∧ (ys ++ [l])[0]? = some v ∧ (∀ i x, ys[i]? = some x → f x = (ys ++ [l])[i + 1]?) ∧ ys.length + ks.idxOf l ≤ ks.length) (fun _ H' => lastW W ks H') ⟨[], v, rfl, samN nW, updS, hv, (fun _ z => nomatch z), rfl, (fun i x h => by cases h), by rw [List.length_nil]; have := List.idxOf_lt_length_iff.mpr hv; omega⟩ ?_ ?_
  · rintro σ H1 ⟨ys, l, rfl, s1, hW, hl, hys, h0, hn, hle⟩
    have el : atI ((ys ++ [l]).map V.int) (-1) = some (.int l) := by
      rw [List.map_append, List.map_singleton]
      exact at_last
    have gv : some (ovA (f l)) = valV (AbvD ks f) (.inl l) := by rw [AbvD_val, if_pos hl]
    refine ⟨_, rfl, _, rfl, _, rfl, ixL hW el ⟨S, ovA (f l), rfl, .inl ⟨AbvD ks f, .inl l, .inl (s1 _ _ hS), rfl, gv⟩, ?_⟩⟩
    cases eo : f l with
    | none =>
      refine ⟨rfl, _, rfl, iteF ⟨_, rfl, k W (ys ++ [l]) H1 s1 nW hW h0 (fun i x hx => ?_) (fun x hx => (List.mem_append.mp hx).elim (hys x) fun z => by rw [List.mem_singleton.mp z]; exact hl) ?_⟩⟩
      · by_cases hi : i < ys.length
        · rw [List.getElem?_append_left hi] at hx
          exact hn i x hx
        · have hi2 := (List.getElem?_eq_some_iff.mp hx).1
          rw [List.length_append, List.length_singleton] at hi2
          have e0 : i - ys.length = 0 := by omega
          rw [List.getElem?_append_right (by omega), e0] at hx
          cases Option.some.inj hx
          rw [eo, List.getElem?_eq_none_iff.mpr (by rw [List.length_append, List.length_singleton]; omega)]
      · rw [List.length_append, List.length_singleton]
        omega
    | some u =>
      have bf := hst l u eo
      have hu := bf.mem.2
      have hlt := bf.idx nd
      rw [eo] at gv
      refine ⟨rfl, _, rfl, iteT ⟨_, rfl, .inl ⟨rfl, _, sqL hW⟩, _, rfl, _, rfl, _, rfl, ixL hW el ⟨S, .int u, rfl, .inl ⟨AbvD ks f, .inl l, .inl (s1 _ _ hS), rfl, gv⟩, W, _, _, rfl, rfl, hW, ?_, ?_⟩⟩⟩
      · rw [List.length_map, List.length_append, List.length_singleton]
        exact Nat.lt_of_le_of_lt (show ys.length + 1 ≤ 2000 by omega) (by decide)
      have eL : (ys ++ [l]).map V.int ++ [V.int u] = (ys ++ [l] ++ [u]).map V.int := by rw [List.map_append (l₁ := ys ++ [l])]; rfl
      rw [eL]
      refine ⟨⟨ys ++ [l], u, rfl, Same.updA s1 nW, updS, hu, (fun x hx => (List.mem_append.mp hx).elim (hys x) fun z => by rw [List.mem_singleton.mp z]; exact hl), ?_, fun i x hx => ?_, by rw [List.length_append, List.length_singleton]; omega⟩, ?_⟩
      · rw [List.getElem?_append_left (by rw [List.length_append, List.length_singleton]; omega)]
        exact h0
      · by_cases hi : i < ys.length
        · rw [List.getElem?_append_left hi] at hx
          rw [hn i x hx, List.getElem?_append_left (l₁ := ys ++ [l]) (by rw [List.length_append, List.length_singleton]; omega)]
        · have hi2 := (List.getElem?_eq_some_iff.mp hx).1
          rw [List.length_append, List.length_singleton] at hi2
          have e0 : i - ys.length = 0 := by omega
          rw [List.getElem?_append_right (by omega), e0] at hx
          cases Option.some.inj hx
          have e1 : i + 1 - (ys ++ [l]).length = 0 := by rw [List.length_append, List.length_singleton]; omega
          rw [eo, List.getElem?_append_right (by rw [List.length_append, List.length_singleton]; omega), e1]
          rfl
      · show lastW W ks _ < lastW W ks H1
        rw [lastOf ys l H1 hW, lastOf (ys ++ [l]) u _ updS]
        exact hlt
  · intro σ H Q Q' f h
    obtain ⟨v, e, w, e2, u, e3, h⟩ := h
    refine ⟨v, e, w, e2, u, e3, ix_mono (fun y H1 q => ?_) h⟩
    obtain ⟨a2, o, q5, q6, q7, b2, q8, q9⟩ := q
    exact ⟨a2, o, q5, q6, q7, b2, q8, f _ _ q9⟩
theorem pure_edges_of (h : sp_edges_of K vs H Q E) : t_edges_of K { nx := fun _ H' => Q .non H', rt := Q } (start N_edges_of vs) H := by
  obtain ⟨h, b, cs, as, ns, T, ks, rfl, hl, bk, nm, hT, few, hk, k⟩ := h
  refine ⟨_, rfl, T, rfl, ⟨_, sqT hT⟩, fun L nL => ?_⟩
  refine lc_filt (walk_tup (xs := ks.map V.int)) (fun i H x H' hy => hy) (p := brim cs ns) (by show 2 < 3; decide) nL (by rw [List.length_map]) (by rw [List.length_map]; omega) (fun H' s => sqT (s _ _ hT)) ?_ ?_
  · intro v H' R hv s r
    obtain ⟨hvn, hvv⟩ := hk v hv
    obtain ⟨i, ps, r0, s0, rfl, hc, _, _⟩ := ver_of bk nm hvn hvv
    have hl' := hl.same s
    refine hl'.me rfl rfl ⟨_, rfl, h, b, cs, as, ns, i, ps, r0, s0, rfl, hl', bk.same s, hc, fun H'' s2 => ⟨_, rfl, ?_⟩⟩
    have := r H'' s2
    unfold brim at this
    rw [parsOf_at hc] at this
    exact this
  · intro H1 s1 hL
    exact ⟨L, _, rfl, .inl ⟨sqL hL, fun p np => k p _ (s1.trans (samN np)) updS⟩⟩
theorem pure_Holding_holds_version (h : sp_Holding_holds_version K vs H Q E) : t_Holding_holds_version K { nx := fun _ H' => Q .non H', rt := Q } (start N_Holding_holds_version vs) H := by
  obtain ⟨h, b, cs, as, ns, x, rfl, hl, bk, nm, hx, hv, k⟩ := h
  obtain ⟨i, c, rfl, hc⟩ := nm.get hx
  have hw : c.word = "version" := by rw [isV_at hc] at hv; exact of_decide_eq_true hv
  dsimp only [t_Holding_holds_version, tRet, tAndV]
  refine hl.me rfl rfl ⟨_, rfl, h, b.B, ns, _, rfl, hl, .inl ⟨_, rfl, ?_⟩⟩
  rw [decide_eq_true hx]
  refine ⟨true, rfl, ?_⟩
  rw [if_pos rfl]
  dsimp only [tOp, tMeth]
  refine hl.fB rfl ?_
  refine bk.meF (m := "kind") (by decide) ?_
  refine ⟨_, rfl, b, cs, as, i, c, rfl, bk, hc, ?_⟩
  refine ⟨rfl, ?_⟩
  rw [hw]
  exact k
theorem pure_way (h : sp_way K vs H Q E) : t_way K { nx := fun _ H' => Q .non H', rt := Q } (start N_way vs) H := by
  obtain ⟨h, b, cs, as, ns, old, new, rfl, hl, bk, nm, lo, hn, hv, k⟩ := h
  refine ⟨_, rfl, _, rfl, by show (1 : Nat) ≤ sizeLine; decide, fun T nT => ?_⟩
  have sT : Same H (upd H T (.tup [.int new])) := samN nT
  refine ⟨h, b, cs, as, ns, T, [new], 400, rfl, hl.same sT, bk.same sT, nm, updS, by show (1 : Nat) < 64; decide, (fun x hx _ => by rw [List.mem_singleton.mp hx]; exact hv), fun D ks f H1 s1 nD hD ok => ?_⟩
  have s01 := sT.trans s1
  have eS : ∀ x, (x ∈ [new] ∧ x ∈ ns) ↔ x = new := fun x => ⟨fun h => List.mem_singleton.mp h.1, fun e => ⟨List.mem_singleton.mpr e, by rw [e]; exact hn⟩⟩
  have mem : ∀ x, x ∈ ks ↔ Lw cs ns new x := fun x => by rw [ok.mem x, RchN.congr eS, Lw.at lo nm bk.few hn]
  have all : ∀ x ∈ ks, x ∈ ns ∧ isV cs x = true := fun x hx => by
    obtain ⟨j, r⟩ := (mem x).mp hx
    exact ⟨(Lw.near lo nm hn r).1, Lw.ver bk lo nm hn hv r⟩
  have lk : ks.length ≤ 400 := Nat.le_trans (len_subA ok.nd fun x hx => (all x hx).1) hl.few
  refine ⟨_, rfl, _, rfl, D, _, rfl, DGet.k (k := Sum.inl old) hD, _, rfl, ?_⟩
  rw [AbvD_some]
  refine ite2 (fun e => ?_) (fun e => ?_)
  · have hin : old ∈ ks := of_decide_eq_true e
    refine ⟨_, rfl, _, rfl, D, old, ks, f, rfl, hD, hin, ok.nd, by omega, fun x u e => (ok.up x u e).2, fun W wk H2 s2 nW hW h0 hf hm lw => ⟨W, _, rfl, sqL hW, fun p np => ⟨p, _, rfl, .inl ⟨sqL updS, fun t nt => ⟨by show (2 : Nat) ≤ sizeLine; decide, fun q nq => ?_⟩⟩⟩⟩⟩
    rw [← List.map_reverse] at nt nq ⊢
    have s3 : Same H2 (upd H2 p (.lst (wk.reverse.map V.int))) := samN np
    have s4 : Same (upd H2 p (.lst (wk.reverse.map V.int))) (upd (upd H2 p (.lst (wk.reverse.map V.int))) t (.tup (wk.reverse.map V.int))) := samN nt
    have s5 : Same (upd (upd H2 p (.lst (wk.reverse.map V.int))) t (.tup (wk.reverse.map V.int))) (upd (upd (upd H2 p (.lst (wk.reverse.map V.int))) t (.tup (wk.reverse.map V.int))) q (.tup [.str "ahead", .ref t])) := samN nq
    have pos : 0 < wk.length := (List.getElem?_eq_some_iff.mp h0).1
    refine k q _ (s01.trans (s2.trans (s3.trans (s4.trans s5)))) (.inl ⟨(mem old).mp hin, t, wk.reverse, updS, s5 _ _ updS, ?_, ?_, ?_, ?_, ?_⟩)
    · rw [List.getElem?_reverse pos, Nat.sub_zero]
      have ez : wk[wk.length - 1]? = some wk[wk.length - 1] := List.getElem?_eq_getElem (by omega)
      rw [ez]
      have hz := hf _ _ ez
      rw [List.getElem?_eq_none_iff.mpr (by omega)] at hz
      have := (ok.src _ (hm _ (List.getElem_mem _))).mp hz
      rw [(eS _).mp this]
    · rw [List.length_reverse, List.getElem?_reverse (by omega), Nat.sub_self]
      exact h0
    · exact fun x hx => all x (hm x (List.mem_reverse.mp hx))
    · intro i u x hu hx
      have hi := (List.getElem?_eq_some_iff.mp hx).1
      rw [List.length_reverse] at hi
      rw [List.getElem?_reverse (by omega)] at hu hx
      have := hf _ _ hx
      rw [show wk.length - 1 - (i + 1) + 1 = wk.length - 1 - i by omega, hu] at this
      exact (List.mem_filter.mp (ok.up x u this).1).1
    · rw [List.length_reverse]
      exact lw
  · have hout : old ∉ ks := fun z => e (decide_eq_true z)
    refine ⟨_, rfl, D, AbvD ks f, ks, rfl, hD, AbvD_keys ks f, fun ms R pm inc nR => ⟨R, _, rfl, .inl ⟨sqL updS, fun t nt => ?_⟩⟩⟩
    have s2 : Same H1 (upd H1 R (.lst (ms.map V.int))) := samN nR
    have s3 : Same (upd H1 R (.lst (ms.map V.int))) (upd (upd H1 R (.lst (ms.map V.int))) t (.tup (ms.map V.int))) := samN nt
    have sA := s01.trans (s2.trans s3)
    have lt := perm_lt pm inc ok.nd
    have lm : ms.length ≤ 400 := by rw [pm.length_eq]; exact lk
    have allm : ∀ x ∈ ms, x ∈ ns ∧ isV cs x = true := fun x hx => all x (pm.mem_iff.mp hx)
    refine ⟨_, rfl, _, rfl, _, rfl, h, b, cs, as, ns, t, ms, rfl, hl.same sA, bk.same sA, nm, updS, lm, allm, fun e H2 s4 he => ⟨by show (3 : Nat) ≤ sizeLine; decide, fun q nq => ?_⟩⟩
    have s5 : Same H2 (upd H2 q (.tup [.str "apart", .ref t, .ref e])) := samN nq
    exact k q _ (sA.trans (s4.trans s5)) (.inr ⟨fun z => hout ((mem old).mpr z), t, e, ms, updS, s5 _ _ (s4 _ _ updS), s5 _ _ he, lt, fun x => pm.mem_iff.trans (mem x), allm, lm⟩)
theorem pure_is_walk_back (h : sp_is_walk_back K vs H Q E) : t_is_walk_back K { nx := fun _ H' => Q .non H', rt := Q } (start N_is_walk_back vs) H := by
  obtain ⟨h, b, cs, as, ns, old, new, T, ws, rfl, hl, bk, nm, hT, w, k⟩ := h
  have pos : 0 < ws.length := (List.getElem?_eq_some_iff.mp w.fst).1
  have few := w.few
  refine ⟨_, rfl, isi (.base (.tup hT)) k_tt ⟨_, rfl, iteF ⟨_, rfl, lenT hT ⟨rfl, _, rfl, ?_⟩⟩⟩⟩
  rw [decide_eq_false (fun z => by
    have := V.int.inj z
    rw [List.length_map] at this
    omega)]
  refine iteF ⟨_, rfl, T, rfl, ⟨_, sqT hT⟩, fun L nL => ?_⟩
  refine lc_grow (walk_tup (xs := ws.map V.int)) yAt (ys := List.replicate ws.length (.bl true)) nL (by rw [List.length_replicate, List.length_map]) (by rw [List.length_map]; omega) (fun H' s => sqT (s _ _ hT)) ?_ ?_
  · rintro i x y H' R hi ⟨_, hx⟩ hy s q
    rw [List.getElem?_map] at hx
    cases e : ws[i]? with
    | none => rw [e] at hx; cases hx
    | some n =>
      rw [e] at hx
      cases Option.some.inj hx
      rw [List.getElem?_replicate, if_pos (List.getElem?_eq_some_iff.mp e).1] at hy
      cases Option.some.inj hy
      obtain ⟨h1, h2⟩ := w.all n (List.mem_of_getElem? e)
      exact ⟨rfl, (hl.same s).me rfl rfl ⟨_, rfl, h, b, cs, as, ns, n, rfl, hl.same s, bk.same s, nm, h1, h2, q _ (Same.refl _)⟩⟩
  intro H1 s1 hL
  refine ⟨L, List.replicate ws.length true, rfl, sqL (by rw [hL, List.map_replicate]), ?_⟩
  rw [all_rep]
  refine ⟨_, rfl, iteF ?_⟩
  have hT1 := s1 _ _ hT
  have hl1 := hl.same s1
  have bk1 := bk.same s1
  have main : ∀ (q : Addr) (H2 : Hp), Same H1 H2 → H2 q = some (.tup ((ws.map V.int).drop 1)) → ∀ D, H2 D = none → ∃ W : Nat → Nat → Hp → Prop, (∃ m, W 0 m (upd H2 D (.lst []))) ∧ ∀ i m H, W i m H →
      ((ItzT K T q).stop i H ∧ tNil (start N_is_walk_back [V.ref h.A, V.ref T]) H fun ys H2 => rAll K (.ref D :: ys) H2 Q) ∨ ((ItzT K T q).go i H ∧ ∃ Nx : Hp → Prop, (∀ H', Nx H' → ∃ m', m' < m ∧ W (i + 1) m' H') ∧ ∀ x H', (ItzT K T q).yld i H x H' → gTup K 2 (gCons (gName 3) (gCons (gName 4) gNil)) x (wipe (start N_is_walk_back [V.ref h.A, V.ref T]) [3, 4]) H' fun σ2 H2 => wipe σ2 [3, 4] = wipe (start N_is_walk_back [V.ref h.A, V.ref T]) [3, 4] ∧ tYes σ2 H2 fun b H3 =>
        if b = true then tOp (rIn K false) (tVar 4) (tMeth (He.ga K "Book") "parents" (sp_Book_parents K) [] E0 (tFld K (tVar 0) "book") (tCons (tVar 3) tNil)) σ2 H3 fun y H4 => ∃ acc, H4 D = some (.lst acc) ∧ acc.length < sizeLine ∧ Nx (upd H4 D (.lst (acc ++ [y]))) else Nx H3) := by
    intro q H2 s2 hq D nD
    refine lcz_tup (K := K) (a := T) (b := q) (xs := ws.map V.int) (ys := (ws.map V.int).drop 1) (ws.length - 1) (by rw [List.length_drop, List.length_map]; omega) (fun i H3 => Same H2 H3 ∧ H3 D = some (.lst (List.replicate i (.bl true)))) ⟨samN nD, updS⟩ (fun i H3 s3 => ⟨sqT (s3.1 _ _ (s2 _ _ hT1)), sqT (s3.1 _ _ hq)⟩) (fun i x y T' H3 hx hy s3 nT => ?_) (fun H3 s3 => ?_)
    · rw [List.getElem?_drop, Nat.add_comm] at hy
      rw [List.getElem?_map] at hx hy
      cases eu : ws[i]? with
      | none => rw [eu] at hx; cases hx
      | some u =>
      cases ev : ws[i + 1]? with
      | none => rw [ev] at hy; cases hy
      | some v =>
      rw [eu] at hx
      rw [ev] at hy
      cases Option.some.inj hx
      cases Option.some.inj hy
      have hi := (List.getElem?_eq_some_iff.mp ev).1
      have nTD : D ≠ T' := ne_of_none s3.2 nT
      have sT : Same H2 (upd H3 T' (.tup [.int u, .int v])) := fun b o e => updN (ne_of_none (s3.1 _ _ e) nT) (s3.1 _ _ e)
      have hlT := hl1.same (s2.trans sT)
      have bkT := bk1.same (s2.trans sT)
      obtain ⟨h1, h2⟩ := w.all u (List.mem_of_getElem? eu)
      have hin := w.st i u v eu ev
      obtain ⟨j, ps, r, st, rfl, hc, lp, _⟩ := ver_of bk nm h1 h2
      rw [parsOf_at hc] at hin
      refine ⟨T', _, rfl, sqT updS, rfl, _, _, rfl, _, [], rfl, rfl, rfl, ?_⟩
      dsimp only [tYes]
      rw [if_pos rfl]
      refine ⟨_, rfl, ?_⟩
      dsimp only [tMeth]
      refine hlT.fB rfl ?_
      refine bkT.meF (m := "parents") (by decide) ?_
      refine ⟨_, rfl, b, cs, as, j, ps, r, st, rfl, bkT, hc, fun p hp => ?_⟩
      refine ⟨p, _, rfl, .inr (sqT hp), rfl, fl_ints _, ?_⟩
      rw [if_neg (by decide), i_ints, decide_eq_true hin]
      refine ⟨_, updN nTD s3.2, ?_, fun b o e => updN (ne_of_none e nD) (sT _ _ e), ?_⟩
      · rw [List.length_replicate]
        exact Nat.lt_of_le_of_lt (show i ≤ 1000 by omega) (by decide)
      · rw [updS, List.replicate_succ']
    · refine ⟨D, List.replicate (ws.length - 1) true, rfl, sqL (by rw [s3.2, List.map_replicate]), ?_⟩
      rw [all_rep]
      exact k _ (s1.trans (s2.trans s3.1))
  refine ⟨_, rfl, _, rfl, _, rfl, T, _, rfl, sqT hT1, fun e => ?_, fun e q nq => ?_⟩
  · exfalso
    have e1 := e.1
    rw [show HT.sIx (ws.map V.int).length 0 (some 1) = min 1 (ws.map V.int).length from HT.sIx_nat _ 0 1] at e1
    rw [List.length_map] at e1
    omega
  · have s2 : Same H1 (upd H1 q (.tup (cutV (ws.map V.int) (some 1) none))) := samN nq
    exact ⟨T, q, _, _, rfl, .inr ⟨sqT (s2 _ _ hT1), sqT updS, main q _ s2 (by rw [updS, drop1])⟩⟩
theorem pure_is_ahead (h : sp_is_ahead K vs H Q E) : t_is_ahead K { nx := fun _ H' => Q .non H', rt := Q } (start N_is_ahead vs) H := by
  obtain ⟨h, b, cs, as, ns, old, new, T, ws, rfl, hl, bk, nm, hT, w, k⟩ := h
  have pos : 0 < ws.length := (List.getElem?_eq_some_iff.mp w.fst).1
  refine ⟨_, rfl, _, rfl, h, b, cs, as, ns, old, new, T, ws, rfl, hl, bk, nm, hT, w, fun H1 s1 => ?_⟩
  have hT1 := s1 _ _ hT
  refine ⟨_, rfl, ?_⟩
  rw [if_pos rfl]
  have e0 : atI (ws.map V.int) 0 = some (.int new) := (atI_nat (j := 0) (by rw [List.getElem?_map, w.fst]; rfl))
  refine ⟨_, rfl, ixT hT1 e0 ⟨_, rfl, rfl, ?_⟩⟩
  have split : ws = ws.dropLast ++ [old] := by
    have := List.dropLast_concat_getLast (l := ws) (List.length_pos_iff.mp pos)
    rw [List.getLast_eq_getElem] at this
    have e := w.lst
    rw [List.getElem?_eq_getElem (by omega)] at e
    rw [Option.some.inj e] at this
    exact this.symm
  have e1 : atI (ws.map V.int) (-1) = some (.int old) := by
    rw [split, List.map_append, List.map_singleton]
    exact at_last
  refine ⟨_, rfl, ?_⟩
  rw [decide_eq_true rfl, if_pos rfl]
  refine ⟨_, rfl, _, rfl, ixT hT1 e1 ⟨_, rfl, rfl, ?_⟩⟩
  rw [decide_eq_true rfl]
  exact k _ s1
theorem ints_eqD {e e' : Addr} {xs : List Int} (h : H e = some (.tup (xs.map V.int))) (h' : H e' = some (.tup (xs.map V.int))) (q : Q (.bl true) H) : rEqD K (.ref e) (.ref e') H Q := by
  have sh : SeqAt.shaped (.tuple (xs.map PyData.int)) = true := by
    have := dep_flatC (f := PyData.int) (fun z => by show (0 : Nat) ≤ 1; decide) xs
    show (PyData.canLayAll0 (xs.map PyData.int) && decide (PyData.depthAll (xs.map PyData.int) + 1 ≤ 64)) = true
    rw [lay_intsC, decide_eq_true (by omega)]
    rfl
  refine ⟨_, _, .tup (sqT h) (dp_intsD xs), .tup (sqT h') (dp_intsD xs), sh, sh, ?_⟩
  have : PyData.eqv (.tuple (xs.map PyData.int)) (.tuple (xs.map PyData.int)) = true := by
    show PyData.eqvAll (xs.map PyData.int) (xs.map PyData.int) = true
    rw [eqv_intsC, decide_eq_true rfl]
  rw [this]
  exact q
theorem pure_is_apart (h : sp_is_apart K vs H Q E) : t_is_apart K { nx := fun _ H' => Q .non H', rt := Q } (start N_is_apart vs) H := by
  obtain ⟨h, b, cs, as, ns, old, new, v, e, ks, rfl, hl, bk, nm, hv, he, lt, mem, all, few, out, k⟩ := h
  have lf : (ks.filter (brim cs ns)).Pairwise (· < ·) := lt.sublist List.filter_sublist
  have ll : (ks.filter (brim cs ns)).length ≤ ks.length := List.length_filter_le _ _
  have l0 : (ks.map V.int).length = ks.length := List.length_map ..
  refine ⟨_, rfl, v, ks, rfl, hv, by omega, lt, fun H1 s1 => ⟨_, rfl, iteF ⟨_, rfl, e, _, rfl, s1 _ _ he, by omega, lf, fun H2 s2 => ⟨_, rfl, iteF ⟨_, rfl, v, rfl, ⟨_, sqT (s2 _ _ (s1 _ _ hv))⟩, fun L nL => ?_⟩⟩⟩⟩⟩
  have s12 := s1.trans s2
  refine lc_grow (walk_tup (xs := ks.map V.int)) yAt (ys := List.replicate ks.length (.bl true)) nL (by rw [List.length_replicate, List.length_map]) (by omega) (fun H' s => sqT (s _ _ (s12 _ _ hv))) ?_ ?_
  · rintro i x y H' R hi ⟨_, hx⟩ hy s q
    rw [List.getElem?_map] at hx
    cases e : ks[i]? with
    | none => rw [e] at hx; cases hx
    | some n =>
      rw [e] at hx
      cases Option.some.inj hx
      rw [List.getElem?_replicate, if_pos (List.getElem?_eq_some_iff.mp e).1] at hy
      cases Option.some.inj hy
      obtain ⟨h1, h2⟩ := all n (List.mem_of_getElem? e)
      have hlx := hl.same (s12.trans s)
      exact ⟨rfl, hlx.me rfl rfl ⟨_, rfl, h, b, cs, as, ns, n, rfl, hlx, bk.same (s12.trans s), nm, h1, h2, q _ (Same.refl _)⟩⟩
  intro H3 s3 hL
  refine ⟨L, List.replicate ks.length true, rfl, sqL (by rw [hL, List.map_replicate]), ?_⟩
  rw [all_rep]
  have s13 := s12.trans s3
  have hv3 := s13 _ _ hv
  refine ⟨_, rfl, iteF ⟨_, rfl, v, rfl, ⟨_, sqT hv3⟩, fun F nF => ?_⟩⟩
  have nvF : v ≠ F := ne_of_none hv3 nF
  have nd := lt_nodupA lt
  refine walk_W (walk_tup (K := K) (a := v) (xs := ks.map V.int)) (fun i H' => H' = upd H3 F (.dK (nmD (ks.take i)))) rfl (fun i H' _ e => by rw [e]; exact sqT (updN nvF hv3)) ?_ ?_
  · rintro i x H' H'' hi rfl ⟨rfl, hx⟩
    rw [l0] at hi
    have hq : ks[i]? = some ks[i] := List.getElem?_eq_getElem hi
    rw [List.getElem?_map, hq] at hx
    cases Option.some.inj hx
    have eT : ks.take (i + 1) = ks.take i ++ [ks[i]] := by rw [List.take_succ, hq]; rfl
    refine ⟨rfl, ?_⟩
    dsimp only [tYes]
    rw [if_pos rfl]
    refine ⟨_, rfl, nmD (ks.take i), Sum.inl ks[i], rfl, updS, ?_, ?_⟩
    · rw [List.length_map, List.length_take]
      exact Nat.lt_of_le_of_lt (show _ ≤ 1000 by omega) (by decide)
    · rw [upd_upd, nmD_put, ← eT]
      have nd1 := nd.sublist (List.take_sublist (i + 1) ks)
      rw [eT, List.nodup_append] at nd1
      exact fun z => nd1.2.2 _ z _ (List.mem_singleton.mpr rfl) rfl
  rintro H4 e4
  rw [l0, List.take_length] at e4
  have hF : H4 F = some (.dK (nmD ks)) := by rw [e4]; exact updS
  have s4 : Same H3 H4 := by rw [e4]; exact samN nF
  clear e4
  have s14 := s13.trans s4
  have hnew : new ∈ ks := (mem new).mpr ⟨0, rfl⟩
  have hold : old ∉ ks := fun z => out ((mem old).mp z)
  refine ⟨_, rfl, _, rfl, F, _, rfl, DGet.k (k := Sum.inl new) hF, _, rfl, ?_⟩
  rw [nmD_some, decide_eq_true hnew]
  refine iteF ⟨_, rfl, _, rfl, F, _, rfl, DGet.k (k := Sum.inl old) hF, _, rfl, ?_⟩
  rw [nmD_some, decide_eq_false hold]
  refine iteF ?_
  have hv4 := s14 _ _ hv
  refine ⟨_, rfl, v, rfl, ⟨_, sqT hv4⟩, fun M nM => ?_⟩
  have keep : ∀ {H' : Hp} {o : HO}, Same H4 H' → Same H4 (upd H' M o) := fun s b o e => updN (ne_of_none e nM) (s b o e)
  refine walk_W (walk_tup (K := K) (a := v) (xs := ks.map V.int)) (fun i H' => Same H4 H' ∧ ∃ n, n ≤ 4 * i ∧ H' M = some (.lst (List.replicate n (.bl true)))) ⟨samN nM, 0, by omega, updS⟩ (fun i H' _ p => sqT (p.1 _ _ hv4)) ?_ ?_
  · rintro i x H5 H6 hi ⟨s5, n, ln, hM⟩ ⟨rfl, hx⟩
    rw [l0] at hi
    have hq : ks[i]? = some ks[i] := List.getElem?_eq_getElem hi
    rw [List.getElem?_map, hq] at hx
    cases Option.some.inj hx
    have hm : ks[i] ∈ ks := List.getElem_mem hi
    generalize ks[i] = u at hq hm
    obtain ⟨h1, h2⟩ := all u hm
    obtain ⟨j, ps, r, st, rfl, hc, lp, _⟩ := ver_of bk nm h1 h2
    have s15 := s14.trans s5
    have hl5 := hl.same s15
    have bk5 := bk.same s15
    refine ⟨rfl, ?_⟩
    dsimp only [tYes]
    rw [if_pos rfl]
    refine hl5.me rfl rfl ⟨_, rfl, h, b, cs, as, ns, j, ps, r, st, rfl, hl5, bk5, hc, fun P H7 s7 nP hP => ?_⟩
    have epar : parA cs ns (j : Int) = ps.filter fun p => decide (p ∈ ns) := by unfold parA; rw [parsOf_at hc]
    rw [← epar] at hP
    have lq : (parA cs ns (j : Int)).length ≤ 4 := by rw [epar]; exact Nat.le_trans (List.length_filter_le _ _) lp
    have nMP : M ≠ P := ne_of_none hM nP
    have l1 : ((parA cs ns (j : Int)).map V.int).length = (parA cs ns (j : Int)).length := List.length_map ..
    refine ⟨P, rfl, ⟨_, sqL hP⟩, ?_⟩
    refine walk_W (walk_list (K := K) (a := P) (xs := (parA cs ns (j : Int)).map V.int)) (fun l H' => Same H4 H' ∧ H' P = some (.lst ((parA cs ns (j : Int)).map V.int)) ∧ ∃ n, n ≤ 4 * i + l ∧ H' M = some (.lst (List.replicate n (.bl true)))) ⟨s5.trans s7, hP, n, by omega, s7 _ _ hM⟩ (fun l H' _ p => sqL p.2.1) ?_ ?_
    · rintro l x H8 H9 hl8 ⟨s8, hP8, n8, ln8, hM8⟩ ⟨rfl, hx⟩
      rw [l1] at hl8
      have hq2 : (parA cs ns (j : Int))[l]? = some (parA cs ns (j : Int))[l] := List.getElem?_eq_getElem hl8
      rw [List.getElem?_map, hq2] at hx
      cases Option.some.inj hx
      have hp : (parA cs ns (j : Int))[l] ∈ ks := by
        obtain ⟨d, r⟩ := (mem (j : Int)).mp hm
        exact (mem _).mpr ⟨d + 1, .inr ⟨_, r, List.getElem_mem hl8⟩⟩
      refine ⟨rfl, ?_⟩
      dsimp only [tYes]
      rw [if_pos rfl]
      refine ⟨_, rfl, _, rfl, F, _, rfl, DGet.k (k := Sum.inl (parA cs ns (j : Int))[l]) (s8 _ _ hF), ?_⟩
      rw [nmD_some, decide_eq_true hp]
      refine ⟨_, hM8, ?_, keep s8, updN nMP.symm hP8, n8 + 1, by omega, by rw [updS, List.replicate_succ']⟩
      rw [List.length_replicate]
      exact Nat.lt_of_le_of_lt (show n8 ≤ 2000 by omega) (by decide)
    · rintro H8 ⟨s8, _, n8, ln8, hM8⟩
      rw [l1] at ln8
      exact ⟨s8, n8, by omega, hM8⟩
  rintro H5 ⟨s5, n, _, hM⟩
  refine ⟨M, List.replicate n true, rfl, sqL (by rw [hM, List.map_replicate]), ?_⟩
  rw [all_rep]
  have s15 := s14.trans s5
  refine ⟨_, rfl, iteF ⟨_, rfl, _, rfl, _, rfl, h, b, cs, as, ns, v, ks, rfl, hl.same s15, bk.same s15, nm, s15 _ _ hv, few, all, fun e2 H6 s6 he2 => ?_⟩⟩
  exact ints_eqD ((s15.trans s6) _ _ he) he2 (k _ (s15.trans s6))
theorem pure_right_way (h : sp_right_way K vs H Q E) : t_right_way K { nx := fun _ H' => Q .non H', rt := Q } (start N_right_way vs) H := by
  obtain ⟨h, b, cs, as, ns, old, new, q, rfl, hl, bk, nm, w, k⟩ := h
  rcases w with ⟨lw, t, ws, hq, ht, wb⟩ | ⟨lw, v, e, ks, hq, hv, he, lt, mem, all, few⟩
  · refine ⟨_, rfl, isi (.base (.tup hq)) k_tt ⟨_, rfl, iteF ⟨_, rfl, lenT hq ⟨rfl, _, rfl, ?_⟩⟩⟩⟩
    rw [decide_eq_false (by intro z; exact absurd (V.int.inj z) (by show ¬ ((2 : Nat) : Int) = 0; decide))]
    refine iteF ⟨_, rfl, ixT hq rfl ⟨rfl, _, rfl, iteT ⟨_, rfl, lenT hq ⟨rfl, ?_⟩⟩⟩⟩
    refine ⟨true, by rw [decide_eq_true (by rfl)], ?_⟩
    rw [if_pos rfl]
    exact ⟨_, rfl, _, rfl, _, rfl, _, rfl, ixT hq rfl ⟨h, b, cs, as, ns, old, new, t, ws, rfl, hl, bk, nm, ht, wb, k⟩⟩
  · refine ⟨_, rfl, isi (.base (.tup hq)) k_tt ⟨_, rfl, iteF ⟨_, rfl, lenT hq ⟨rfl, _, rfl, ?_⟩⟩⟩⟩
    rw [decide_eq_false (by intro z; exact absurd (V.int.inj z) (by show ¬ ((3 : Nat) : Int) = 0; decide))]
    refine iteF ⟨_, rfl, ixT hq rfl ⟨rfl, _, rfl, ?_⟩⟩
    rw [decide_eq_false (by decide +kernel)]
    refine iteF ⟨_, rfl, ixT hq rfl ⟨rfl, true, by rw [decide_eq_true (by rfl)], ?_⟩⟩
    rw [if_pos rfl]
    refine ⟨_, rfl, lenT hq ⟨rfl, true, by rw [decide_eq_true (by rfl)], ?_⟩⟩
    rw [if_pos rfl]
    exact ⟨_, rfl, _, rfl, _, rfl, _, rfl, ixT hq rfl ⟨_, rfl, ixT hq rfl ⟨h, b, cs, as, ns, old, new, v, e, ks, rfl, hl, bk, nm, hv, he, lt, mem, all, few, lw, k⟩⟩⟩
end
end Fw

set_option Elab.async false
set_option linter.all false
set_option maxRecDepth 100000
set_option maxHeartbeats 4000000
/-! The law's own reckoning of what lies below a version, and its look at a way (law k52). -/
namespace Fw
open PySem L2 RZ RT
theorem inc_ext {l m : List Int} (h1 : l.Pairwise (· < ·)) (h2 : m.Pairwise (· < ·)) (h : ∀ x, x ∈ l ↔ x ∈ m) : l = m := by
  have p := (List.perm_ext_iff_of_nodup (lt_nodupA h1) (lt_nodupA h2)).mpr h
  exact p.eq_of_pairwise (le := (· < ·)) (fun a b _ _ h1 h2 => by omega) h1 h2
theorem par_some {cs : List Ct} {ns : List Int} {i : Nat} {ps : List Int} {r s : Int} (h : cs[i]? = some (.ver ps r s)) : parA cs ns (i : Int) = ps.filter fun p => decide (p ∈ ns) := by
  unfold parA
  rw [parsOf_at h]
/-- the laws' contents, and the names that are held: versions among them are the book's -/
structure ThAt [HasW] (H : Hp) (T Hd : Addr) (cs : List Ct) (ns : List Int) : Prop where
  tr : ∃ as : List Addr, H T = some (.lst (as.map V.ref)) ∧ CsAt H as cs
  hd : H Hd = some (.dK (nmD ns))
  fam : FamOk cs
  nm : NmOk cs ns
  inc : ns.Pairwise (· < ·)
  few : cs.length ≤ 400
section
variable [HasW] {H H' : Hp} {T Hd : Addr} {cs : List Ct} {ns : List Int}
theorem ThAt.same (t : ThAt H T Hd cs ns) (s : Same H H') : ThAt H' T Hd cs ns := by
  obtain ⟨as, h1, h2⟩ := t.tr
  exact ⟨⟨as, s _ _ h1, h2.mono (TM.of s)⟩, s _ _ t.hd, t.fam, t.nm, t.inc, t.few⟩
theorem ThAt.lenN (t : ThAt H T Hd cs ns) : ns.length ≤ 400 := Nat.le_trans (t.nm.len (lt_nodupA t.inc)) t.few
theorem FamOk.low {cs : List Ct} (f : FamOk cs) : LowP cs := by
  intro i ps r s hc p hp
  have ib := f.inb i _ hc
  unfold Ct.inB at ib
  rw [Bool.and_eq_true] at ib
  have := hasK_lt (List.all_eq_true.mp ib.1 p hp)
  rw [List.length_take] at this
  omega
theorem FamOk.vers {cs : List Ct} (f : FamOk cs) {i : Nat} {ps : List Int} {r s : Int} (hc : cs[i]? = some (.ver ps r s)) : ∀ p ∈ ps, isV cs p = true := by
  intro p hp
  have ib := f.inb i _ hc
  unfold Ct.inB at ib
  rw [Bool.and_eq_true] at ib
  have hk := List.all_eq_true.mp ib.1 p hp
  have hlt := hasK_lt hk
  rw [List.length_take] at hlt
  unfold hasK at hk
  rw [Bool.and_eq_true, Bool.and_eq_true, List.contains_iff_mem, List.mem_singleton] at hk
  have hw := hk.2.2
  obtain ⟨m, rfl⟩ := Int.eq_ofNat_of_zero_le hlt.1
  have hm : m < i := by have := hlt.2; rw [Int.toNat_natCast] at this; omega
  rw [Int.toNat_natCast, List.getD_eq_getElem?_getD, List.getElem?_take_of_lt hm] at hw
  unfold isV
  rw [Int.toNat_natCast, List.getD_eq_getElem?_getD]
  exact decide_eq_true hw
/-- a version of the book, at its place -/
theorem ThAt.ver (t : ThAt H T Hd cs ns) {x : Int} (hx : x ∈ ns) (hv : isV cs x = true) : ∃ (i : Nat) (ps : List Int) (r s : Int) (as : List Addr) (a q : Addr), x = (i : Int) ∧ cs[i]? = some (.ver ps r s) ∧ ps.length ≤ 4 ∧ (∀ p ∈ ps, isV cs p = true) ∧ H T = some (.lst (as.map V.ref)) ∧ as[i]? = some a ∧ H a = some (.tup [.str "version", .ref q, .int r, .int s]) ∧ H q = some (.tup (ps.map V.int)) := by
  obtain ⟨i, c, rfl, hc⟩ := t.nm.get hx
  obtain ⟨ps, r, s, rfl⟩ := isV_ver hc hv
  obtain ⟨as, hT, hcs⟩ := t.tr
  obtain ⟨a, ha, q, h1, h2⟩ := hcs.get hc
  exact ⟨i, ps, r, s, as, a, q, rfl, hc, (t.fam.form _ (List.mem_of_getElem? hc)).1, t.fam.vers hc, hT, ha, h1, h2⟩
theorem ThAt.lw (t : ThAt H T Hd cs ns) {v : Int} (hv : v ∈ ns) (hvv : isV cs v = true) {x : Int} (h : Lw cs ns v x) : x ∈ ns ∧ x ≤ v ∧ isV cs x = true := by
  obtain ⟨k, r⟩ := h
  have h1 := Lw.near t.fam.low t.nm hv r
  refine ⟨h1.1, h1.2.1, ?_⟩
  clear h1
  induction k generalizing x with
  | zero => rw [show x = v from r]; exact hvv
  | succ k ih =>
    rcases r with r | ⟨u, r, hp⟩
    · exact ih r
    · obtain ⟨i, c, rfl, hc⟩ := t.nm.get (Lw.near t.fam.low t.nm hv r).1
      obtain ⟨ps, r0, s0, rfl⟩ := isV_ver hc (ih r)
      rw [par_some hc] at hp
      exact t.fam.vers hc x (List.mem_filter.mp hp).1
end
section
variable [HasW]
def sp_l_parents (_ : PySem.W.Frag) : Sp := fun vs H Q _ => ∃ (T Hd : Addr) (cs : List Ct) (ns : List Int) (x : Int), vs = [.ref T, .ref Hd, .int x] ∧ ThAt H T Hd cs ns ∧ x ∈ ns ∧ isV cs x = true ∧
  ∀ (L : Addr) (H' : Hp), Same H H' → H L = none → H' L = some (.lst ((parA cs ns x).map V.int)) → Q (.ref L) H'
def sp_l_lower (_ : PySem.W.Frag) : Sp := fun vs H Q _ => ∃ (T Hd : Addr) (cs : List Ct) (ns : List Int) (x : Int), vs = [.ref T, .ref Hd, .int x] ∧ ThAt H T Hd cs ns ∧ x ∈ ns ∧ isV cs x = true ∧
  ∀ (L : Addr) (ms : List Int) (H' : Hp), Same H H' → H L = none → H' L = some (.lst (ms.map V.int)) → ms.Pairwise (· < ·) → (∀ y, y ∈ ms ↔ Lw cs ns x y) → Q (.ref L) H'
def sp_l_brims (_ : PySem.W.Frag) : Sp := fun vs H Q _ => ∃ (T Hd L : Addr) (cs : List Ct) (ns ms : List Int), vs = [.ref T, .ref Hd, .ref L] ∧ ThAt H T Hd cs ns ∧ H L = some (.lst (ms.map V.int)) ∧ ms.length ≤ 400 ∧ (∀ x ∈ ms, x ∈ ns ∧ isV cs x = true) ∧
  ∀ (e : Addr) (H' : Hp), Same H H' → H' e = some (.tup ((ms.filter (brim cs ns)).map V.int)) → Q (.ref e) H'
def sp_l_is_walk (_ : PySem.W.Frag) : Sp := fun vs H Q _ => ∃ (T Hd t : Addr) (cs : List Ct) (ns : List Int) (was goes : Int) (ws : List Int), vs = [.ref T, .ref Hd, .int was, .int goes, .ref t] ∧ ThAt H T Hd cs ns ∧ H t = some (.tup (ws.map V.int)) ∧ WalkB cs ns was goes ws ∧ ∀ H', Same H H' → Q (.bl true) H'
def sp_l_way_told (_ : PySem.W.Frag) : Sp := fun vs H Q _ => ∃ (T Hd q : Addr) (cs : List Ct) (ns : List Int) (was goes : Int), vs = [.ref T, .ref Hd, .int was, .int goes, .ref q] ∧ ThAt H T Hd cs ns ∧ goes ∈ ns ∧ isV cs goes = true ∧ WayA H q cs ns was goes ∧ ∀ H', Same H H' → Q (.bl true) H'
def sp_l_here (_ : PySem.W.Frag) : Sp := fun vs H Q _ => ∃ (L : Addr) (ns : List Int), vs = [.ref L] ∧ H L = some (.lst (ns.map V.int)) ∧ ns.length ≤ 1000 ∧ ns.Nodup ∧ ∀ (F : Addr) (H' : Hp), Same H H' → H F = none → H' F = some (.dK (nmD ns)) → Q (.ref F) H'
def sp_l_versions (_ : PySem.W.Frag) : Sp := fun vs H Q _ => ∃ (T Hd : Addr) (cs : List Ct) (ns : List Int), vs = [.ref T, .ref Hd] ∧ ThAt H T Hd cs ns ∧ ∀ (L : Addr) (H' : Hp), Same H H' → H L = none → H' L = some (.lst ((ns.filter (isV cs)).map V.int)) → Q (.ref L) H'
end
section
variable [HasW] {K : PySem.W.Frag} {vs : List V} {H : Hp} {Q : VK} {E : XK}
theorem len_l_parents (h : sp_l_parents K vs H Q E) : vs.length = 3 := by obtain ⟨_, _, _, _, _, rfl, _⟩ := h; rfl
theorem len_l_lower (h : sp_l_lower K vs H Q E) : vs.length = 3 := by obtain ⟨_, _, _, _, _, rfl, _⟩ := h; rfl
theorem len_l_brims (h : sp_l_brims K vs H Q E) : vs.length = 3 := by obtain ⟨_, _, _, _, _, _, rfl, _⟩ := h; rfl
theorem len_l_is_walk (h : sp_l_is_walk K vs H Q E) : vs.length = 5 := by obtain ⟨_, _, _, _, _, _, _, _, rfl, _⟩ := h; rfl
theorem len_l_way_told (h : sp_l_way_told K vs H Q E) : vs.length = 5 := by obtain ⟨_, _, _, _, _, _, _, rfl, _⟩ := h; rfl
theorem len_l_here (h : sp_l_here K vs H Q E) : vs.length = 1 := by obtain ⟨_, _, rfl, _⟩ := h; rfl
theorem len_l_versions (h : sp_l_versions K vs H Q E) : vs.length = 2 := by obtain ⟨_, _, _, _, rfl, _⟩ := h; rfl
end
section
variable [HasW]
abbrev N_l_parents : List Str := ["_law_things", "_law_here_here", "_law_version", "_law_name"]
def t_l_parents (K : PySem.W.Frag) : TS := (tRet (tLc (iTup K (tOp (rIx K) (tOp (rIx K) (tVar 0) (tVar 2)) (tC (.int 1)))) (gName 3) (tB (tDIn (tVar 3) (tVar 1))) (tVar 3) [3]))
abbrev N_l_lower : List Str := ["_law_things", "_law_here_here", "_law_version", "_law_found", "_law_name", "_law_parent"]
def t_l_lower (K : PySem.W.Frag) : TS := (tSeq (tAsg (tDisp (((tVar 2), (tC (.bl true))) :: [])) (gName 3))
    (tSeq (tFor (iRng3 (tCons (tVar 2) (tCons (tUn rNegI (tC (.int 1))) (tCons (tUn rNegI (tC (.int 1))) tNil)))) (gName 4) (tIfS (tB (tDIn (tVar 4) (tVar 3))) (tFor (iList K (tCall (sp_l_parents K) [] E0 (tCons (tVar 0) (tCons (tVar 1) (tCons (tVar 4) tNil))))) (gName 5) (sDPut (tVar 3) (tVar 5) (tC (.bl true)))) tNext))
    (tRet (tCB rSortK (tCons (tVar 3) tNil)))))
abbrev N_l_brims : List Str := ["_law_things", "_law_here_here", "_law_versions_here", "_law_name"]
def t_l_brims (K : PySem.W.Frag) : TS := (tRet (tCB (fTupleOf K) (tCons (tLc (iList K (tVar 2)) (gName 3) (tTest (tOp rLtI (tCB (fLen K) (tCons (tCall (sp_l_parents K) [] E0 (tCons (tVar 0) (tCons (tVar 1) (tCons (tVar 3) tNil)))) tNil)) (tCB (fLen K) (tCons (tOp (rIx K) (tOp (rIx K) (tVar 0) (tVar 3)) (tC (.int 1))) tNil)))) (tVar 3) [3]) tNil)))
abbrev N_l_is_walk : List Str := ["_law_things", "_law_here_here", "_law_was", "_law_goes", "_law_versions_here", "_law_name", "_law_k"]
def t_l_is_walk_steps (K : PySem.W.Frag) : TS := (tSeq (tFor (iRng2 (tCons (tC (.int 1)) (tCons (tCB (fLen K) (tCons (tVar 4) tNil)) tNil))) (gName 6) (tIfS (tOr (tTest (tOp rNe (tOp (rIx K) (tOp (rIx K) (tVar 0) (tOp (rIx K) (tVar 4) (tOp rSubI (tVar 6) (tC (.int 1))))) (tC (.int 0))) (tC (.str "version")))) (tTest (tOp (rIn K true) (tOp (rIx K) (tVar 4) (tVar 6)) (tOp (rIx K) (tOp (rIx K) (tVar 0) (tOp (rIx K) (tVar 4) (tOp rSubI (tVar 6) (tC (.int 1))))) (tC (.int 1)))))) (tRet (tC (.bl false))) tNext))
    (tRet (tC (.bl true))))
def t_l_is_walk_ends (K : PySem.W.Frag) : TS := (tSeq (tIfS (tOr (tTest (tOp rNe (tOp (rIx K) (tVar 4) (tC (.int 0))) (tVar 3))) (tTest (tOp rNe (tOp (rIx K) (tVar 4) (tUn rNegI (tC (.int 1)))) (tVar 2)))) (tRet (tC (.bl false))) tNext)
    (t_l_is_walk_steps K))
def t_l_is_walk_all (K : PySem.W.Frag) : TS := (tSeq (tFor (iTup K (tVar 4)) (gName 5) (tIfS (tOr (tNot (tB (tCall (sp_l_int K) [] E0 (tCons (tVar 5) tNil)))) (tB (tDNotIn (tVar 5) (tVar 1)))) (tRet (tC (.bl false))) tNext))
    (t_l_is_walk_ends K))
def t_l_is_walk (K : PySem.W.Frag) : TS := (tSeq (tIfS (tOr (tNot (tB (tCB (rIsi K) (tCons (tVar 4) (tCons (tC (.ty "tuple")) tNil))))) (tTest (tOp rEq (tCB (fLen K) (tCons (tVar 4) tNil)) (tC (.int 0))))) (tRet (tC (.bl false))) tNext)
    (t_l_is_walk_all K))
abbrev N_l_way_told : List Str := ["_law_things", "_law_here_here", "_law_was", "_law_goes", "_law_thing", "_law_lower_here"]
def t_l_way_told (K : PySem.W.Frag) : TS := (tSeq (tAsg (tCall (sp_l_lower K) [] E0 (tCons (tVar 0) (tCons (tVar 1) (tCons (tVar 3) tNil)))) (gName 5))
    (tSeq (tIfS (tTest (tOp (rIn K false) (tVar 2) (tVar 5))) (tSeq (tIfS (tOr (tNot (tB (tCB (rIsi K) (tCons (tVar 4) (tCons (tC (.ty "tuple")) tNil))))) (tOr (tTest (tOp rNe (tCB (fLen K) (tCons (tVar 4) tNil)) (tC (.int 2)))) (tNot (tB (tCall (sp_l_same2 K) [] E0 (tCons (tOp (rIx K) (tVar 4) (tC (.int 0))) (tCons (tC (.str "ahead")) tNil))))))) (tRet (tC (.bl false))) tNext)
    (tRet (tCall (sp_l_is_walk K) [] E0 (tCons (tVar 0) (tCons (tVar 1) (tCons (tVar 2) (tCons (tVar 3) (tCons (tOp (rIx K) (tVar 4) (tC (.int 1))) tNil)))))))) tNext)
    (tRet (tCall (sp_l_same2 K) [] E0 (tCons (tVar 4) (tCons (tTup (tCons (tC (.str "apart")) (tCons (tCB (fTupleOf K) (tCons (tVar 5) tNil)) (tCons (tCall (sp_l_brims K) [] E0 (tCons (tVar 0) (tCons (tVar 1) (tCons (tVar 5) tNil)))) tNil)))) tNil))))))
abbrev N_l_here : List Str := ["_law_names", "_law_here_here", "_law_name"]
def t_l_here (K : PySem.W.Frag) : TS := (tSeq (tAsg tDNewK (gName 1))
    (tSeq (tFor (iList K (tVar 0)) (gName 2) (sDPut (tVar 1) (tVar 2) (tC (.bl true))))
    (tRet (tVar 1))))
abbrev N_l_versions : List Str := ["_law_things", "_law_here_here", "_law_name"]
def t_l_versions (K : PySem.W.Frag) : TS := (tRet (tLc (iList K (tCB rSortK (tCons (tVar 1) tNil))) (gName 2) (tTest (tOp rEq (tOp (rIx K) (tOp (rIx K) (tVar 0) (tVar 2)) (tC (.int 0))) (tC (.str "version")))) (tVar 2) [2]))
end
section
variable [HasW] {K : PySem.W.Frag} {vs : List V} {H : Hp} {Q : VK} {E : XK}
theorem pure_l_parents (h : sp_l_parents K vs H Q E) : t_l_parents K { nx := fun _ H' => Q .non H', rt := Q } (start N_l_parents vs) H := by
  obtain ⟨T, Hd, cs, ns, x, rfl, t, hx, hv, k⟩ := h
  obtain ⟨i, ps, r, s, as, a, q, rfl, hc, lp, _, hT, ha, h1, h2⟩ := t.ver hx hv
  refine ⟨_, rfl, _, rfl, ixL hT (atI_nat (by rw [List.getElem?_map, ha]; rfl)) (ixT h1 rfl ⟨q, rfl, ⟨_, sqT h2⟩, fun L nL => ?_⟩)⟩
  refine lc_filt (walk_tup (xs := ps.map V.int)) (fun i H x H' hy => hy) (p := fun p => decide (p ∈ ns)) (by show 3 < 4; decide) nL (by rw [List.length_map]) (by rw [List.length_map]; omega) (fun H' s => sqT (s _ _ h2)) ?_ ?_
  · intro v H' R hv s r
    refine ⟨_, rfl, _, rfl, Hd, _, rfl, DGet.k (k := Sum.inl v) (s _ _ t.hd), _, rfl, ?_⟩
    rw [nmD_some]
    exact r _ (Same.refl _)
  · intro H' s hL
    rw [← par_some hc] at hL
    exact k L H' s nL hL
theorem pure_l_here (h : sp_l_here K vs H Q E) : t_l_here K { nx := fun _ H' => Q .non H', rt := Q } (start N_l_here vs) H := by
  obtain ⟨L, ns, rfl, hL, few, nd, k⟩ := h
  refine fun F nF => ?_
  have nLF : L ≠ F := ne_of_none hL nF
  refine ⟨_, rfl, L, rfl, ⟨_, sqL (updN nLF hL)⟩, ?_⟩
  refine for_list (K := K) (a := L) (xs := ns.map V.int) (fun i σ H' => ∃ z, σ = [some (.ref L), some (.ref F), z] ∧ H' = upd H F (.dK (nmD (ns.take i)))) ⟨_, rfl, rfl⟩ ?_ ?_ ?_
  · rintro i σ H' _ ⟨z, rfl, rfl⟩
    exact sqL (updN nLF hL)
  · rintro i x σ H' hx ⟨z, rfl, rfl⟩
    rw [List.getElem?_map] at hx
    cases e : ns[i]? with
    | none => rw [e] at hx; cases hx
    | some v =>
    rw [e] at hx
    cases Option.some.inj hx
    have eT : ns.take (i + 1) = ns.take i ++ [v] := by rw [List.take_succ, e]; rfl
    have hn : v ∉ ns.take i := fun z => by
      have nd1 := nd.sublist (List.take_sublist (i + 1) ns)
      rw [eT, List.nodup_append] at nd1
      exact nd1.2.2 _ z _ (List.mem_singleton.mpr rfl) rfl
    refine ⟨_, rfl, _, rfl, F, _, rfl, DPut.k (k := Sum.inl v) updS ?_, ?_⟩
    · rw [List.length_map, List.length_take]
      exact Nat.lt_of_le_of_lt (show _ ≤ 1000 by omega) (by decide)
    · rw [upd_upd, nmD_put hn, ← eT]
      exact ⟨_, rfl, rfl⟩
  · rintro σ H' ⟨z, rfl, rfl⟩
    rw [List.length_map, List.take_length]
    exact ⟨_, rfl, k F _ (samN nF) nF updS⟩
theorem pure_l_versions (h : sp_l_versions K vs H Q E) : t_l_versions K { nx := fun _ H' => Q .non H', rt := Q } (start N_l_versions vs) H := by
  obtain ⟨T, Hd, cs, ns, rfl, t, k⟩ := h
  obtain ⟨as, hT, hcs⟩ := t.tr
  have few := t.lenN
  refine ⟨_, rfl, Hd, nmD ns, ns, rfl, t.hd, nmD_keys ns, fun ms R pm inc nR => ?_⟩
  have em : ms = ns := inc_ext (perm_lt pm inc (lt_nodupA t.inc)) t.inc fun x => pm.mem_iff
  subst em
  have s1 : Same H (upd H R (.lst (ms.map V.int))) := samN nR
  have hR : upd H R (.lst (ms.map V.int)) R = some (.lst (ms.map V.int)) := updS
  generalize upd H R (.lst (ms.map V.int)) = H1 at s1 hR
  refine ⟨R, rfl, ⟨_, sqL hR⟩, fun L nL => ?_⟩
  refine lc_filt (walk_list (xs := ms.map V.int)) (fun i H x H' hy => hy) (p := isV cs) (by show 2 < 3; decide) nL (by rw [List.length_map]) (by rw [List.length_map]; omega) (fun H' s => sqL (s _ _ hR)) ?_ ?_
  · intro v H' R hv s r
    obtain ⟨i, c, rfl, hc⟩ := t.nm.get hv
    have sA := s1.trans s
    obtain ⟨a, ha, hca⟩ := hcs.get hc
    have hcb := hca.mono (TM.of sA)
    refine ⟨_, rfl, _, rfl, ixL (sA _ _ hT) (atI_nat (by rw [List.getElem?_map, ha]; rfl)) (CtAt.fst hcb ⟨rfl, _, rfl, ?_⟩)⟩
    have := r _ (Same.refl H')
    rw [isV_at hc] at this
    rw [show decide (V.str c.word = V.str "version") = decide (c.word = "version") from decide_eq_decide.mpr ⟨fun h => V.str.inj h, fun h => by rw [h]⟩]
    exact this
  · intro H' s hL
    refine k L H' (s1.trans s) ?_ hL
    cases z : H L with
    | none => rfl
    | some o => rw [s1 _ _ z] at nL; cases nL
theorem filt_lt {ps : List Int} {p : Int → Bool} : decide (((ps.filter p).length : Int) < (ps.length : Int)) = !ps.all p := by
  induction ps with
  | nil => rfl
  | cons x ps ih =>
    by_cases h : p x = true
    · rw [List.filter_cons_of_pos h, List.all_cons, h, Bool.true_and, ← ih]
      refine decide_eq_decide.mpr ?_
      rw [List.length_cons, List.length_cons]
      omega
    · rw [List.filter_cons_of_neg h, List.all_cons, show p x = false by simpa using h, Bool.false_and]
      have := List.length_filter_le p ps
      rw [List.length_cons]
      exact decide_eq_true (by omega)
theorem pure_l_brims (h : sp_l_brims K vs H Q E) : t_l_brims K { nx := fun _ H' => Q .non H', rt := Q } (start N_l_brims vs) H := by
  obtain ⟨T, Hd, L, cs, ns, ms, rfl, t, hL, few, all, k⟩ := h
  refine ⟨_, rfl, L, rfl, ⟨_, sqL hL⟩, fun M nM => ?_⟩
  refine lc_filt (walk_list (xs := ms.map V.int)) (fun i H x H' hy => hy) (p := brim cs ns) (by show 3 < 4; decide) nM (by rw [List.length_map]) (by rw [List.length_map]; omega) (fun H' s => sqL (s _ _ hL)) ?_ ?_
  · intro v H' R hv s r
    obtain ⟨h1, h2⟩ := all v hv
    refine ⟨_, rfl, _, rfl, _, rfl, T, Hd, cs, ns, v, rfl, t.same s, h1, h2, fun P H2 s2 nP hP => lenL hP ?_⟩
    obtain ⟨i, ps, r0, s0, as, a, q, rfl, hc, lp, _, hT, ha, g1, g2⟩ := (t.same (s.trans s2)).ver h1 h2
    refine ⟨_, rfl, _, rfl, ixL hT (atI_nat (by rw [List.getElem?_map, ha]; rfl)) (ixT g1 rfl (lenT g2 ⟨_, _, rfl, rfl, _, rfl, ?_⟩))⟩
    rw [List.length_map, List.length_map, par_some hc, filt_lt]
    have := r H2 s2
    unfold brim at this
    rw [parsOf_at hc] at this
    exact this
  · intro H1 s1 hM
    exact ⟨M, _, rfl, .inl ⟨sqL hM, fun p np => k p _ (s1.trans (samN np)) updS⟩⟩
theorem pure_l_lower (h : sp_l_lower K vs H Q E) : t_l_lower K { nx := fun _ H' => Q .non H', rt := Q } (start N_l_lower vs) H := by
  obtain ⟨T, Hd, cs, ns, x, rfl, t, hx, hv, k⟩ := h
  have few := t.lenN
  have x0 := t.nm x hx
  have xf := t.few
  refine fun F nF => ⟨_, rfl, updS, [(Sum.inl x, .bl true)], rfl, by show (1 : Nat) ≤ 15; decide, ?_⟩
  have e1 : upd (upd H F (.dK [])) F (.dK (mergeK [] [((Sum.inl x : Key), V.bl true)])) = upd H F (.dK (nmD [x])) := by rw [upd_upd]; rfl
  rw [e1]
  have sF : Same H (upd H F (.dK (nmD [x]))) := samN nF
  have hF : upd H F (.dK (nmD [x])) F = some (.dK (nmD [x])) := updS
  generalize upd H F (.dK (nmD [x])) = H1 at sF hF
  clear e1
  obtain ⟨m, rfl⟩ := Int.eq_ofNat_of_zero_le x0.1
  have hm : m < 400 := by have := x0.2; rw [Int.toNat_natCast] at this; omega
  refine ⟨_, rfl, _, rfl, _, rfl, (m : Int), -1, -1, m + 1, rfl, ?_, ?_⟩
  · have := RgC.neg (i := (m : Int)) (j := -1) (by omega) (by omega) (by omega) (by omega)
    rw [show ((m : Int) - -1).toNat = m + 1 by omega] at this
    exact this
  refine for_it walk_rangeC (fun i σ H' => ∃ (fd : List Int) (z4 z5 : Option V), σ = [some (.ref T), some (.ref Hd), some (.int (m : Int)), some (.ref F), z4, z5] ∧ Same H H' ∧ H' F = some (.dK (nmD fd)) ∧ fd.Nodup ∧ (m : Int) ∈ fd ∧ (∀ y ∈ fd, Lw cs ns m y) ∧ ∀ u ∈ fd, (m : Int) - i < u → ∀ p ∈ parA cs ns u, p ∈ fd) ?_ (fun _ _ _ _ _ => True.intro) ?_ ?_
  · refine ⟨[(m : Int)], _, _, rfl, sF, hF, (by simp), List.mem_singleton.mpr rfl, (fun y hy => by rw [List.mem_singleton.mp hy]; exact ⟨0, rfl⟩), fun u hu h => ?_⟩
    rw [List.mem_singleton.mp hu] at h
    omega
  · rintro i y σ H2 H3 hi ⟨fd, z4, z5, rfl, s2, hF2, nd, hmf, snd, cl⟩ ⟨rfl, hy⟩
    have hy : y = V.int ((m : Int) - (i : Nat)) := by
      rw [hy]
      show V.int ((m : Int) + (i : Nat) * -1) = _
      rw [show (m : Int) + (i : Nat) * -1 = (m : Int) - (i : Nat) by omega]
    subst hy
    generalize ew : (m : Int) - (i : Nat) = w
    have lf : fd.length ≤ 400 := Nat.le_trans (len_subA nd fun y hy => (t.lw hx hv (snd y hy)).1) few
    refine ⟨_, rfl, _, rfl, F, _, rfl, DGet.k (k := Sum.inl w) hF2, _, rfl, ?_⟩
    rw [nmD_some]
    by_cases hin : w ∈ fd
    · rw [decide_eq_true hin]
      obtain ⟨hwn, _, hwv⟩ := t.lw hx hv (snd w hin)
      refine iteT ⟨_, rfl, _, rfl, _, rfl, T, Hd, cs, ns, w, rfl, t.same s2, hwn, hwv, fun L H4 s4 nL hL => ⟨L, rfl, ⟨_, sqL hL⟩, ?_⟩⟩
      have hF4 := s4 _ _ hF2
      have nLF : L ≠ F := fun z => by rw [z, hF2] at nL; cases nL
      refine for_list (K := K) (a := L) (xs := (parA cs ns w).map V.int) (fun j σ H' => ∃ (fd' : List Int) (z5 : Option V), σ = [some (.ref T), some (.ref Hd), some (.int (m : Int)), some (.ref F), some (.int w), z5] ∧ Same H H' ∧ H' L = some (.lst ((parA cs ns w).map V.int)) ∧ H' F = some (.dK (nmD fd')) ∧ fd'.Nodup ∧ (∀ y ∈ fd, y ∈ fd') ∧ (∀ y ∈ fd', y ∈ fd ∨ y < w) ∧ (∀ y ∈ fd', Lw cs ns m y) ∧ ∀ p ∈ (parA cs ns w).take j, p ∈ fd') ?_ ?_ ?_ ?_
      · exact ⟨fd, _, rfl, s2.trans s4, hL, hF4, nd, fun _ h => h, fun _ h => .inl h, snd, by rw [List.take_zero]; exact fun _ z => nomatch z⟩
      · rintro j σ H' _ ⟨fd', z5, rfl, _, hL', _⟩
        exact sqL hL'
      · rintro j y σ H5 hy ⟨fd', z5, rfl, s5, hL5, hF5, nd5, up5, dn5, snd5, dl5⟩
        rw [List.getElem?_map] at hy
        cases ex : (parA cs ns w)[j]? with
        | none => rw [ex] at hy; cases hy
        | some p =>
        rw [ex] at hy
        cases Option.some.inj hy
        have eL : (parA cs ns w).take (j + 1) = (parA cs ns w).take j ++ [p] := by rw [List.take_succ, ex]; rfl
        have hp := List.mem_of_getElem? ex
        have lf5 : fd'.length ≤ 400 := Nat.le_trans (len_subA nd5 fun y hy => (t.lw hx hv (snd5 y hy)).1) few
        refine ⟨_, rfl, _, rfl, F, _, rfl, DPut.k (k := Sum.inl p) hF5 (by rw [List.length_map]; exact Nat.lt_of_le_of_lt (show _ ≤ 1000 by omega) (by decide)), ?_⟩
        rw [nmD_ins]
        have mi : ∀ y, y ∈ insN fd' p ↔ y ∈ fd' ∨ y = p := fun y => by
          unfold insN
          split
          · rename_i h
            exact ⟨.inl, fun z => z.elim id fun e => by rw [e]; exact h⟩
          · rw [List.mem_append, List.mem_singleton]
        have lwp : Lw cs ns m p := by
          obtain ⟨d, r⟩ := snd w hin
          exact ⟨d + 1, .inr ⟨w, r, hp⟩⟩
        have ltp : p < w := (par_low t.fam.low t.nm hwn hp).1
        refine ⟨insN fd' p, _, rfl, Same.updA s5 nF, updN nLF hL5, updS, ?_, fun y hy => (mi y).mpr (.inl (up5 y hy)), fun y hy => ((mi y).mp hy).elim (dn5 y) fun e => by rw [e]; exact .inr ltp, fun y hy => ((mi y).mp hy).elim (snd5 y) fun e => by rw [e]; exact lwp, fun q hq => ?_⟩
        · unfold insN
          split
          · exact nd5
          · rename_i h
            rw [List.nodup_append]
            exact ⟨nd5, by simp, fun y hy z hz e => h (by rw [List.mem_singleton.mp hz] at e; rw [← e]; exact hy)⟩
        · rw [eL] at hq
          refine (mi q).mpr ((List.mem_append.mp hq).imp (dl5 q) List.mem_singleton.mp)
      · rintro σ H5 ⟨fd', z5, rfl, s5, hL5, hF5, nd5, up5, dn5, snd5, dl5⟩
        rw [List.length_map, List.take_length] at dl5
        refine ⟨fd', _, _, rfl, s5, hF5, nd5, up5 _ hmf, snd5, fun u hu hlt p hp => ?_⟩
        by_cases q : u = w
        · rw [q] at hp; exact dl5 p hp
        · rcases dn5 u hu with h | h
          · exact up5 _ (cl u h (by omega) p hp)
          · omega
    · rw [decide_eq_false hin]
      refine iteF ⟨fd, _, _, rfl, s2, hF2, nd, hmf, snd, fun u hu hlt p hp => ?_⟩
      have : u ≠ w := fun z => hin (by rw [← z]; exact hu)
      exact cl u hu (by omega) p hp
  · rintro σ H2 ⟨fd, z4, z5, rfl, s2, hF2, nd, hmf, snd, cl⟩
    have all : ∀ k y, RchN cs ns (fun y => y = (m : Int)) k y → y ∈ fd := by
      intro k
      induction k with
      | zero => intro y hy; rw [show y = (m : Int) from hy]; exact hmf
      | succ k ih =>
        rintro y (r | ⟨u, r, hp⟩)
        · exact ih y r
        · have hu := ih u r
          have := (t.nm u (t.lw hx hv ⟨k, r⟩).1).1
          exact cl u hu (by omega) y hp
    refine ⟨_, rfl, F, nmD fd, fd, rfl, hF2, nmD_keys fd, fun ms R pm inc nR => ?_⟩
    have nR0 : H R = none := by
      cases z : H R with
      | none => rfl
      | some o => rw [s2 _ _ z] at nR; cases nR
    exact k R ms _ (s2.trans (samN nR)) nR0 updS (perm_lt pm inc nd) fun y => pm.mem_iff.trans ⟨snd y, fun ⟨d, r⟩ => all d y r⟩
theorem pure_l_is_walk (h : sp_l_is_walk K vs H Q E) : t_l_is_walk K { nx := fun _ H' => Q .non H', rt := Q } (start N_l_is_walk vs) H := by
  obtain ⟨T, Hd, q, cs, ns, was, goes, ws, rfl, t, hq, w, k⟩ := h
  have pos : 0 < ws.length := (List.getElem?_eq_some_iff.mp w.fst).1
  have few := w.few
  have l0 : (ws.map V.int).length = ws.length := List.length_map ..
  refine ⟨_, rfl, isi (.base (.tup hq)) k_tt ⟨_, rfl, iteF ⟨_, rfl, lenT hq ⟨rfl, _, rfl, ?_⟩⟩⟩⟩
  rw [decide_eq_false (fun z => by
    have := V.int.inj z
    rw [List.length_map] at this
    omega)]
  refine iteF ⟨_, rfl, q, rfl, ⟨_, sqT hq⟩, ?_⟩
  refine for_tup (K := K) (a := q) (xs := ws.map V.int) (fun i σ H' => H' = H ∧ ∃ z5, σ = [some (.ref T), some (.ref Hd), some (.int was), some (.int goes), some (.ref q), z5, none]) ⟨rfl, _, rfl⟩ ?_ ?_ ?_
  · rintro i σ H' _ ⟨rfl, _⟩
    exact sqT hq
  · rintro i x σ H' hx ⟨rfl, z5, rfl⟩
    rw [List.getElem?_map] at hx
    cases e : ws[i]? with
    | none => rw [e] at hx; cases hx
    | some v =>
    rw [e] at hx
    cases Option.some.inj hx
    obtain ⟨h1, h2⟩ := w.all v (List.mem_of_getElem? e)
    refine ⟨_, rfl, v, rfl, _, rfl, iteF ⟨_, rfl, _, rfl, Hd, _, rfl, DGet.k (k := Sum.inl v) t.hd, _, rfl, ?_⟩⟩
    rw [nmD_some, decide_eq_true h1]
    exact iteF ⟨rfl, _, rfl⟩
  rintro σ H' ⟨rfl, z5, rfl⟩
  have e0 : atI (ws.map V.int) 0 = some (.int goes) := (atI_nat (j := 0) (by rw [List.getElem?_map, w.fst]; rfl))
  have split : ws = ws.dropLast ++ [was] := by
    have := List.dropLast_concat_getLast (l := ws) (List.length_pos_iff.mp pos)
    rw [List.getLast_eq_getElem] at this
    have e := w.lst
    rw [List.getElem?_eq_getElem (by omega)] at e
    rw [Option.some.inj e] at this
    exact this.symm
  have e1 : atI (ws.map V.int) (-1) = some (.int was) := by
    rw [split, List.map_append, List.map_singleton]
    exact at_last
  refine ⟨_, rfl, ixT hq e0 ⟨_, rfl, rfl, _, rfl, ?_⟩⟩
  rw [decide_eq_true (show V.int goes = V.int goes from rfl)]
  refine iteF ⟨_, rfl, _, rfl, ixT hq e1 ⟨_, rfl, rfl, _, rfl, ?_⟩⟩
  rw [decide_eq_true (show V.int was = V.int was from rfl)]
  refine iteF ⟨_, rfl, lenT hq ⟨_, _, rfl, by omega, ?_⟩⟩
  rw [l0]
  refine for_range (lo := 1) (n := ((ws.length : Int) - 1).toNat) (fun i σ H'' => H'' = H' ∧ ∃ z6, σ = [some (.ref T), some (.ref Hd), some (.int was), some (.int goes), some (.ref q), z5, z6]) ⟨rfl, _, rfl⟩ ?_ ?_
  · rintro i σ H'' hi ⟨rfl, z6, rfl⟩
    have hi2 : i + 1 < ws.length := by omega
    have eu : ws[i]? = some ws[i] := List.getElem?_eq_getElem (by omega)
    have ev : ws[i + 1]? = some ws[i + 1] := List.getElem?_eq_getElem hi2
    generalize ws[i] = u at eu
    generalize ws[i + 1] = v at ev
    obtain ⟨h1, h2⟩ := w.all u (List.mem_of_getElem? eu)
    have hin := w.st i u v eu ev
    obtain ⟨j, ps, r, s, as, a, p, rfl, hc, lp, _, hT, ha, g1, g2⟩ := t.ver h1 h2
    rw [parsOf_at hc] at hin
    have a1 : atI (ws.map V.int) (1 + (i : Int) - 1) = some (.int (j : Int)) := by
      rw [show 1 + (i : Int) - 1 = (i : Int) by omega]
      exact atI_nat (by rw [List.getElem?_map, eu]; rfl)
    have a2 : atI (ws.map V.int) (1 + (i : Int)) = some (.int v) := by
      rw [show 1 + (i : Int) = ((i + 1 : Nat) : Int) by omega]
      exact atI_nat (by rw [List.getElem?_map, ev]; rfl)
    refine ⟨_, rfl, _, rfl, _, rfl, _, _, rfl, rfl, ixT hq a1 (ixL hT (atI_nat (by rw [List.getElem?_map, ha]; rfl)) (ixT g1 rfl ⟨rfl, _, rfl, ?_⟩))⟩
    rw [decide_eq_true (show V.str "version" = V.str "version" from rfl)]
    refine iteF ⟨_, rfl, _, rfl, ixT hq a2 ⟨_, rfl, _, rfl, _, rfl, _, _, rfl, rfl, ixT hq a1 (ixL hT (atI_nat (by rw [List.getElem?_map, ha]; rfl)) (ixT g1 rfl ⟨p, _, rfl, .inr (sqT g2), rfl, fl_ints _, _, rfl, ?_⟩))⟩⟩
    rw [if_pos rfl, i_ints, decide_eq_true hin]
    exact iteF ⟨rfl, _, rfl⟩
  · rintro σ H'' ⟨rfl, z6, rfl⟩
    exact k _ (Same.refl _)
theorem SameV.str52 {H : Hp} {n : Nat} {i j : Str} (e : i = j) : SameV H (n + 1) (.str i) (.str j) := Or.inl ⟨by rw [e], .inr (.inr (.inr ⟨i, rfl⟩))⟩
theorem pure_l_way_told (h : sp_l_way_told K vs H Q E) : t_l_way_told K { nx := fun _ H' => Q .non H', rt := Q } (start N_l_way_told vs) H := by
  obtain ⟨T, Hd, q, cs, ns, was, goes, rfl, t, hg, hv, w, k⟩ := h
  refine ⟨_, rfl, _, rfl, _, rfl, T, Hd, cs, ns, goes, rfl, t, hg, hv, fun L ms H1 s1 nL hL inc mem => ?_⟩
  have few : ms.length ≤ 400 := Nat.le_trans (len_subA (lt_nodupA inc) fun y hy => (t.lw hg hv ((mem y).mp hy)).1) t.lenN
  have t1 := t.same s1
  have w1 := w.same s1
  refine ⟨_, rfl, _, rfl, L, _, rfl, .inl (sqL hL), rfl, fl_ints _, _, rfl, ?_⟩
  rw [if_neg (by decide), i_ints]
  rcases w1 with ⟨lw, p, ws, hq, hp, wb⟩ | ⟨lw, v, e, ks, hq, hv2, he, lt, memk, allk, fewk⟩
  · rw [decide_eq_true ((mem was).mpr lw)]
    refine iteT ⟨_, rfl, isi (.base (.tup hq)) k_tt ⟨_, rfl, iteF ⟨_, rfl, lenT hq ⟨rfl, _, rfl, ?_⟩⟩⟩⟩
    rw [decide_eq_true (by rfl)]
    refine iteF ⟨_, rfl, ixT hq rfl ⟨_, _, rfl, SameV.str52 rfl, fun H2 s2 => ⟨_, rfl, iteF ?_⟩⟩⟩
    have hq2 := s2 _ _ hq
    exact ⟨_, rfl, _, rfl, _, rfl, _, rfl, _, rfl, ixT hq2 rfl ⟨T, Hd, p, cs, ns, was, goes, ws, rfl, t1.same s2, s2 _ _ hp, wb, fun H3 s3 => k _ (s1.trans (s2.trans s3))⟩⟩
  · rw [decide_eq_false (fun z => lw ((mem was).mp z))]
    have ek : ks = ms := inc_ext lt inc fun x => (memk x).trans (mem x).symm
    subst ek
    refine iteF ⟨_, rfl, _, rfl, L, _, rfl, .inl ⟨sqL hL, fun t2 nt => ?_⟩⟩
    have st : Same H1 (upd H1 t2 (.tup (ks.map V.int))) := samN nt
    refine ⟨_, rfl, _, rfl, _, rfl, T, Hd, L, cs, ns, ks, rfl, t1.same st, st _ _ hL, few, allk, fun e2 H3 s3 he2 => ⟨by show (3 : Nat) ≤ sizeLine; decide, fun r nr => ?_⟩⟩
    have sr : Same H3 (upd H3 r (.tup [.str "apart", .ref t2, .ref e2])) := samN nr
    have sA := st.trans (s3.trans sr)
    have lf : (ks.filter (brim cs ns)).length ≤ ks.length := List.length_filter_le _ _
    refine ⟨_, _, rfl, ?_, fun H4 s4 => k _ (s1.trans (sA.trans s4))⟩
    refine SameV.tup (sA _ _ hq) updS rfl (by show (3 : Nat) ≤ 100000; decide) fun i x y hx hy => ?_
    match i, hx, hy with
    | 0, hx, hy =>
      cases Option.some.inj hx
      cases Option.some.inj hy
      exact SameV.str52 rfl
    | 1, hx, hy =>
      cases Option.some.inj hx
      cases Option.some.inj hy
      exact SameV.tup (sA _ _ hv2) ((s3.trans sr) _ _ updS) rfl (by rw [List.length_map]; omega) SameV.ints
    | 2, hx, hy =>
      cases Option.some.inj hx
      cases Option.some.inj hy
      exact SameV.tup (sA _ _ he) (sr _ _ he2) rfl (by rw [List.length_map]; omega) SameV.ints
end
end Fw

set_option Elab.async false
set_option linter.all false
set_option maxRecDepth 100000
set_option maxHeartbeats 4000000
/-! Lines and ladders of versions that a law makes (law k52). -/
namespace Fw
open PySem L2 RZ RT
theorem FamOk.snoc {cs : List Ct} {c : Ct} (f : FamOk cs) (fo : c.form) (inb : c.inB cs = true) (h : c ∉ cs) : FamOk (cs ++ [c]) := by
  have x := f.add fo inb
  unfold addC at x
  rwa [if_neg h] at x
/-- a leaf, a tree, and versions of it, one stamp each -/
structure LnC (cs : List Ct) (n : Nat) : Prop where
  len : cs.length = n + 2
  fam : FamOk cs
  c0 : ∃ rs, cs[0]? = some (.leaf rs)
  c1 : ∃ es, cs[1]? = some (.tree es)
  ver : ∀ i : Nat, i < n → ∃ ps, cs[i + 2]? = some (.ver ps 1 (i : Int))
theorem LnC.start : LnC [.leaf [], .tree []] 0 := by
  have f1 : FamOk [Ct.leaf []] := FamOk.snoc (cs := []) FamOk.nil ⟨by decide, fun z h => nomatch h⟩ rfl (by simp)
  have f2 : FamOk ([Ct.leaf []] ++ [Ct.tree []]) := f1.snoc ⟨by decide, (fun z h => nomatch h), .nil⟩ (inB_tree (fun e he => nomatch he) (by decide)) (by simp)
  exact ⟨rfl, f2, ⟨_, rfl⟩, ⟨_, rfl⟩, fun i h => absurd h (Nat.not_lt_zero i)⟩
theorem LnC.snoc {cs : List Ct} {n : Nat} (l : LnC cs n) {ps : List Int} (few : ps.length ≤ 4) (inc : ps.Pairwise (· < ·)) (lo : ∀ p ∈ ps, 2 ≤ p ∧ p < (n : Int) + 2) (hn : n ≤ 1000) : LnC (cs ++ [.ver ps 1 (n : Int)]) (n + 1) := by
  obtain ⟨len, fam, ⟨rs, c0⟩, ⟨es, c1⟩, ver⟩ := l
  have nin : Ct.ver ps 1 (n : Int) ∉ cs := fun h => by
    obtain ⟨i, hi⟩ := List.mem_iff_getElem?.mp h
    have il : i < n + 2 := by rw [← len]; exact (List.getElem?_eq_some_iff.mp hi).1
    match i, hi, il with
    | 0, hi, _ => rw [c0] at hi; cases hi
    | 1, hi, _ => rw [c1] at hi; cases hi
    | j + 2, hi, il =>
      obtain ⟨ps', h2⟩ := ver j (by omega)
      rw [h2] at hi
      have := (Ct.ver.inj (Option.some.inj hi)).2.2
      omega
  refine ⟨by rw [List.length_append, len]; rfl, fam.snoc ⟨few, inc, by omega, by omega⟩ ?_ nin, ⟨rs, ?_⟩, ⟨es, ?_⟩, fun i hi => ?_⟩
  · unfold Ct.inB
    rw [Bool.and_eq_true]
    refine ⟨List.all_eq_true.mpr fun p hp => ?_, hasK_at c1 con1⟩
    obtain ⟨h1, h2⟩ := lo p hp
    obtain ⟨m, rfl⟩ := Int.eq_ofNat_of_zero_le (show 0 ≤ p by omega)
    obtain ⟨j, rfl⟩ : ∃ j, m = j + 2 := ⟨m - 2, by omega⟩
    obtain ⟨ps', h3⟩ := ver j (by omega)
    exact hasK_at h3 con1
  · rw [List.getElem?_append_left (by omega)]; exact c0
  · rw [List.getElem?_append_left (by omega)]; exact c1
  · by_cases h : i < n
    · rw [List.getElem?_append_left (by omega)]; exact ver i h
    · have e : i = n := by omega
      subst e
      exact ⟨ps, by rw [List.getElem?_append_right (by omega), len, Nat.sub_self]; rfl⟩
theorem LnC.isV {cs : List Ct} {n : Nat} (l : LnC cs n) {i : Nat} (h : i < n) : isV cs ((i + 2 : Nat) : Int) = true := by
  obtain ⟨ps, hc⟩ := l.ver i h
  rw [isV_at hc]
  exact decide_eq_true rfl
section
variable [HasW]
def sp_l_line_of (_ : PySem.W.Frag) : Sp := fun vs H Q _ => ∃ (D : Addr) (m : Int), vs = [.ref D, .int m] ∧ 0 ≤ m ∧ m ≤ 400 ∧ ∀ (T : Addr) (as : List Addr) (cs : List Ct) (H' : Hp), Same H H' → H T = none → H' T = some (.lst (as.map V.ref)) → CsAt H' as cs → LnC cs m.toNat → Q (.ref T) H'
def sp_l_ladder (_ : PySem.W.Frag) : Sp := fun vs H Q _ => ∃ m : Int, vs = [.int m] ∧ 0 ≤ m ∧ m ≤ 400 ∧ ∀ (T : Addr) (as : List Addr) (cs : List Ct) (H' : Hp), Same H H' → H T = none → H' T = some (.lst (as.map V.ref)) → CsAt H' as cs → LnC cs m.toNat → Q (.ref T) H'
end
section
variable [HasW] {K : PySem.W.Frag} {vs : List V} {H : Hp} {Q : VK} {E : XK}
theorem len_l_line_of (h : sp_l_line_of K vs H Q E) : vs.length = 2 := by obtain ⟨_, _, rfl, _⟩ := h; rfl
theorem len_l_ladder (h : sp_l_ladder K vs H Q E) : vs.length = 1 := by obtain ⟨_, rfl, _⟩ := h; rfl
end
section
variable [HasW]
abbrev N_l_line_of : List Str := ["_law_deck_here", "_law_many", "_law_things", "_law_k", "_law_parents_here"]
def t_l_line_of_add (K : PySem.W.Frag) : TS := (tDrop (tBM K "list" rAppend (tVar 2) (tCons (tTup (tCons (tC (.str "version")) (tCons (tVar 4) (tCons (tC (.int 1)) (tCons (tVar 3) tNil))))) tNil)))
def t_l_line_of_two (K : PySem.W.Frag) : TS := (tSeq (tIfS (tAnd (tTest (tOp rGtI (tVar 3) (tC (.int 4)))) (tTest (tOp rEq (tOp rModI (tOp rDivI (tVar 3) (tC (.int 3))) (tC (.int 2))) (tC (.int 0))))) (tAsg (tTup (tCons (tOp rSubI (tVar 3) (tC (.int 2))) (tCons (tOp rAddI (tVar 3) (tC (.int 1))) tNil))) (gName 4)) tNext)
    (t_l_line_of_add K))
def t_l_line_of_one (K : PySem.W.Frag) : TS := (tSeq (tIfS (tTest (tOp rGtI (tVar 3) (tC (.int 0)))) (tAsg (tTup (tCons (tOp rAddI (tVar 3) (tC (.int 1))) tNil)) (gName 4)) tNext)
    (t_l_line_of_two K))
def t_l_line_of (K : PySem.W.Frag) : TS := (tSeq (tAsg (tLst (tCons (tTup (tCons (tC (.str "leaf")) (tCons (tTup tNil) tNil))) (tCons (tTup (tCons (tC (.str "tree")) (tCons (tTup tNil) tNil))) tNil))) (gName 2))
    (tSeq (tFor (iRng1 (tCons (tVar 1) tNil)) (gName 3) (tSeq (tAsg (tTup tNil) (gName 4))
    (t_l_line_of_one K)))
    (tRet (tVar 2))))
abbrev N_l_ladder : List Str := ["_law_many", "_law_things", "_law_k", "_law_name"]
def t_l_ladder_add (K : PySem.W.Frag) : TS := (tDrop (tBM K "list" rAppend (tVar 1) (tCons (tTup (tCons (tC (.str "version")) (tCons (tCB (fTupleOf K) (tCons (tLc (iTup K (tTup (tCons (tVar 2) (tCons (tOp rAddI (tVar 2) (tC (.int 1))) tNil)))) (gName 3) (tTest (tOp rGtI (tVar 3) (tC (.int 1)))) (tVar 3) [3]) tNil)) (tCons (tC (.int 1)) (tCons (tVar 2) tNil))))) tNil)))
def t_l_ladder (K : PySem.W.Frag) : TS := (tSeq (tAsg (tLst (tCons (tTup (tCons (tC (.str "leaf")) (tCons (tTup tNil) tNil))) (tCons (tTup (tCons (tC (.str "tree")) (tCons (tTup tNil) tNil))) tNil))) (gName 1))
    (tSeq (tFor (iRng1 (tCons (tVar 0) tNil)) (gName 2) (t_l_ladder_add K))
    (tRet (tVar 1))))
end
section
variable [HasW] {K : PySem.W.Frag} {vs : List V} {H : Hp} {Q : VK} {E : XK}
/-- where the list of things has grown, all else that stood stands -/
theorem ln_put {H0 H : Hp} {T p A : Addr} {as : List Addr} {cs : List Ct} {n : Nat} {ps : List Int} (s0 : Same H0 H) (nT : H0 T = none) (hT : H T = some (.lst (as.map V.ref))) (hcs : CsAt H as cs) (l : LnC cs n) (hn : n ≤ 400) (hp : H p = some (.tup (ps.map V.int))) (few : ps.length ≤ 4) (inc : ps.Pairwise (· < ·)) (lo : ∀ p ∈ ps, 2 ≤ p ∧ p < (n : Int) + 2) (nA : H A = none) {R : Prop}
    (k : ∀ (H' : Hp) (as' : List Addr) (cs' : List Ct), H' = upd (upd H A (.tup [.str "version", .ref p, .int 1, .int (n : Int)])) T (.lst (as.map V.ref ++ [.ref A])) → Same H0 H' → H' T = some (.lst (as'.map V.ref)) → CsAt H' as' cs' → LnC cs' (n + 1) → R) : R := by
  have nTA : T ≠ A := ne_of_none hT nA
  have npA : p ≠ A := ne_of_none hp nA
  have npT : p ≠ T := ne_of hp hT (by intro z; cases z)
  refine k _ (as ++ [A]) (cs ++ [.ver ps 1 (n : Int)]) rfl (Same.updA (s0.trans (samN nA)) nT) (by rw [updS, List.map_append]; rfl) ?_ (l.snoc few inc lo (by omega))
  have tm : TM H (upd (upd H A (.tup [.str "version", .ref p, .int 1, .int (n : Int)])) T (.lst (as.map V.ref ++ [.ref A]))) := fun b xs h => by
    rw [upd_ne (ne_of h hT (by intro z; cases z)), upd_ne (ne_of_none h nA)]
    exact h
  refine (hcs.mono tm).snoc ⟨p, ?_, tm _ _ hp⟩
  rw [upd_ne nTA.symm, updS]
theorem line_add {H0 : Hp} {Qn : L2.St → Hp → Prop} {D T p : Addr} {m : Int} {as : List Addr} {cs : List Ct} {n : Nat} {ps : List Int} (s0 : Same H0 H) (nT : H0 T = none) (hT : H T = some (.lst (as.map V.ref))) (hcs : CsAt H as cs) (l : LnC cs n) (hn : n ≤ 400) (hp : H p = some (.tup (ps.map V.int))) (few : ps.length ≤ 4) (inc : ps.Pairwise (· < ·)) (lo : ∀ p ∈ ps, 2 ≤ p ∧ p < (n : Int) + 2)
    (k : ∀ (H' : Hp) (as' : List Addr) (cs' : List Ct), Same H0 H' → H' T = some (.lst (as'.map V.ref)) → CsAt H' as' cs' → LnC cs' (n + 1) → Qn [some (.ref D), some (.int m), some (.ref T), some (.int (n : Int)), some (.ref p)] H') :
    t_l_line_of_add K { nx := Qn, rt := Q } [some (.ref D), some (.int m), some (.ref T), some (.int (n : Int)), some (.ref p)] H := by
  refine ⟨_, rfl, .inl ⟨rfl, _, sqL hT⟩, _, rfl, _, rfl, by show (4 : Nat) ≤ sizeLine; decide, fun A nA => ?_⟩
  have nTA : T ≠ A := ne_of_none hT nA
  refine ⟨T, _, _, rfl, rfl, updN nTA hT, ?_, ?_⟩
  · have := l.len
    have := hcs.1
    rw [List.length_map]
    exact Nat.lt_of_le_of_lt (show _ ≤ 1000 by omega) (by decide)
  · exact ln_put s0 nT hT hcs l hn hp few inc lo nA fun H' as' cs' e s h1 h2 h3 => e ▸ k H' as' cs' s h1 h2 h3
theorem line_two {H0 : Hp} {Qn : L2.St → Hp → Prop} {D T p : Addr} {m : Int} {as : List Addr} {cs : List Ct} {n : Nat} {ps : List Int} (s0 : Same H0 H) (nT : H0 T = none) (hT : H T = some (.lst (as.map V.ref))) (hcs : CsAt H as cs) (l : LnC cs n) (hn : n ≤ 400) (hp : H p = some (.tup (ps.map V.int))) (few : ps.length ≤ 4) (inc : ps.Pairwise (· < ·)) (lo : ∀ p ∈ ps, 2 ≤ p ∧ p < (n : Int) + 2)
    (k : ∀ (H' : Hp) (as' : List Addr) (cs' : List Ct) (p' : Addr), Same H0 H' → H' T = some (.lst (as'.map V.ref)) → CsAt H' as' cs' → LnC cs' (n + 1) → Qn [some (.ref D), some (.int m), some (.ref T), some (.int (n : Int)), some (.ref p')] H') :
    t_l_line_of_two K { nx := Qn, rt := Q } [some (.ref D), some (.int m), some (.ref T), some (.int (n : Int)), some (.ref p)] H := by
  have go := line_add (K := K) (Q := Q) (Qn := Qn) (D := D) (m := m) s0 nT hT hcs l hn hp few inc lo fun H' as' cs' s h1 h2 h3 => k H' as' cs' p s h1 h2 h3
  refine ⟨_, rfl, _, _, rfl, rfl, _, rfl, ite2 (fun lt => ?_) (fun _ => iteF go)⟩
  have lt : 4 < n := by have := of_decide_eq_true lt; omega
  refine ⟨_, rfl, _, _, rfl, rfl, ⟨by decide, by decide +kernel⟩, _, _, rfl, rfl, by show (0 : Int) < 2; decide, ⟨rfl, _, rfl, ite2 (fun _ => ?_) (fun _ => go)⟩⟩
  refine ⟨_, rfl, _, _, rfl, rfl, _, rfl, _, _, rfl, rfl, by show (2 : Nat) ≤ sizeLine; decide, fun q nq => ?_⟩
  have nTq : T ≠ q := ne_of_none hT nq
  have sq : Same H (upd H q (.tup [.int ((n : Int) - 2), .int ((n : Int) + 1)])) := samN nq
  exact line_add (ps := [(n : Int) - 2, (n : Int) + 1]) (s0.trans sq) nT (sq _ _ hT) (hcs.mono (TM.of sq)) l hn updS (by show 2 ≤ 4; decide) (by simp; omega) (by simp; omega) fun H' as' cs' s h1 h2 h3 => k H' as' cs' q s h1 h2 h3
theorem line_one {H0 : Hp} {Qn : L2.St → Hp → Prop} {D T p : Addr} {m : Int} {as : List Addr} {cs : List Ct} {n : Nat} (s0 : Same H0 H) (nT : H0 T = none) (hT : H T = some (.lst (as.map V.ref))) (hcs : CsAt H as cs) (l : LnC cs n) (hn : n ≤ 400) (hp : H p = some (.tup []))
    (k : ∀ (H' : Hp) (as' : List Addr) (cs' : List Ct) (p' : Addr), Same H0 H' → H' T = some (.lst (as'.map V.ref)) → CsAt H' as' cs' → LnC cs' (n + 1) → Qn [some (.ref D), some (.int m), some (.ref T), some (.int (n : Int)), some (.ref p')] H') :
    t_l_line_of_one K { nx := Qn, rt := Q } [some (.ref D), some (.int m), some (.ref T), some (.int (n : Int)), some (.ref p)] H := by
  refine ⟨_, rfl, _, _, rfl, rfl, _, rfl, ite2 (fun lt => ?_) (fun _ => ?_)⟩
  · have lt : 0 < n := by have := of_decide_eq_true lt; omega
    refine ⟨_, rfl, _, _, rfl, rfl, by show (1 : Nat) ≤ sizeLine; decide, fun q nq => ?_⟩
    have sq : Same H (upd H q (.tup [.int ((n : Int) + 1)])) := samN nq
    exact line_two (ps := [(n : Int) + 1]) (s0.trans sq) nT (sq _ _ hT) (hcs.mono (TM.of sq)) l hn updS (by show 1 ≤ 4; decide) (by simp) (by simp; omega) k
  · exact line_two (ps := []) s0 nT hT hcs l hn hp (by show 0 ≤ 4; decide) .nil (fun x h => nomatch h) k
theorem cs_start {H0 H : Hp} {a1 a2 T l t : Addr} (h : H T = some (.lst [.ref a1, .ref a2])) (h1 : H a1 = some (.tup [.str "leaf", .ref l])) (h2 : H l = some (.tup [])) (h3 : H a2 = some (.tup [.str "tree", .ref t])) (h4 : H t = some (.tup [])) : CsAt H [a1, a2] [.leaf [], .tree []] :=
  ((CsAt.nil.snoc (T := a1) (c := .leaf []) ⟨l, h1, h2⟩).snoc (T := a2) (c := .tree []) ⟨t, [], h3, h4, rfl, fun i b e x _ => by simp at x⟩)
/-- the first two things made -/
theorem two_start {H : Hp} {Q : V → Hp → Prop}
    (k : ∀ (T : Addr) (as : List Addr) (H' : Hp), Same H H' → H T = none → H' T = some (.lst (as.map V.ref)) → CsAt H' as [.leaf [], .tree []] → Q (.ref T) H') {σ : L2.St} :
    tLst (tCons (tTup (tCons (tC (.str "leaf")) (tCons (tTup tNil) tNil))) (tCons (tTup (tCons (tC (.str "tree")) (tCons (tTup tNil) tNil))) tNil)) σ H Q := by
  refine ⟨by decide, fun l nl => ⟨by show (2 : Nat) ≤ sizeLine; decide, fun a1 n1 => ?_⟩⟩
  have s1 : Same H (upd H l (.tup [])) := samN nl
  have g1 : upd H l (.tup []) l = some (.tup []) := updS
  generalize upd H l (.tup []) = H1 at s1 g1 n1 ⊢
  have s2 : Same H1 (upd H1 a1 (.tup [.str "leaf", .ref l])) := samN n1
  have g2 : upd H1 a1 (.tup [.str "leaf", .ref l]) a1 = some (.tup [.str "leaf", .ref l]) := updS
  refine ⟨by decide, fun t nt => ⟨by show (2 : Nat) ≤ sizeLine; decide, fun a2 n2 => ?_⟩⟩
  have s3 : Same (upd H1 a1 (.tup [.str "leaf", .ref l])) (upd (upd H1 a1 (.tup [.str "leaf", .ref l])) t (.tup [])) := samN nt
  have g3 : upd (upd H1 a1 (.tup [.str "leaf", .ref l])) t (.tup []) t = some (.tup []) := updS
  have s13 := s1.trans (s2.trans s3)
  have h1 := s3 _ _ (s2 _ _ g1)
  have h2 := s3 _ _ g2
  generalize upd (upd H1 a1 (.tup [.str "leaf", .ref l])) t (.tup []) = H3 at s13 g3 h1 h2 n2 ⊢
  refine ⟨by show (2 : Nat) ≤ sizeLine; decide, fun T nT => ?_⟩
  have s4 : Same H3 (upd H3 a2 (.tup [.str "tree", .ref t])) := samN n2
  have g4 : upd H3 a2 (.tup [.str "tree", .ref t]) a2 = some (.tup [.str "tree", .ref t]) := updS
  have s14 := s13.trans s4
  generalize upd H3 a2 (.tup [.str "tree", .ref t]) = H4 at s4 g4 s14 nT ⊢
  have s5 : Same H4 (upd H4 T (.lst [.ref a1, .ref a2])) := samN nT
  have nT0 : H T = none := by
    cases z : H T with
    | none => rfl
    | some o => rw [s14 _ _ z] at nT; cases nT
  exact k T [a1, a2] _ (s14.trans s5) nT0 updS (cs_start (H0 := H) (T := T) updS (s5 _ _ (s4 _ _ h2)) (s5 _ _ (s4 _ _ h1)) (s5 _ _ g4) (s5 _ _ (s4 _ _ g3)))
theorem pure_l_line_of (h : sp_l_line_of K vs H Q E) : t_l_line_of K { nx := fun _ H' => Q .non H', rt := Q } (start N_l_line_of vs) H := by
  obtain ⟨D, m, rfl, m0, hm, k⟩ := h
  obtain ⟨n, rfl⟩ := Int.eq_ofNat_of_zero_le m0
  have hn : n ≤ 400 := by omega
  unfold t_l_line_of
  dsimp only [tSeq, tAsg]
  refine two_start fun T as H1 s1 nT hT hcs => ?_
  refine ⟨_, rfl, _, rfl, by omega, by omega, ?_⟩
  refine for_range (lo := 0) (n := ((n : Nat) : Int).toNat) (fun i σ H' => ∃ (as : List Addr) (cs : List Ct) (z3 z4 : Option V), σ = [some (.ref D), some (.int (n : Int)), some (.ref T), z3, z4] ∧ Same H H' ∧ H' T = some (.lst (as.map V.ref)) ∧ CsAt H' as cs ∧ LnC cs i)
    ⟨as, _, _, _, rfl, s1, hT, hcs, LnC.start⟩ ?_ ?_
  · rintro i σ H2 hi ⟨as, cs, z3, z4, rfl, s2, hT2, hcs2, l⟩
    rw [Int.toNat_natCast] at hi
    refine ⟨by decide, fun p np => ?_⟩
    have sp : Same H2 (upd H2 p (.tup [])) := samN np
    rw [Int.zero_add]
    exact line_one (Q := Q) (s2.trans sp) nT (sp _ _ hT2) (hcs2.mono (TM.of sp)) l (by omega) updS fun H' as' cs' p' s h1 h2 h3 => ⟨as', cs', _, _, rfl, s, h1, h2, h3⟩
  · rintro σ H2 ⟨as, cs, z3, z4, rfl, s2, hT2, hcs2, l⟩
    exact ⟨_, rfl, k T as cs H2 s2 nT hT2 hcs2 l⟩
theorem pure_l_ladder (h : sp_l_ladder K vs H Q E) : t_l_ladder K { nx := fun _ H' => Q .non H', rt := Q } (start N_l_ladder vs) H := by
  obtain ⟨m, rfl, m0, hm, k⟩ := h
  obtain ⟨n, rfl⟩ := Int.eq_ofNat_of_zero_le m0
  have hn : n ≤ 400 := by omega
  unfold t_l_ladder
  dsimp only [tSeq, tAsg]
  refine two_start fun T as H1 s1 nT hT hcs => ?_
  refine ⟨_, rfl, _, rfl, by omega, by omega, ?_⟩
  refine for_range (lo := 0) (n := ((n : Nat) : Int).toNat) (fun i σ H' => ∃ (as : List Addr) (cs : List Ct) (z2 z3 : Option V), σ = [some (.int (n : Int)), some (.ref T), z2, z3] ∧ Same H H' ∧ H' T = some (.lst (as.map V.ref)) ∧ CsAt H' as cs ∧ LnC cs i)
    ⟨as, _, _, _, rfl, s1, hT, hcs, LnC.start⟩ ?_ ?_
  · rintro i σ H2 hi ⟨as, cs, z2, z3, rfl, s2, hT2, hcs2, l⟩
    rw [Int.toNat_natCast] at hi
    rw [Int.zero_add]
    refine ⟨_, rfl, .inl ⟨rfl, _, sqL hT2⟩, _, rfl, _, rfl, _, _, rfl, rfl, by show (2 : Nat) ≤ sizeLine; decide, fun q nq => ⟨q, rfl, ⟨_, sqT updS⟩, fun L nL => ?_⟩⟩
    have sq : Same H2 (upd H2 q (.tup [.int (i : Int), .int ((i : Int) + 1)])) := samN nq
    have hq : upd H2 q (.tup [.int (i : Int), .int ((i : Int) + 1)]) q = some (.tup ([(i : Int), (i : Int) + 1].map V.int)) := updS
    have s3 := s2.trans sq
    have hT3 := sq _ _ hT2
    have hcs3 := hcs2.mono (TM.of sq)
    generalize upd H2 q (.tup [.int (i : Int), .int ((i : Int) + 1)]) = H3 at sq hq s3 hT3 hcs3 nL ⊢
    refine lc_filt (walk_tup (xs := [(i : Int), (i : Int) + 1].map V.int)) (fun i H x H' hy => hy) (p := fun x => decide (1 < x)) (by show 3 < 4; decide) nL (by rw [List.length_map]) (by show 2 ≤ 100000; decide) (fun H' s => sqT (s _ _ hq)) ?_ ?_
    · intro v H' R _ s r
      exact ⟨_, rfl, _, _, rfl, rfl, _, rfl, r _ (Same.refl _)⟩
    · intro H4 s4 hL
      refine ⟨L, _, rfl, .inl ⟨sqL hL, fun p np => ⟨_, rfl, by show (4 : Nat) ≤ sizeLine; decide, fun A nA => ?_⟩⟩⟩
      have s5 : Same H4 (upd H4 p (.tup (([(i : Int), (i : Int) + 1].filter fun x => decide (1 < x)).map V.int))) := samN np
      have s45 := s4.trans s5
      have hT5 := s45 _ _ hT3
      have nTA : T ≠ A := ne_of_none hT5 nA
      refine ⟨T, _, _, rfl, rfl, updN nTA hT5, ?_, ?_⟩
      · have := l.len
        have := hcs2.1
        rw [List.length_map]
        exact Nat.lt_of_le_of_lt (show _ ≤ 1000 by omega) (by decide)
      · refine ln_put (s3.trans s45) nT hT5 (hcs3.mono (TM.of s45)) l (by omega) updS (Nat.le_trans (List.length_filter_le _ _) (by show 2 ≤ 4; decide)) (List.Pairwise.filter _ (by simp; omega)) (fun x hx => ?_) nA fun H' as' cs' e s h1 h2 h3 => ?_
        · have := List.mem_filter.mp hx
          have h1 := of_decide_eq_true this.2
          have h2 := this.1
          simp at h2
          omega
        · rw [← e]
          exact ⟨as', cs', _, _, rfl, s, h1, h2, h3⟩
  · rintro σ H2 ⟨as, cs, z3, z4, rfl, s2, hT2, hcs2, l⟩
    exact ⟨_, rfl, k T as cs H2 s2 nT hT2 hcs2 l⟩
end
end Fw

set_option Elab.async false
set_option linter.all false
set_option maxRecDepth 100000
set_option maxHeartbeats 4000000
/-! A scene and a great holding that a law draws (law k52). -/
namespace Fw
open PySem L2 RZ RT
/-- a leaf, a tree with it, and versions of the tree -/
structure SnC (cs : List Ct) (m : Nat) : Prop where
  fam : FamOk cs
  c0 : ∃ rs, cs[0]? = some (.leaf rs)
  c1 : ∃ es, cs[1]? = some (.tree es)
  ver : ∀ (i : Nat) (c : Ct), cs[i + 2]? = some c → c.word = "version"
  few : cs.length ≤ m + 2
  more : 0 < m → 3 ≤ cs.length
theorem SnC.two {cs : List Ct} {m : Nat} (s : SnC cs m) : 2 ≤ cs.length := by
  obtain ⟨es, h⟩ := s.c1
  exact (List.getElem?_eq_some_iff.mp h).1
theorem SnC.start : SnC [.leaf [], .tree [("a", 0)]] 0 := by
  have f1 : FamOk [Ct.leaf []] := FamOk.snoc (cs := []) FamOk.nil ⟨by decide, fun z h => nomatch h⟩ rfl (by simp)
  have f2 : FamOk ([Ct.leaf []] ++ [Ct.tree [("a", 0)]]) := f1.snoc ⟨by decide, (fun z h => by
      rw [List.mem_singleton.mp h]
      exact okLab1 (c := 97) (by decide) (by decide)), by simp⟩ (inB_tree (fun e he => by
      rw [List.mem_singleton.mp he]
      exact hasK_at (i := 0) (c := .leaf []) rfl con2) (by decide)) (by simp)
  exact ⟨f2, ⟨_, rfl⟩, ⟨_, rfl⟩, (fun i c h => by simp at h), by decide, fun h => absurd h (by decide)⟩
theorem SnC.add {cs : List Ct} {m : Nat} {ps : List Int} {st : Int} (s : SnC cs m) (fo : (Ct.ver ps 1 st).form) (lo : ∀ p ∈ ps, 2 ≤ p ∧ p < (cs.length : Int)) : SnC (addC cs (.ver ps 1 st)) (m + 1) := by
  have two := s.two
  obtain ⟨fam, ⟨rs, c0⟩, ⟨es, c1⟩, ver, few, more⟩ := s
  have inb : (Ct.ver ps 1 st).inB cs = true := by
    unfold Ct.inB
    rw [Bool.and_eq_true]
    refine ⟨List.all_eq_true.mpr fun p hp => ?_, hasK_at c1 con1⟩
    obtain ⟨h1, h2⟩ := lo p hp
    obtain ⟨q, rfl⟩ := Int.eq_ofNat_of_zero_le (show 0 ≤ p by omega)
    obtain ⟨j, rfl⟩ : ∃ j, q = j + 2 := ⟨q - 2, by omega⟩
    have hj : j + 2 < cs.length := by omega
    refine hasK_at (List.getElem?_eq_getElem hj) ?_
    rw [ver j _ (List.getElem?_eq_getElem hj)]
    exact con1
  have f' := fam.add fo inb
  have l' := addC_len cs (.ver ps 1 st)
  unfold addC at *
  by_cases h : Ct.ver ps 1 st ∈ cs
  · rw [if_pos h] at *
    refine ⟨f', ⟨rs, c0⟩, ⟨es, c1⟩, ver, by omega, fun _ => ?_⟩
    obtain ⟨i, hi⟩ := List.mem_iff_getElem?.mp h
    have il := (List.getElem?_eq_some_iff.mp hi).1
    match i, hi, il with
    | 0, hi, _ => rw [c0] at hi; cases hi
    | 1, hi, _ => rw [c1] at hi; cases hi
    | j + 2, _, il => omega
  · rw [if_neg h] at *
    refine ⟨f', ⟨rs, ?_⟩, ⟨es, ?_⟩, fun i c hc => ?_, by omega, fun _ => ?_⟩
    · rw [List.getElem?_append_left (by omega)]; exact c0
    · rw [List.getElem?_append_left (by omega)]; exact c1
    · by_cases hi : i + 2 < cs.length
      · rw [List.getElem?_append_left hi] at hc; exact ver i c hc
      · rw [List.getElem?_append_right (by omega)] at hc
        have := List.mem_singleton.mp (List.mem_of_getElem? hc)
        rw [this]
        rfl
    · rw [List.length_append, List.length_singleton]; omega
theorem SnC.isV {cs : List Ct} {m : Nat} (s : SnC cs m) {i : Nat} (h : i + 2 < cs.length) : isV cs ((i + 2 : Nat) : Int) = true := by
  rw [isV_at (List.getElem?_eq_getElem h), s.ver i _ (List.getElem?_eq_getElem h)]
  exact decide_eq_true rfl
/-- what a law has drawn: the things, and names held, some version among them -/
structure ThK (c D : Addr) (dn : List Int) (t' : Nat) (H H' : Hp) (T L : Addr) (as : List Addr) (cs : List Ct) (ns : List Int) : Prop where
  nT : H T = none
  nL : H L = none
  tr : H' T = some (.lst (as.map V.ref))
  cs_ : CsAt H' as cs
  fam : FamOk cs
  few : cs.length ≤ 400
  held : H' L = some (.lst (ns.map V.int))
  inc : ns.Pairwise (· < ·)
  nm : NmOk cs ns
  some_ : ∃ x ∈ ns, isV cs x = true
  kp : Kp D H H'
  dk : Dk c D dn t' H'
section
variable [HasW]
def sp_l_scene (_ : PySem.W.Frag) : Sp := fun vs H Q _ => ∃ (c D : Addr) (dn : List Int) (t : Nat) (m : Int), vs = [.ref D, .int m] ∧ Dk c D dn t H ∧ 1 ≤ m ∧ m ≤ 20 ∧ t + 2000 < 1000000000 ∧
  ∀ (q T L : Addr) (as : List Addr) (cs : List Ct) (ns : List Int) (H' : Hp), H' q = some (.tup [.ref T, .ref L]) → ThK c D dn (t + 2000) H H' T L as cs ns → Q (.ref q) H'
def sp_l_great (_ : PySem.W.Frag) : Sp := fun vs H Q _ => ∃ (c D : Addr) (dn : List Int) (t : Nat) (m : Int), vs = [.ref D, .int m] ∧ Dk c D dn t H ∧ t + 2000 < 1000000000 ∧
  ∀ (q T L : Addr) (as : List Addr) (cs : List Ct) (ns : List Int) (H' : Hp), H' q = some (.tup [.ref T, .ref L]) → ThK c D dn (t + 2000) H H' T L as cs ns → Q (.ref q) H'
end
section
variable [HasW] {K : PySem.W.Frag} {vs : List V} {H : Hp} {Q : VK} {E : XK}
theorem len_l_scene (h : sp_l_scene K vs H Q E) : vs.length = 2 := by obtain ⟨_, _, _, _, _, rfl, _⟩ := h; rfl
theorem len_l_great (h : sp_l_great K vs H Q E) : vs.length = 2 := by obtain ⟨_, _, _, _, _, rfl, _⟩ := h; rfl
end
section
variable [HasW]
abbrev N_l_scene : List Str := ["_law_deck_here", "_law_most", "_law_pick", "_law_things", "_law_k", "_law_parents_here", "_law_names", "_law_held", "_law_gone", "_law_name"]
def t_l_scene_end (K : PySem.W.Frag) : TS := (tSeq (tDrop (tBM K "list" rAppend (tVar 7) (tCons (tOp rAddI (tC (.int 2)) (tCall (sp_l_draw K) [] E0 (tCons (tVar 0) (tCons (tOp rSubI (tCB (fLen K) (tCons (tVar 3) tNil)) (tC (.int 2))) tNil)))) tNil)))
    (tRet (tTup (tCons (tVar 3) (tCons (tSortSet K (tVar 7)) tNil)))))
def t_l_scene_held (K : PySem.W.Frag) : TS := (tSeq (tIfS (tTest (tOp rEq (tVar 2) (tC (.int 0)))) (tAsg (tLc (iList K (tVar 6)) (gName 9) (tTest (tOp rEq (tCall (sp_l_draw K) [] E0 (tCons (tVar 0) (tCons (tC (.int 2)) tNil))) (tC (.int 1)))) (tVar 9) [9]) (gName 7)) (tSeq (tAsg (tLc (iRng1 (tCons (tCall (sp_l_draw K) [] E0 (tCons (tVar 0) (tCons (tC (.int 4)) tNil))) tNil)) (gName 4) tYes (tCall (sp_l_draw K) [] E0 (tCons (tVar 0) (tCons (tOp rMulI (tC (.int 2)) (tCB (fLen K) (tCons (tVar 3) tNil))) tNil))) [4]) (gName 8))
    (tAsg (tLc (iList K (tVar 6)) (gName 9) (tTest (tOp (rIn K true) (tVar 9) (tVar 8))) (tVar 9) [9]) (gName 7))))
    (t_l_scene_end K))
def t_l_scene_names (K : PySem.W.Frag) : TS := (tSeq (tAsg (tLstRg (tRg1 (tCB (fLen K) (tCons (tVar 3) tNil)))) (gName 6))
    (t_l_scene_held K))
def t_l_scene (K : PySem.W.Frag) : TS := (tSeq (tAsg (tCall (sp_l_draw K) [] E0 (tCons (tVar 0) (tCons (tC (.int 3)) tNil))) (gName 2))
    (tSeq (tAsg (tLst (tCons (tTup (tCons (tC (.str "leaf")) (tCons (tTup tNil) tNil))) (tCons (tTup (tCons (tC (.str "tree")) (tCons (tTup (tCons (tTup (tCons (tC (.str "a")) (tCons (tC (.int 0)) tNil))) tNil)) tNil))) tNil))) (gName 3))
    (tSeq (tFor (iRng1 (tCons (tOp rAddI (tC (.int 1)) (tCall (sp_l_draw K) [] E0 (tCons (tVar 0) (tCons (tVar 1) tNil)))) tNil)) (gName 4) (tSeq (tAsg (tCall (sp_l_some K) [] E0 (tCons (tVar 0) (tCons (tLstRg (tRg2 (tC (.int 2)) (tCB (fLen K) (tCons (tVar 3) tNil)))) (tCons (tCall (sp_l_draw K) [] E0 (tCons (tVar 0) (tCons (tC (.int 4)) tNil))) tNil)))) (gName 5))
    (tDrop (tCall (sp_l_give K) [] E0 (tCons (tVar 3) (tCons (tTup (tCons (tC (.str "version")) (tCons (tVar 5) (tCons (tC (.int 1)) (tCons (tCall (sp_l_draw K) [] E0 (tCons (tVar 0) (tCons (tOp rAddI (tOp rPowI (tC (.int 10)) (tC (.int 18))) (tC (.int 1))) tNil))) tNil))))) tNil))))))
    (t_l_scene_names K))))
abbrev N_l_great : List Str := ["_law_deck_here", "_law_pick", "_law_things", "_law_gone", "_law_k", "_law_held", "_law_name"]
def t_l_great_held (K : PySem.W.Frag) : TS := (tSeq (tAsg (tLc (iRng1 (tCons (tCB (fLen K) (tCons (tVar 2) tNil)) tNil)) (gName 6) (tOr (tTest (tOp rEq (tVar 6) (tOp rSubI (tCB (fLen K) (tCons (tVar 2) tNil)) (tC (.int 1))))) (tTest (tOp (rIn K true) (tVar 6) (tVar 3)))) (tVar 6) [6]) (gName 5))
    (tRet (tTup (tCons (tVar 2) (tCons (tVar 5) tNil)))))
def t_l_great_gone (K : PySem.W.Frag) : TS := (tSeq (tAsg (tLc (iRng1 (tCons (tC (.int 3)) tNil)) (gName 4) tYes (tCall (sp_l_draw K) [] E0 (tCons (tVar 0) (tCons (tOp rMulI (tC (.int 3)) (tCB (fLen K) (tCons (tVar 2) tNil))) tNil))) [4]) (gName 3))
    (t_l_great_held K))
def t_l_great (K : PySem.W.Frag) : TS := (tSeq (tAsg (tCall (sp_l_ladder K) [] E0 (tCons (tOp rAddI (tC (.int 40)) (tCall (sp_l_draw K) [] E0 (tCons (tVar 0) (tCons (tC (.int 81)) tNil)))) tNil)) (gName 2))
    (tSeq (tIfS (tTest (tOp rEq (tVar 1) (tC (.int 0)))) (tAsg (tCall (sp_l_line_of K) [] E0 (tCons (tVar 0) (tCons (tOp rAddI (tC (.int 330)) (tCall (sp_l_draw K) [] E0 (tCons (tVar 0) (tCons (tC (.int 69)) tNil)))) tNil))) (gName 2)) tNext)
    (t_l_great_gone K)))
end
section
variable [HasW] {K : PySem.W.Frag} {vs : List V} {H : Hp} {Q : VK} {E : XK}
/-- a walk over a range, as one over its numbers -/
theorem walk_rgI {n : Nat} : Walk (Itr 0 n) n (fun _ => True) (fun i H x H' => H' = H ∧ (((List.range n).map Int.ofNat).map V.int)[i]? = some x) :=
  ⟨fun _ _ hi _ => hi, fun _ _ => Nat.le_refl _, fun i H x H' hi _ y => by
    obtain ⟨rfl, rfl⟩ := y
    refine ⟨rfl, ?_⟩
    rw [List.getElem?_map, List.getElem?_map, List.getElem?_range hi]
    show some (V.int (i : Int)) = some (V.int (0 + (i : Int)))
    rw [Int.zero_add]⟩
theorem scene_end {c D T N L : Addr} {dn : List Int} {t m : Nat} {pm i2 : Int} {as : List Addr} {cs : List Ct} {ms : List Int} {z4 z5 z8 z9 : Option V} (dk : Dk c D dn t H) (nTD : T ≠ D) (nLD : L ≠ D) (hT : H T = some (.lst (as.map V.ref))) (hcs : CsAt H as cs) (s : SnC cs m) (l3 : 3 ≤ cs.length) (few : cs.length ≤ 40) (hL : H L = some (.lst (ms.map V.int))) (nTL : T ≠ L) (nLc : L ≠ c) (nm : NmOk cs ms) (lm : ms.length ≤ 40) (ht : t + 10 < 1000000000)
    (k : ∀ (q R : Addr) (ns : List Int) (H' : Hp), Kf [D, L] H H' → H R = none → H' q = some (.tup [.ref T, .ref R]) → H' R = some (.lst (ns.map V.int)) → ns.Pairwise (· < ·) → NmOk cs ns → (∃ x ∈ ns, isV cs x = true) → Dk c D dn (t + 1) H' → Q (.ref q) H') :
    t_l_scene_end K { nx := fun _ H' => Q .non H', rt := Q } [some (.ref D), some (.int pm), some (.int i2), some (.ref T), z4, z5, some (.ref N), some (.ref L), z8, z9] H := by
  have tl : as.length = cs.length := hcs.1
  refine ⟨_, rfl, .inl ⟨rfl, _, sqL hL⟩, _, rfl, _, rfl, lenL hT ⟨_, _, rfl, rfl, c, D, dn, t, _, rfl, dk, by omega, by rw [List.length_map]; omega, by rw [List.length_map]; exact small100 (by omega), fun v H2 v0 v1 d2 fr2 => ?_⟩⟩
  rw [List.length_map] at v1
  have hL2 : H2 L = some (.lst (ms.map V.int)) := by rw [fr2 _ nLD]; exact hL
  obtain ⟨j, rfl⟩ := Int.eq_ofNat_of_zero_le v0
  have hj : j + 2 < cs.length := by omega
  refine ⟨_, _, rfl, rfl, L, _, _, rfl, rfl, hL2, by rw [List.length_map]; exact Nat.lt_of_le_of_lt (show _ ≤ 1000 by omega) (by decide), ?_⟩
  have hL3 : upd H2 L (.lst (ms.map V.int ++ [.int (2 + (j : Int))])) L = some (.lst ((ms ++ [2 + (j : Int)]).map V.int)) := by rw [updS, List.map_append]; rfl
  have kf3 : Kf [D, L] H (upd H2 L (.lst (ms.map V.int ++ [.int (2 + (j : Int))]))) := (Kf.but fr2 (by simp)).up (by simp)
  have d3 : Dk c D dn (t + 1) (upd H2 L (.lst (ms.map V.int ++ [.int (2 + (j : Int))]))) := d2.upd nLc nLD
  have hT3 : upd H2 L (.lst (ms.map V.int ++ [.int (2 + (j : Int))])) T = some (.lst (as.map V.ref)) := kf3 _ _ hT (by simp [nTD, nTL])
  generalize upd H2 L (.lst (ms.map V.int ++ [.int (2 + (j : Int))])) = H3 at hL3 kf3 d3 hT3 ⊢
  refine ⟨_, rfl, _, rfl, L, _, rfl, sqL hL3, by rw [List.length_append]; show ms.length + 1 < 64; omega, fun ys q p u nq np inc mem len => ⟨by show (2 : Nat) ≤ sizeLine; decide, fun A nA => ?_⟩⟩
  have s4 : Same H3 (upd (upd H3 q u) p (.lst (ys.map V.int))) := (samN nq).trans (samN np)
  have npA : p ≠ A := ne_of_none updS nA
  have s5 := s4.trans (samN (o := .tup [.ref T, .ref p]) nA)
  have np3 : H3 p = none := by
    cases z : H3 p with
    | none => rfl
    | some o => rw [(samN (o := u) nq) _ _ z] at np; cases np
  have np0 : H p = none := by
    cases z : H p with
    | none => rfl
    | some o =>
      have n1 : p ≠ D := d3.neD np3
      have n2 : p ≠ L := (ne_of_none hL3 np3).symm
      rw [kf3 _ _ z (by simp [n1, n2])] at np3; cases np3
  refine k A p ys _ (kf3.trans (Kf.same s5)) np0 updS (updN npA updS) inc (fun y hy => ?_) ⟨2 + (j : Int), (mem _).mpr (by simp), ?_⟩ (d3.same s5)
  · rcases List.mem_append.mp ((mem y).mp hy) with h | h
    · exact nm y h
    · rw [List.mem_singleton.mp h]
      constructor
      · omega
      · rw [show (2 + (j : Int)) = ((j + 2 : Nat) : Int) by omega, Int.toNat_natCast]; exact hj
  · rw [show (2 + (j : Int)) = ((j + 2 : Nat) : Int) by omega]
    exact s.isV hj
theorem scene_held {c D T N : Addr} {dn : List Int} {t m : Nat} {pm i2 : Int} {as : List Addr} {cs : List Ct} {z4 z5 z7 z8 z9 : Option V} (dk : Dk c D dn t H) (nTD : T ≠ D) (hT : H T = some (.lst (as.map V.ref))) (hcs : CsAt H as cs) (s : SnC cs m) (l3 : 3 ≤ cs.length) (few : cs.length ≤ 30) (hN : H N = some (.lst (((List.range cs.length).map Int.ofNat).map V.int))) (nND : N ≠ D) (ht : t + 100 < 1000000000)
    (k : ∀ (q R : Addr) (ns : List Int) (H' : Hp), Kp D H H' → H R = none → H' q = some (.tup [.ref T, .ref R]) → H' R = some (.lst (ns.map V.int)) → ns.Pairwise (· < ·) → NmOk cs ns → (∃ x ∈ ns, isV cs x = true) → Dk c D dn (t + 100) H' → Q (.ref q) H') :
    t_l_scene_held K { nx := fun _ H' => Q .non H', rt := Q } [some (.ref D), some (.int pm), some (.int i2), some (.ref T), z4, z5, some (.ref N), z7, z8, z9] H := by
  have l0 : ((List.range cs.length).map Int.ofNat).length = cs.length := by rw [List.length_map, List.length_range]
  have tl : as.length = cs.length := hcs.1
  obtain ⟨xs, hD⟩ := dk.someD
  have tmO : ∀ {M : Addr} {H' : Hp}, H M = none → Kf [D, M] H H' → TM H H' := fun nM kf => kf.tm fun x hx ys e => by
    simp only [List.mem_cons, List.not_mem_nil, or_false] at hx
    rcases hx with rfl | rfl
    · rw [hD] at e; cases e
    · rw [nM] at e; cases e
  -- the list of the held, wherever it came from
  have go : ∀ (L : Addr) (ms : List Int) (z8' z9' : Option V) (H1 : Hp), Kp D H H1 → (H L = none) → L ≠ D → L ≠ c → L ≠ T → H1 L = some (.lst (ms.map V.int)) → ms.Sublist ((List.range cs.length).map Int.ofNat) → CsAt H1 as cs → (∃ t', t' ≤ t + 60 ∧ Dk c D dn t' H1) → t_l_scene_end K { nx := fun _ H' => Q .non H', rt := Q } [some (.ref D), some (.int pm), some (.int i2), some (.ref T), z4, z5, some (.ref N), some (.ref L), z8', z9'] H1 := by
    rintro L ms z8' z9' H1 kp nL nLD nLc nLT hL sb hcs1 ⟨t', ht', d1⟩
    have lm : ms.length ≤ 30 := by have := sb.length_le; rw [l0] at this; omega
    refine scene_end d1 nTD nLD (kp _ _ hT nTD) hcs1 s l3 (by omega) hL nLT.symm nLc ((range_ok cs).sub fun x hx => sb.subset hx) (by omega) (by omega) fun q R ns H' kf nR h1 h2 h3 h4 h5 d' => k q R ns H' (fun b o e n => kf b o (kp b o e n) (by simp [n, ne_of_none e nL])) ?_ h1 h2 h3 h4 h5 (d'.le (by omega))
    cases z : H R with
    | none => rfl
    | some o =>
      rw [kp R o z (d1.neD nR)] at nR; cases nR
  refine ⟨_, rfl, rfl, _, rfl, ite2 (fun _ => ?_) (fun _ => ?_)⟩
  · refine ⟨_, rfl, N, rfl, ⟨_, sqL hN⟩, fun L nL => ?_⟩
    have nDL : D ≠ L := (dk.neD nL).symm
    have ncL : c ≠ L := (dk.neC nL).symm
    have nNL : N ≠ L := ne_of_none hN nL
    refine lc_sub (ns := (List.range cs.length).map Int.ofNat) (walk_list (xs := ((List.range cs.length).map Int.ofNat).map V.int)) (fun i H x H' y => ⟨y.1, y.2⟩) (fun i H' => Kf [D, L] H H' ∧ Dk c D dn (t + i) H') (fun _ => True) (by show 9 < 10; decide) (by simp) (by rw [List.length_map, l0]; omega) ⟨Kf.refl.up (by simp), dk.upd ncL.symm nDL.symm⟩ (fun i H' p => sqL (p.1 _ _ hN (by simp [nND, nNL]))) (fun i H' o p => ⟨p.1.up (by simp), p.2.upd ncL.symm nDL.symm⟩) ?_ ?_
    · intro i v H' R hv ⟨kf, d'⟩ q
      have hi := (List.getElem?_eq_some_iff.mp hv).1
      rw [l0] at hi
      exact ⟨_, rfl, c, D, dn, _, 2, rfl, d', by omega, by decide, by decide, fun x H'' _ _ d'' fr => ⟨rfl, _, rfl, q _ H'' (fun _ => trivial) ⟨kf.trans (Kf.but fr (by simp)), d''⟩ (fr _ nDL.symm)⟩⟩
    · intro H' ms ⟨kf, d'⟩ sb _ hL
      rw [List.length_map, l0] at d'
      exact go L ms _ _ H' (fun b o e n => kf b o e (by simp [n, ne_of_none e nL])) nL nDL.symm ncL.symm (ne_of_none hT nL).symm hL sb (hcs.mono (tmO nL kf)) ⟨_, by omega, d'⟩
  · refine ⟨_, rfl, c, D, dn, t, 4, rfl, dk, by omega, by decide, by decide, fun v H2 v0 v1 d2 fr2 => ⟨v, rfl, by omega, by omega, fun G nG => ?_⟩⟩
    have kp2 : Kp D H H2 := .fr fr2
    have hT2 := kp2 _ _ hT nTD
    have hN2 := kp2 _ _ hN nND
    have nDG : D ≠ G := (d2.neD nG).symm
    have ncG : c ≠ G := (d2.neC nG).symm
    have nTG : T ≠ G := ne_of_none hT2 nG
    refine lc_it (walk_range (lo := 0) (n := v.toNat)) (fun i H' => Kf [D, G] H2 H' ∧ Dk c D dn (t + 1 + i) H' ∧ ∃ gs : List Int, H' G = some (.lst (gs.map V.int)) ∧ gs.length = i) ⟨Kf.refl.up (by simp), d2.upd ncG.symm nDG.symm, [], updS, rfl⟩ (fun _ _ _ _ => True.intro) ?_ ?_
    · rintro i x H' H'' hi ⟨kf, d', gs, hG, gl⟩ hy
      obtain ⟨rfl, rfl⟩ := hy
      refine ⟨by simp [wipe], ?_⟩
      dsimp only [tYes]
      rw [if_pos rfl]
      have hi3 : i < 4 := by omega
      refine ⟨_, rfl, _, rfl, lenL (kf _ _ hT2 (by simp [nTD, nTG])) ⟨_, _, rfl, rfl, (.inl ⟨by decide, by decide⟩), c, D, dn, _, _, rfl, d', by omega, by rw [List.length_map]; omega, by rw [List.length_map]; exact small100 (by omega), fun y H4 _ _ d4 fr4 => ?_⟩⟩
      have hG4 := (fr4 _ nDG.symm).trans hG
      refine ⟨_, hG4, ?_, (kf.trans (Kf.but fr4 (by simp))).up (by simp), d4.upd ncG.symm nDG.symm, gs ++ [y], by rw [updS, List.map_append]; rfl, by rw [List.length_append, gl]; rfl⟩
      rw [List.length_map]
      exact Nat.lt_of_le_of_lt (show gs.length ≤ 1000 by omega) (by decide)
    · rintro H' ⟨kf, d', gs, hG, gl⟩
      have hN3 := kf _ _ hN2 (by simp [nND, ne_of_none hN2 nG])
      refine ⟨_, rfl, N, rfl, ⟨_, sqL hN3⟩, fun L nL => ?_⟩
      refine lc_filt (ns := (List.range cs.length).map Int.ofNat) (p := fun q => !decide (q ∈ gs)) (walk_list (xs := ((List.range cs.length).map Int.ofNat).map V.int)) (fun i H x H' y => ⟨y.1, y.2⟩) (by show 9 < 10; decide) nL (by simp) (by rw [List.length_map, l0]; omega) (fun H' s => sqL (s _ _ hN3)) ?_ ?_
      · intro v H5 X hv s q
        refine ⟨_, rfl, _, rfl, G, _, rfl, .inl (sqL (s _ _ hG)), rfl, fl_ints _, _, rfl, ?_⟩
        rw [if_pos rfl, i_ints]
        exact q _ (Same.refl _)
      · intro H5 s5 hL
        have nG0 : H G = none := kp2.free nG nDG.symm
        have kpH : Kp D H H' := fun b o e n => kf b o (kp2 b o e n) (by simp [n, ne_of_none e nG0])
        have nL0 : H L = none := kpH.free nL (d'.neD nL)
        have hT5 : H' T = some (.lst (as.map V.ref)) := kpH _ _ hT nTD
        have tm : TM H H5 := fun b ys e => s5 _ _ (kpH b _ e (by intro z; rw [z, hD] at e; cases e))
        exact go L _ _ _ H5 (fun b o e n => s5 _ _ (kpH b o e n)) nL0 (d'.neD nL) (d'.neC nL) (ne_of_none hT5 nL).symm hL List.filter_sublist (hcs.mono tm) ⟨_, by omega, d'.same s5⟩
theorem pure_l_scene (h : sp_l_scene K vs H Q E) : t_l_scene K { nx := fun _ H' => Q .non H', rt := Q } (start N_l_scene vs) H := by
  obtain ⟨c, D, dn, t, m, rfl, dk, m1, m2, ht, k⟩ := h
  refine ⟨_, rfl, c, D, dn, t, 3, rfl, dk, by omega, by decide, by decide, fun pick H1 p0 p1 d1 fr1 => ?_⟩
  have kp1 : Kp D H H1 := .fr fr1
  refine ⟨by decide, fun l nl => ⟨by show (2 : Nat) ≤ sizeLine; decide, fun a1 n1 => ?_⟩⟩
  have s2 : Same H1 (upd H1 l (.tup [])) := samN nl
  have g1 : upd H1 l (.tup []) l = some (.tup []) := updS
  generalize upd H1 l (.tup []) = H2 at s2 g1 n1 ⊢
  have s3 : Same H2 (upd H2 a1 (.tup [.str "leaf", .ref l])) := samN n1
  have g2 : upd H2 a1 (.tup [.str "leaf", .ref l]) a1 = some (.tup [.str "leaf", .ref l]) := updS
  have h1 := s3 _ _ g1
  have s13 := s2.trans s3
  generalize upd H2 a1 (.tup [.str "leaf", .ref l]) = H3 at s13 g2 h1 ⊢
  refine ⟨by show (2 : Nat) ≤ sizeLine; decide, fun e ne => ⟨by show (1 : Nat) ≤ sizeLine; decide, fun f nf => ?_⟩⟩
  have s4 : Same H3 (upd H3 e (.tup [.str "a", .int 0])) := samN ne
  have g3 : upd H3 e (.tup [.str "a", .int 0]) e = some (.tup [.str "a", .int 0]) := updS
  generalize upd H3 e (.tup [.str "a", .int 0]) = H4 at s4 g3 nf ⊢
  have s5 : Same H4 (upd H4 f (.tup [.ref e])) := samN nf
  have g4 : upd H4 f (.tup [.ref e]) f = some (.tup [.ref e]) := updS
  have s15 := s13.trans (s4.trans s5)
  have h1 := s5 _ _ (s4 _ _ h1)
  have h2 := s5 _ _ (s4 _ _ g2)
  have h3 := s5 _ _ g3
  generalize upd H4 f (.tup [.ref e]) = H5 at s15 g4 h1 h2 h3 ⊢
  refine ⟨by show (2 : Nat) ≤ sizeLine; decide, fun a2 n2 => ⟨by show (2 : Nat) ≤ sizeLine; decide, fun T nT => ?_⟩⟩
  have s6 : Same H5 (upd H5 a2 (.tup [.str "tree", .ref f])) := samN n2
  have g5 : upd H5 a2 (.tup [.str "tree", .ref f]) a2 = some (.tup [.str "tree", .ref f]) := updS
  have s16 := s15.trans s6
  generalize upd H5 a2 (.tup [.str "tree", .ref f]) = H6 at s6 g5 s16 nT ⊢
  have s7 : Same H6 (upd H6 T (.lst [.ref a1, .ref a2])) := samN nT
  have s17 := s16.trans s7
  have hT : upd H6 T (.lst [.ref a1, .ref a2]) T = some (.lst ([a1, a2].map V.ref)) := updS
  have hcs : CsAt (upd H6 T (.lst [.ref a1, .ref a2])) [a1, a2] [.leaf [], .tree [("a", 0)]] := by
    refine (CsAt.nil.snoc (T := a1) (c := .leaf []) ⟨l, s7 _ _ (s6 _ _ h2), s7 _ _ (s6 _ _ h1)⟩).snoc (T := a2) (c := .tree [("a", 0)]) ⟨f, [e], s7 _ _ g5, s7 _ _ (s6 _ _ g4), rfl, fun i b x hb hx => ?_⟩
    match i, hb, hx with
    | 0, hb, hx =>
      cases Option.some.inj hb
      cases Option.some.inj hx
      exact s7 _ _ (s6 _ _ h3)
    | j + 1, hb, _ => simp at hb
  have nT1 : H1 T = none := by
    cases z : H1 T with
    | none => rfl
    | some o => rw [s16 _ _ z] at nT; cases nT
  have d7 := d1.same s17
  generalize upd H6 T (.lst [.ref a1, .ref a2]) = H7 at s17 hT hcs d7 ⊢
  have nTD : T ≠ D := d1.neD nT1
  have nTc : T ≠ c := d1.neC nT1
  have nT0 : H T = none := kp1.free nT1 nTD
  clear s2 s3 s4 s5 s6 s7 s13 s15 s16 g1 g2 g3 g4 g5 h1 h2 h3 nT nl n1 n2 ne nf
  refine ⟨_, rfl, _, rfl, c, D, dn, _, m, rfl, d7, by omega, by omega, small100 (by omega), fun w H8 w0 w1 d8 fr8 => ⟨_, _, rfl, rfl, _, rfl, by omega, by omega, ?_⟩⟩
  have hcs8 : CsAt H8 [a1, a2] [.leaf [], .tree [("a", 0)]] := hcs.mono ((Kp.fr fr8).tm d7)
  have hT8 : H8 T = some (.lst ([a1, a2].map V.ref)) := by rw [fr8 _ nTD]; exact hT
  have kf8 : Kf [D, T] H1 H8 := (Kf.same s17).trans (Kf.but fr8 (by simp))
  obtain ⟨xs, hD1⟩ := d1.someD
  refine for_range (lo := 0) (n := (1 + w).toNat) (fun i σ H' => Kf [D, T] H1 H' ∧ Dk c D dn (t + 2 + 42 * i) H' ∧ ∃ (as : List Addr) (cs : List Ct) (z4 z5 : Option V), σ = [some (.ref D), some (.int m), some (.int pick), some (.ref T), z4, z5, none, none, none, none] ∧ H' T = some (.lst (as.map V.ref)) ∧ CsAt H' as cs ∧ SnC cs i)
    ⟨kf8, d8, _, _, _, _, rfl, hT8, hcs8, SnC.start⟩ ?_ ?_
  · rintro i σ H9 hi ⟨kf9, d9, as, cs, z4, z5, rfl, hT9, hcs9, sn⟩
    have hi : i < 21 := by omega
    have few := sn.few
    have two := sn.two
    have tl : as.length = cs.length := hcs9.1
    refine ⟨_, rfl, _, rfl, lenL hT9 ⟨_, _, rfl, rfl, RgOk.of_le (by decide) (by rw [List.length_map]; omega) (by decide) (by omega), fun W nW => ?_⟩⟩
    have hW : upd H9 W (.lst (rgV 2 ((as.map V.ref).length : Int))) W = some (.lst (((List.range (cs.length - 2)).map fun i : Nat => 2 + (i : Int)).map V.int)) := by
      rw [updS]
      unfold rgV
      rw [List.map_map, List.length_map, tl, show ((cs.length : Int) - 2).toNat = cs.length - 2 by omega]
      rfl
    have sW : Same H9 (upd H9 W (.lst (rgV 2 ((as.map V.ref).length : Int)))) := samN nW
    have nWD := d9.neD nW
    have dW := d9.same sW
    generalize upd H9 W (.lst (rgV 2 ((as.map V.ref).length : Int))) = H10 at hW sW dW ⊢
    refine ⟨_, rfl, c, D, dn, _, 4, rfl, dW, by omega, by decide, by decide, fun v H11 v0 v1 d11 fr11 => ?_⟩
    have hW11 : H11 W = some (.lst (((List.range (cs.length - 2)).map fun i : Nat => 2 + (i : Int)).map V.int)) := by rw [fr11 _ nWD]; exact hW
    dsimp only [tNil]
    show sp_l_some K [V.ref D, V.ref W, V.int v] _ _ E0
    refine ⟨c, D, W, dn, _, _, v, rfl, d11, hW11, nWD, by rw [List.length_map, List.length_range]; omega, by omega, by omega, by omega, fun p ys H12 hp inc sub lys kp12 d12 => ?_⟩
    have kp12' : Kp D H9 H12 := ((Kp.of_same sW).trans (.fr fr11)).trans kp12
    refine ⟨_, rfl, _, rfl, _, rfl, ⟨_, _, rfl, rfl, ⟨by decide, by decide, by decide⟩, _, _, rfl, rfl, c, D, dn, _, _, rfl, d12, by omega, by decide +kernel, by decide +kernel, fun st H13 st0 st1 d13 fr13 => ⟨by show (4 : Nat) ≤ sizeLine; decide, fun A nA => ?_⟩⟩⟩
    have npD : p ≠ D := by
      obtain ⟨xs, e⟩ := d12.someD
      exact ne_of hp e (by intro z; cases z)
    have hp13 : H13 p = some (.tup (ys.map V.int)) := by rw [fr13 _ npD]; exact hp
    have kp13 : Kp D H9 H13 := kp12'.trans (.fr fr13)
    have sA : Same H13 (upd H13 A (.tup [.str "version", .ref p, .int 1, .int st])) := samN nA
    have hc : CtAt (upd H13 A (.tup [.str "version", .ref p, .int 1, .int st])) A (.ver ys 1 st) := ⟨p, updS, sA _ _ hp13⟩
    have d14 := d13.same sA
    have kp14 : Kp D H9 (upd H13 A (.tup [.str "version", .ref p, .int 1, .int st])) := kp13.trans (Kp.of_same sA)
    generalize upd H13 A (.tup [.str "version", .ref p, .int 1, .int st]) = H14 at sA hc d14 kp14
    have st1 : st < 1000000000000000001 := st1
    have fo : (Ct.ver ys 1 st).form := ⟨by omega, inc, st0, by omega⟩
    have tm14 : TM H9 H14 := kp14.tm d9
    dsimp only [tNil]
    show sp_l_give K [V.ref T, V.ref A] _ _ E0
    refine give_ok (kp14 _ _ hT9 nTD) (hcs9.mono tm14) hc fo sn.fam (by omega) fun n as2 H15 hT15 hcs15 hn fr15 => ?_
    refine ⟨kf9.trans ((Kf.kp kp14 (by simp)).trans (Kf.but fr15 (by simp))), (d14.but fr15 nTc nTD).le (by omega), as2, _, _, _, rfl, hT15, hcs15, sn.add fo fun q hq => ?_⟩
    obtain ⟨j, hj, rfl⟩ := List.mem_map.mp (sub q hq)
    have := List.mem_range.mp hj
    omega
  · rintro σ H9 ⟨kf9, d9, as, cs, z4, z5, rfl, hT9, hcs9, sn⟩
    have few := sn.few
    have l3 := sn.more (by omega)
    have tl : as.length = cs.length := hcs9.1
    show t_l_scene_names K { nx := fun _ H' => Q .non H', rt := Q } [some (.ref D), some (.int m), some (.int pick), some (.ref T), z4, z5, none, none, none, none] H9
    refine ⟨_, rfl, lenL hT9 ⟨_, rfl, RgOk.of_le (by decide) (by rw [List.length_map]; omega) (by decide) (by omega), fun N nN => ?_⟩⟩
    rw [List.length_map, tl, rgV_names]
    have sN : Same H9 (upd H9 N (.lst (((List.range cs.length).map Int.ofNat).map V.int))) := samN nN
    have kpN : Kp D H (upd H9 N (.lst (((List.range cs.length).map Int.ofNat).map V.int))) := fun b o e n => sN b o (kf9 b o (kp1 b o e n) (by simp [n, ne_of_none e nT0]))
    refine scene_held (d9.same sN) nTD (sN _ _ hT9) (hcs9.mono (TM.of sN)) sn l3 (by omega) updS (d9.neD nN) (by omega) fun q R ns H' kp nR h1 h2 h3 h4 h5 d' => k q T R as cs ns H' h1 ⟨nT0, kpN.free nR (d9.same sN |>.neD nR), kp _ _ (sN _ _ hT9) nTD, hcs9.mono ((TM.of sN).trans (kp.tm (d9.same sN))), sn.fam, by omega, h2, h3, h4, h5, kpN.trans kp, d'.le (by omega)⟩
theorem great_gone {c D T : Addr} {dn : List Int} {t n : Nat} {pk : Int} {as : List Addr} {cs : List Ct} {z3 z4 z5 z6 : Option V} (dk : Dk c D dn t H) (nTD : T ≠ D) (hT : H T = some (.lst (as.map V.ref))) (hcs : CsAt H as cs) (l : LnC cs n) (n0 : 0 < n) (few : n ≤ 398) (ht : t + 100 < 1000000000)
    (k : ∀ (q R : Addr) (ns : List Int) (H' : Hp), Kp D H H' → H R = none → H' q = some (.tup [.ref T, .ref R]) → H' R = some (.lst (ns.map V.int)) → ns.Pairwise (· < ·) → NmOk cs ns → (∃ x ∈ ns, isV cs x = true) → Dk c D dn (t + 100) H' → Q (.ref q) H') :
    t_l_great_gone K { nx := fun _ H' => Q .non H', rt := Q } [some (.ref D), some (.int pk), some (.ref T), z3, z4, z5, z6] H := by
  have l0 : ((List.range cs.length).map Int.ofNat).length = cs.length := by rw [List.length_map, List.length_range]
  have tl : as.length = cs.length := hcs.1
  have cl := l.len
  obtain ⟨xs, hD⟩ := dk.someD
  refine ⟨3, rfl, by decide, by decide, fun G nG => ?_⟩
  have nDG : D ≠ G := (dk.neD nG).symm
  have ncG : c ≠ G := (dk.neC nG).symm
  have nTG : T ≠ G := ne_of_none hT nG
  refine lc_it (walk_range (lo := 0) (n := (3 : Int).toNat)) (fun i H' => Kf [D, G] H H' ∧ Dk c D dn (t + i) H' ∧ ∃ gs : List Int, H' G = some (.lst (gs.map V.int)) ∧ gs.length = i) ⟨Kf.refl.up (by simp), dk.upd ncG.symm nDG.symm, [], updS, rfl⟩ (fun _ _ _ _ => True.intro) ?_ ?_
  · rintro i x H' H'' hi ⟨kf, d', gs, hG, gl⟩ hy
    obtain ⟨rfl, rfl⟩ := hy
    refine ⟨by simp [wipe], ?_⟩
    dsimp only [tYes]
    rw [if_pos rfl]
    have hi3 : i < 3 := hi
    refine ⟨_, rfl, _, rfl, lenL (kf _ _ hT (by simp [nTD, nTG])) ⟨_, _, rfl, rfl, (.inl ⟨by decide, by decide⟩), c, D, dn, _, _, rfl, d', by omega, by rw [List.length_map]; omega, by rw [List.length_map]; exact small100 (by omega), fun y H4 _ _ d4 fr4 => ?_⟩⟩
    have hG4 := (fr4 _ nDG.symm).trans hG
    refine ⟨_, hG4, ?_, (kf.trans (Kf.but fr4 (by simp))).up (by simp), d4.upd ncG.symm nDG.symm, gs ++ [y], by rw [updS, List.map_append]; rfl, by rw [List.length_append, gl]; rfl⟩
    rw [List.length_map]
    exact Nat.lt_of_le_of_lt (show gs.length ≤ 1000 by omega) (by decide)
  · rintro H' ⟨kf, d', gs, hG, gl⟩
    have d' : Dk c D dn (t + 3) H' := d'
    have kpH : Kp D H H' := fun b o e n => kf b o e (by simp [n, ne_of_none e nG])
    have hT3 := kpH _ _ hT nTD
    show t_l_great_held K { nx := fun _ H' => Q .non H', rt := Q } [some (.ref D), some (.int pk), some (.ref T), some (.ref G), z4, z5, z6] H'
    refine ⟨_, rfl, lenL hT3 ⟨_, rfl, by omega, by rw [List.length_map]; omega, fun L nL => ?_⟩⟩
    have nL0 : H L = none := kpH.free nL (d'.neD nL)
    rw [List.length_map, Int.toNat_natCast, tl]
    refine lc_filt (ns := (List.range cs.length).map Int.ofNat) (p := fun q => decide (q = (cs.length : Int) - 1) || !decide (q ∈ gs)) (walk_rgI (n := cs.length)) (fun i H x H' y => y) (by show 6 < 7; decide) nL (by rw [l0]) (by omega) (fun _ _ => True.intro) ?_ ?_
    · intro v H5 X hv s q
      refine ⟨_, rfl, _, rfl, lenL (s _ _ hT3) ⟨_, _, rfl, rfl, ?_⟩⟩
      rw [List.length_map, tl]
      refine ⟨rfl, _, rfl, ?_⟩
      refine ite2 (fun e => ?_) (fun e => ?_)
      · have e : v = (cs.length : Int) - 1 := V.int.inj (of_decide_eq_true e)
        have := q _ (Same.refl _)
        rwa [decide_eq_true e, Bool.true_or] at this
      · have e : ¬ v = (cs.length : Int) - 1 := fun z => e (decide_eq_true (by rw [z]))
        refine ⟨_, rfl, _, rfl, G, _, rfl, .inl (sqL (s _ _ hG)), rfl, fl_ints _, _, rfl, ?_⟩
        rw [if_pos rfl, i_ints]
        have := q _ (Same.refl _)
        rwa [decide_eq_false e, Bool.false_or] at this
    · intro H5 s5 hL
      have kp5 : Kp D H H5 := fun b o e n => s5 _ _ (kpH b o e n)
      refine ⟨_, rfl, _, rfl, by show (2 : Nat) ≤ sizeLine; decide, fun q nq => ?_⟩
      have nLq : L ≠ q := ne_of_none hL nq
      have s6 : Same H5 (upd H5 q (.tup [.ref T, .ref L])) := samN nq
      refine k q L _ _ (fun b o e n => s6 _ _ (kp5 b o e n)) nL0 updS (updN nLq hL) ((range_lt _).filter _) ((range_ok cs).sub fun x hx => (List.mem_filter.mp hx).1) ⟨((n + 1 : Nat) : Int), List.mem_filter.mpr ⟨List.mem_map.mpr ⟨n + 1, List.mem_range.mpr (by omega), rfl⟩, ?_⟩, ?_⟩ ((d'.same (s5.trans s6)).le (by omega))
      · rw [show decide (((n + 1 : Nat) : Int) = (cs.length : Int) - 1) = true from decide_eq_true (by omega)]
        rfl
      · obtain ⟨j, rfl⟩ : ∃ j, n = j + 1 := ⟨n - 1, by omega⟩
        exact l.isV (i := j) (by omega)
theorem pure_l_great (h : sp_l_great K vs H Q E) : t_l_great K { nx := fun _ H' => Q .non H', rt := Q } (start N_l_great vs) H := by
  obtain ⟨c, D, dn, t, m, rfl, dk, ht, k⟩ := h
  refine ⟨_, rfl, c, D, dn, t, 81, rfl, dk, by omega, by decide, by decide, fun v H1 v0 v1 d1 fr1 => ⟨_, _, rfl, rfl, _, rfl, by omega, by omega, fun T as cs H2 s2 nT hT hcs l => ?_⟩⟩
  have kp1 : Kp D H H1 := .fr fr1
  have nTD : T ≠ D := d1.neD nT
  have nT0 : H T = none := kp1.free nT nTD
  have d2 := d1.same s2
  refine ⟨_, rfl, rfl, _, rfl, ite2 (fun _ => ?_) (fun _ => ?_)⟩
  · refine ⟨_, rfl, _, rfl, c, D, dn, _, 69, rfl, d2, by omega, by decide, by decide, fun w H3 w0 w1 d3 fr3 => ⟨_, _, rfl, rfl, D, _, rfl, by omega, by omega, fun T' as' cs' H4 s4 nT' hT' hcs' l' => ?_⟩⟩
    have kp3 : Kp D H H3 := (kp1.trans (Kp.of_same s2)).trans (.fr fr3)
    have d4 := d3.same s4
    have nTD' : T' ≠ D := d3.neD nT'
    have nT0' : H T' = none := kp3.free nT' nTD'
    exact great_gone d4 nTD' hT' hcs' l' (by omega) (by omega) (by omega) fun q R ns H' kp nR h1 h2 h3 h4 h5 d' => k q T' R as' cs' ns H' h1 ⟨nT0', (kp3.trans (Kp.of_same s4)).free nR (d4.neD nR), kp _ _ hT' nTD', hcs'.mono (kp.tm d4), l'.fam, by have := l'.len; omega, h2, h3, h4, h5, (kp3.trans (Kp.of_same s4)).trans kp, d'.le (by omega)⟩
  · exact great_gone d2 nTD hT hcs l (by omega) (by omega) (by omega) fun q R ns H' kp nR h1 h2 h3 h4 h5 d' => k q T R as cs ns H' h1 ⟨nT0, (kp1.trans (Kp.of_same s2)).free nR (d2.neD nR), kp _ _ hT nTD, hcs.mono (kp.tm d2), l.fam, by have := l.len; omega, h2, h3, h4, h5, (kp1.trans (Kp.of_same s2)).trans kp, d'.le (by omega)⟩
end
end Fw

set_option Elab.async false
set_option linter.all false
set_option maxRecDepth 100000
set_option maxHeartbeats 4000000
namespace Fw
open PySem L2 RZ RT
section
variable [HasW]
def sp_l_book (K : PySem.W.Frag) : Sp := fun vs H Q _ => ∃ (T : Addr) (as : List Addr) (cs : List Ct), vs = [.ref T] ∧ BkC K ∧ H T = some (.lst (as.map V.ref)) ∧ CsAt H as cs ∧ FamOk cs ∧ cs.length ≤ 400 ∧
  ∀ (b : BkA) (H' : Hp), Same H H' → (∀ y ∈ [b.B, b.L, b.E, b.G], H y = none) → BkAt K H' b cs as → Q (.ref b.B) H'
end
section
variable [HasW] {K : PySem.W.Frag} {vs : List V} {H : Hp} {Q : VK} {E : XK}
theorem len_l_book (h : sp_l_book K vs H Q E) : vs.length = 1 := by obtain ⟨_, _, _, rfl, _⟩ := h; rfl
end
section
variable [HasW]
abbrev N_l_book : List Str := ["_law_things", "_law_book_here", "_law_content"]
def t_l_book (K : PySem.W.Frag) : TS := (tSeq (tAsg (tMake (He.ga K "Book") (sp_Book_init K) [] E0 tNil) (gName 1))
    (tSeq (tFor (iList K (tVar 0)) (gName 2) (tDrop (tMeth (He.ga K "Book") "named" (sp_Book_named K) [] E0 (tVar 1) (tCons (tVar 2) tNil))))
    (tRet (tVar 1))))
end
theorem tk_snoc {α : Type} {l : List α} {i : Nat} {a : α} (h : l[i]? = some a) : l.take (i + 1) = l.take i ++ [a] := by
  rw [List.take_succ, h]
  rfl
theorem no_take {cs : List Ct} (nd : cs.Nodup) {i : Nat} {c : Ct} (h : cs[i]? = some c) : c ∉ cs.take i := fun hm => by
  obtain ⟨j, hj⟩ := List.mem_iff_getElem?.mp hm
  have hl := (List.getElem?_eq_some_iff.mp hj).1
  rw [List.length_take] at hl
  rw [List.getElem?_take_of_lt (by omega)] at hj
  exact absurd ((List.getElem?_inj (List.getElem?_eq_some_iff.mp hj).1 nd).mp (hj.trans h.symm)) (by omega)
section
variable [HasW] {K : PySem.W.Frag} {vs : List V} {H : Hp} {Q : VK} {E : XK}
theorem newBook (bc : BkC K) {σ : L2.St} (k : ∀ (b : BkA) (H' : Hp), Same H H' → (∀ y ∈ [b.B, b.L, b.E, b.G], H y = none) → BkAt K H' b [] [] → Q (.ref b.B) H') : tMake (He.ga K "Book") (sp_Book_init K) [] E0 tNil σ H Q := by
  intro x dx nx ndx ne
  have s1 : Same H (upd (upd H dx (.own x)) x (.ins (He.ga K "Book") dx [])) := fun b o e => updN (ne_of_none e nx) (updN (ne_of_none e ndx) e)
  have old : ∀ {y : Addr}, upd (upd H dx (.own x)) x (.ins (He.ga K "Book") dx []) y = none → H y = none := by
    intro y h
    cases q : H y with
    | none => rfl
    | some o => rw [s1 _ _ q] at h; cases h
  refine ⟨x, dx, rfl, bc, updS, fun b H' eb keep nL nE nG bk => ⟨rfl, ?_⟩⟩
  subst eb
  refine k b H' (fun a o e => keep a o (s1 a o e) (ne_of_none e nx)) (fun y hy => ?_) bk
  simp only [List.mem_cons, List.not_mem_nil, or_false] at hy
  rcases hy with rfl | rfl | rfl | rfl
  · exact nx
  · exact old nL
  · exact old nE
  · exact old nG
theorem pure_l_book (h : sp_l_book K vs H Q E) : t_l_book K { nx := fun _ H' => Q .non H', rt := Q } (start N_l_book vs) H := by
  obtain ⟨T, as, cs, rfl, bc, hT, hcs, f, few, k⟩ := h
  unfold t_l_book
  dsimp only [tSeq, tAsg]
  refine newBook bc fun b H1 s1 fr bk => ?_
  have hal : as.length = cs.length := hcs.1
  refine ⟨_, rfl, T, rfl, ⟨_, sqL (s1 _ _ hT)⟩, ?_⟩
  have nT : ∀ {H' : Hp}, Kf [b.L, b.E, b.G] H1 H' → H' T = some (.lst (as.map V.ref)) := fun kf => kf _ _ (s1 _ _ hT) fun z => by
    have := fr T (List.mem_cons_of_mem _ z)
    rw [hT] at this
    cases this
  refine for_it (walk_list (xs := as.map V.ref)) (fun i σ H' => Kf [b.L, b.E, b.G] H1 H' ∧ BkAt K H' b (cs.take i) (as.take i) ∧ ∃ z, σ = [some (.ref T), some (.ref b.B), z]) ⟨.refl, bk, _, rfl⟩ (fun i σ H' _ e => sqL (nT e.1)) ?_ ?_
  · rintro i y σ H2 H3 hi ⟨kf, bk2, z, rfl⟩ ⟨rfl, hy⟩
    rw [List.length_map] at hi
    have ha : as[i]? = some as[i] := List.getElem?_eq_getElem hi
    rw [List.getElem?_map, ha] at hy
    cases Option.some.inj hy
    have hd : cs[i]? = some cs[i] := List.getElem?_eq_getElem (by omega)
    have tm : TM H H3 := fun a xs e => kf _ _ (s1 _ _ e) fun z => by
      have := fr a (List.mem_cons_of_mem _ z)
      rw [e] at this
      cases this
    have nin := no_take f.nd hd
    have lt : (cs.take i).length = i := by rw [List.length_take]; omega
    refine bk2.me (by decide) rfl ⟨_, rfl, b, _, _, as[i], cs[i], rfl, bk2, (hcs.2 i _ _ ha hd).mono tm, f.form _ (List.getElem_mem _), f.inb i _ hd, fun _ => by rw [lt]; omega, fun j H' hj _ => absurd (List.mem_of_getElem? hj) nin, fun _ H4 kb bk4 => ⟨kf.trans kb.kf, ?_, _, rfl⟩⟩
    rw [tk_snoc ha, tk_snoc hd]
    exact bk4
  · rintro σ H2 ⟨kf, bk2, z, rfl⟩
    rw [List.length_map, List.take_length, hal, List.take_length] at bk2
    refine ⟨_, rfl, k b H2 (fun a o e => kf _ _ (s1 _ _ e) fun z => ?_) fr bk2⟩
    have := fr a (List.mem_cons_of_mem _ z)
    rw [e] at this
    cases this
end
end Fw

set_option Elab.async false
set_option linter.all false
set_option maxRecDepth 100000
set_option maxHeartbeats 4000000
/-! The law of the ways (k52). -/
namespace Fw
open PySem L2 RZ RT
/-- all names of a book -/
abbrev allN (cs : List Ct) : List Int := (List.range cs.length).map Int.ofNat
theorem all_mem {cs : List Ct} {ns : List Int} (nm : NmOk cs ns) {x : Int} (h : x ∈ ns) : x ∈ allN cs := by
  have := nm x h
  obtain ⟨m, rfl⟩ := Int.eq_ofNat_of_zero_le this.1
  exact List.mem_map.mpr ⟨m, List.mem_range.mpr (by have := this.2; rwa [Int.toNat_natCast] at this), rfl⟩
theorem parA_sub {cs : List Ct} {ns ms : List Int} (h : ∀ x ∈ ns, x ∈ ms) {u x : Int} (hx : x ∈ parA cs ns u) : x ∈ parA cs ms u := by
  have := List.mem_filter.mp hx
  exact List.mem_filter.mpr ⟨this.1, decide_eq_true (h x (of_decide_eq_true this.2))⟩
theorem Lw.sub {cs : List Ct} {ns ms : List Int} (h : ∀ x ∈ ns, x ∈ ms) {new x : Int} : Lw cs ns new x → Lw cs ms new x := by
  rintro ⟨k, r⟩
  refine ⟨k, ?_⟩
  induction k generalizing x with
  | zero => exact r
  | succ k ih =>
    rcases r with r | ⟨u, r, hp⟩
    · exact .inl (ih r)
    · exact .inr ⟨u, ih r, parA_sub h hp⟩
/-- where nothing at or behind the version is at the brim, nothing more lies behind it among more names -/
theorem Lw.back {cs : List Ct} {ns ms ks : List Int} {new : Int} (hk : ∀ x, x ∈ ks ↔ Lw cs ns new x) (e : ks.filter (brim cs ns) = []) {x : Int} : Lw cs ms new x → Lw cs ns new x := by
  rintro ⟨k, r⟩
  induction k generalizing x with
  | zero => exact ⟨0, r⟩
  | succ k ih =>
    rcases r with r | ⟨u, r, hp⟩
    · exact ih r
    · obtain ⟨j, hj⟩ := ih r
      have hu : u ∈ ks := (hk u).mpr ⟨j, hj⟩
      have nb : brim cs ns u = false := by
        cases z : brim cs ns u with
        | false => rfl
        | true =>
          have : u ∈ ks.filter (brim cs ns) := List.mem_filter.mpr ⟨hu, z⟩
          rw [e] at this
          cases this
      unfold brim at nb
      rw [Bool.not_eq_false'] at nb
      have hx := (List.mem_filter.mp hp).1
      exact ⟨j + 1, .inr ⟨u, hj, List.mem_filter.mpr ⟨hx, List.all_eq_true.mp nb x hx⟩⟩⟩
section
variable [HasW]
def sp_l_two_views (K : PySem.W.Frag) : Sp := fun vs H Q _ => ∃ (T Hd Hd2 : Addr) (h h2 : HlA) (b : BkA) (cs : List Ct) (bas : List Addr) (ns : List Int) (was goes : Int), vs = [.ref T, .ref Hd, .ref Hd2, .ref h.A, .ref h2.A, .int was, .int goes] ∧ ThAt H T Hd cs ns ∧ ThAt H T Hd2 cs (allN cs) ∧ BkAt K H b cs bas ∧ HlAt K H h b.B ns ∧ HlAt K H h2 b.B (allN cs) ∧ goes ∈ ns ∧ isV cs goes = true ∧ ∀ H', Same H H' → Q (.bl true) H'
end
theorem len_l_two_views [HasW] {K : PySem.W.Frag} {vs : List V} {H : Hp} {Q : VK} {E : XK} (h : sp_l_two_views K vs H Q E) : vs.length = 7 := by obtain ⟨_, _, _, _, _, _, _, _, _, _, _, rfl, _⟩ := h; rfl
section
variable [HasW]
abbrev N_l_two_views : List Str := ["_law_things", "_law_here_here", "_law_every", "_law_view", "_law_whole", "_law_was", "_law_goes", "_law_told", "_law_found"]
def t_l_two_views (K : PySem.W.Frag) : TS := (tSeq (tAsg (tCall (sp_way K) [] E0 (tCons (tVar 3) (tCons (tVar 5) (tCons (tVar 6) tNil)))) (gName 7))
    (tSeq (tIfS (tOr (tNot (tB (tCall (sp_l_way_told K) [] E0 (tCons (tVar 0) (tCons (tVar 1) (tCons (tVar 5) (tCons (tVar 6) (tCons (tVar 7) tNil)))))))) (tNot (tB (tCall (sp_l_same2 K) [] E0 (tCons (tCall (sp_right_way K) [] E0 (tCons (tVar 3) (tCons (tVar 5) (tCons (tVar 6) (tCons (tVar 7) tNil))))) (tCons (tC (.bl true)) tNil)))))) (tRet (tC (.bl false))) tNext)
    (tSeq (tAsg (tCall (sp_way K) [] E0 (tCons (tVar 4) (tCons (tVar 5) (tCons (tVar 6) tNil)))) (gName 8))
    (tSeq (tIfS (tNot (tB (tCall (sp_l_way_told K) [] E0 (tCons (tVar 0) (tCons (tVar 2) (tCons (tVar 5) (tCons (tVar 6) (tCons (tVar 8) tNil)))))))) (tRet (tC (.bl false))) tNext)
    (tSeq (tIfS (tOr (tTest (tOp rEq (tOp (rIx K) (tVar 7) (tC (.int 0))) (tC (.str "ahead")))) (tTest (tOp rEq (tCB (fLen K) (tCons (tOp (rIx K) (tVar 7) (tC (.int 2))) tNil)) (tC (.int 0))))) (tRet (tOp rEq (tOp (rIx K) (tVar 8) (tC (.int 0))) (tOp (rIx K) (tVar 7) (tC (.int 0))))) tNext)
    (tRet (tC (.bl true))))))))
end
section
variable [HasW] {K : PySem.W.Frag} {vs : List V} {H : Hp} {Q : VK} {E : XK}
theorem pure_l_two_views (h : sp_l_two_views K vs H Q E) : t_l_two_views K { nx := fun _ H' => Q .non H', rt := Q } (start N_l_two_views vs) H := by
  obtain ⟨T, Hd, Hd2, h, h2, b, cs, bas, ns, was, goes, rfl, th, th2, bk, hl, hl2, hg, hv, k⟩ := h
  have sub : ∀ x ∈ ns, x ∈ allN cs := fun x hx => all_mem th.nm hx
  refine ⟨_, rfl, _, rfl, _, rfl, h, b, cs, bas, ns, was, goes, rfl, hl, bk, th.nm, th.fam.low, hg, hv, fun q1 H1 s1 w1 => ?_⟩
  refine ⟨_, rfl, _, rfl, _, rfl, _, rfl, _, rfl, T, Hd, q1, cs, ns, was, goes, rfl, th.same s1, hg, hv, w1, fun H2 s2 => ⟨true, rfl, iteF ?_⟩⟩
  refine ⟨_, rfl, _, rfl, _, rfl, _, rfl, h, b, cs, bas, ns, was, goes, q1, rfl, hl.same (s1.trans s2), bk.same (s1.trans s2), th.nm, w1.same s2, fun H3 s3 => ?_⟩
  refine ⟨_, _, rfl, SameV.bl rfl, fun H4 s4 => ⟨true, rfl, iteF ?_⟩⟩
  have s34 := s3.trans s4
  have s14 := s1.trans (s2.trans s34)
  refine ⟨_, rfl, _, rfl, _, rfl, h2, b, cs, bas, allN cs, was, goes, rfl, hl2.same s14, bk.same s14, th2.nm, th.fam.low, sub _ hg, hv, fun q2 H5 s5 w2 => ?_⟩
  refine ⟨_, rfl, _, rfl, _, rfl, _, rfl, _, rfl, T, Hd2, q2, cs, allN cs, was, goes, rfl, th2.same (s14.trans s5), sub _ hg, hv, w2, fun H6 s6 => ⟨true, rfl, iteF ?_⟩⟩
  have s16 := s14.trans (s5.trans s6)
  have w1' := w1.same (s2.trans (s34.trans (s5.trans s6)))
  have w2' := w2.same s6
  rcases w1' with ⟨l1, w, ws, hq1, hw, _⟩ | ⟨l1, v, e, ks, hq1, hv1, he1, inc, mem, _, few⟩
  · refine ⟨_, rfl, ixT hq1 rfl ⟨rfl, _, rfl, ?_⟩⟩
    rw [strD, decide_eq_true rfl]
    refine iteT ?_
    rcases w2' with ⟨_, w3, ws3, hq2, _⟩ | ⟨n2, _⟩
    · refine iteT ⟨_, rfl, ixT hq2 rfl ⟨_, rfl, ixT hq1 rfl ⟨rfl, ?_⟩⟩⟩
      rw [strD, decide_eq_true rfl]
      exact k _ s16
    · exact absurd (l1.sub sub) n2
  · refine ⟨_, rfl, ixT hq1 rfl ⟨rfl, _, rfl, ?_⟩⟩
    rw [strD, decide_eq_false (show ¬ ("apart" : Str) = "ahead" by decide +kernel)]
    refine iteF ⟨_, rfl, ixT hq1 rfl (lenT he1 ⟨rfl, _, rfl, ?_⟩)⟩
    refine ite2 (fun e0 => ?_) (fun _ => k _ s16)
    have e0 : ks.filter (brim cs ns) = [] := by
      have := V.int.inj (of_decide_eq_true e0)
      rw [List.length_map] at this
      exact List.eq_nil_of_length_eq_zero (by omega)
    rcases w2' with ⟨l2, _⟩ | ⟨_, v2, e2, ks2, hq2, _⟩
    · exact absurd (Lw.back mem e0 l2) l1
    · refine ⟨_, rfl, ixT hq2 rfl ⟨_, rfl, ixT hq1 rfl ⟨rfl, ?_⟩⟩⟩
      rw [strD, decide_eq_true rfl]
      exact k _ s16
end
/-- all that stands ahead of the pairs -/
structure X52 [HasW] (K : PySem.W.Frag) (H : Hp) (T Hd Hd2 Vs : Addr) (h h2 : HlA) (b : BkA) (cs : List Ct) (bas : List Addr) (ns : List Int) : Prop where
  th : ThAt H T Hd cs ns
  th2 : ThAt H T Hd2 cs (allN cs)
  bk : BkAt K H b cs bas
  h1 : HlAt K H h b.B ns
  h2 : HlAt K H h2 b.B (allN cs)
  hV : H Vs = some (.lst ((ns.filter (isV cs)).map V.int))
abbrev a52 (T Hd Hd2 Vs : Addr) (h h2 : HlA) (b : BkA) : List Addr := [T, Hd, Hd2, Vs, h.A, h.I, h.O, h2.A, h2.I, h2.O, b.B, b.L, b.E, b.G]
theorem ThAt.kf [HasW] {H H' : Hp} {T Hd : Addr} {cs : List Ct} {ns : List Int} {F : List Addr} (t : ThAt H T Hd cs ns) (k : Kf F H H') (h1 : T ∉ F) (h2 : Hd ∉ F) (tm : TM H H') : ThAt H' T Hd cs ns := by
  obtain ⟨as, h3, h4⟩ := t.tr
  exact ⟨⟨as, k _ _ h3 h1, h4.mono tm⟩, k _ _ t.hd h2, t.fam, t.nm, t.inc, t.few⟩
/-- pairs of the versions -/
def PvAt (H : Hp) (as : List Addr) (vs : List Int) : Prop := ∀ a ∈ as, ∃ x y : Int, H a = some (.tup [.int x, .int y]) ∧ x ∈ vs ∧ y ∈ vs
theorem PvAt.mono {H H' : Hp} {as : List Addr} {vs : List Int} (p : PvAt H as vs) (tm : TM H H') : PvAt H' as vs := fun a ha => by
  obtain ⟨x, y, h, r⟩ := p a ha
  exact ⟨x, y, tm _ _ h, r⟩
theorem PvAt.app {H : Hp} {as bs : List Addr} {vs : List Int} (p : PvAt H as vs) (q : PvAt H bs vs) : PvAt H (as ++ bs) vs := fun a ha => by
  rcases List.mem_append.mp ha with h | h
  · exact p a h
  · exact q a h
theorem PvAt.one {H : Hp} {a : Addr} {x y : Int} {vs : List Int} (h : H a = some (.tup [.int x, .int y])) (hx : x ∈ vs) (hy : y ∈ vs) : PvAt H [a] vs := fun b hb => by
  rw [List.mem_singleton.mp hb]
  exact ⟨x, y, h, hx, hy⟩
section
variable [HasW]
abbrev N_law : List Str := ["_law_script", "_law_deck_here", "_law_great_here", "_law_things", "_law_held", "_law_here_here", "_law_every", "_law_versions_here", "_law_book_here", "_law_view", "_law_whole", "_law_pairs", "_law_goes", "_law_k", "_law_was"]
def t_law_small (K : PySem.W.Frag) : TS := (tFor (iList K (tVar 7)) (gName 12) (tDrop (tBM K "list" (rExtendA K) (tVar 11) (tCons (tLc (iList K (tVar 7)) (gName 14) tYes (tTup (tCons (tVar 14) (tCons (tVar 12) tNil))) [14]) tNil))))
def t_law_big (K : PySem.W.Frag) : TS := (tFor (iRng1 (tCons (tC (.int 6)) tNil)) (gName 13) (tDrop (tBM K "list" rAppend (tVar 11) (tCons (tTup (tCons (tOp (rIx K) (tVar 7) (tCall (sp_l_draw K) [] E0 (tCons (tVar 1) (tCons (tCB (fLen K) (tCons (tVar 7) tNil)) tNil)))) (tCons (tOp (rIx K) (tVar 7) (tCall (sp_l_draw K) [] E0 (tCons (tVar 1) (tCons (tCB (fLen K) (tCons (tVar 7) tNil)) tNil)))) tNil))) tNil))))
def t_law_looked (K : PySem.W.Frag) : TS := (tSeq (tFor (iList K (tVar 11)) (gTup K 2 (gCons (gName 14) (gCons (gName 12) gNil))) (tIfS (tNot (tB (tCall (sp_l_two_views K) [] E0 (tCons (tVar 3) (tCons (tVar 5) (tCons (tVar 6) (tCons (tVar 9) (tCons (tVar 10) (tCons (tVar 14) (tCons (tVar 12) tNil)))))))))) (tRet (tC (.bl false))) tNext))
    (tRet (tC (.bl true))))
def t_law_pairs (K : PySem.W.Frag) : TS := (tSeq (tAsg (tLst (tCons (tTup (tCons (tOp (rIx K) (tVar 7) (tC (.int 0))) (tCons (tOp (rIx K) (tVar 7) (tUn rNegI (tC (.int 1)))) tNil))) (tCons (tTup (tCons (tOp (rIx K) (tVar 7) (tUn rNegI (tC (.int 1)))) (tCons (tOp (rIx K) (tVar 7) (tC (.int 0))) tNil))) tNil))) (gName 11))
    (tSeq (tIfS (tTest (tOp rLtI (tCB (fLen K) (tCons (tVar 7) tNil)) (tC (.int 10)))) (t_law_small K) (t_law_big K))
    (t_law_looked K)))
def t_law_views (K : PySem.W.Frag) : TS := (tSeq (tAsg (tMake (He.ga K "Holding") (sp_Holding_inits K) [] E0 (tCons (tVar 8) (tCons (tVar 4) tNil))) (gName 9))
    (tSeq (tAsg (tMake (He.ga K "Holding") (sp_Holding_inits K) [] E0 (tCons (tVar 8) (tCons (tTupRg (tRg1 (tCB (fLen K) (tCons (tVar 3) tNil)))) tNil))) (gName 10))
    (t_law_pairs K)))
def t_law_here (K : PySem.W.Frag) : TS := (tSeq (tAsg (tCall (sp_l_here K) [] E0 (tCons (tVar 4) tNil)) (gName 5))
    (tSeq (tAsg (tCall (sp_l_here K) [] E0 (tCons (tLstRg (tRg1 (tCB (fLen K) (tCons (tVar 3) tNil)))) tNil)) (gName 6))
    (tSeq (tAsg (tCall (sp_l_versions K) [] E0 (tCons (tVar 3) (tCons (tVar 5) tNil))) (gName 7))
    (tSeq (tAsg (tCall (sp_l_book K) [] E0 (tCons (tVar 3) tNil)) (gName 8))
    (t_law_views K)))))
def t_law (K : PySem.W.Frag) : TS := (tSeq (tAsg (tCall (sp_l_deck K) [] E0 (tCons (tVar 0) tNil)) (gName 1))
    (tSeq (tAsg (tCall (sp_l_draw K) [] E0 (tCons (tVar 1) (tCons (tC (.int 10)) tNil))) (gName 2))
    (tSeq (tIfS (tTest (tOp rGtI (tVar 2) (tC (.int 7)))) (tAsg (tCall (sp_l_great K) [] E0 (tCons (tVar 1) (tCons (tOp rSubI (tVar 2) (tC (.int 8))) tNil))) (gTup K 2 (gCons (gName 3) (gCons (gName 4) gNil)))) (tAsg (tCall (sp_l_scene K) [] E0 (tCons (tVar 1) (tCons (tC (.int 9)) tNil))) (gTup K 2 (gCons (gName 3) (gCons (gName 4) gNil)))))
    (t_law_here K))))
end
section
variable [HasW] {K : PySem.W.Frag} {H H' : Hp} {Q : VK} {T Hd Hd2 Vs : Addr} {h h2 : HlA} {b : BkA} {cs : List Ct} {bas : List Addr} {ns : List Int}
theorem X52.kf {F : List Addr} (x : X52 K H T Hd Hd2 Vs h h2 b cs bas ns) (k : Kf F H H') (n : ∀ y ∈ a52 T Hd Hd2 Vs h h2 b, y ∉ F) (tm : TM H H') : X52 K H' T Hd Hd2 Vs h h2 b cs bas ns :=
  ⟨x.th.kf k (n _ (by simp)) (n _ (by simp)) tm, x.th2.kf k (n _ (by simp)) (n _ (by simp)) tm, x.bk.kf k (fun y hy => n y (by simp at hy ⊢; rcases hy with rfl | rfl | rfl | rfl <;> simp)) tm, x.h1.kf k (fun y hy => n y (by simp at hy ⊢; rcases hy with rfl | rfl | rfl <;> simp)), x.h2.kf k (fun y hy => n y (by simp at hy ⊢; rcases hy with rfl | rfl | rfl <;> simp)), k _ _ x.hV (n _ (by simp))⟩
theorem X52.same (x : X52 K H T Hd Hd2 Vs h h2 b cs bas ns) (s : Same H H') : X52 K H' T Hd Hd2 Vs h h2 b cs bas ns := x.kf (F := []) (.same s) (fun _ _ z => nomatch z) (TM.of s)
theorem law_looked {S D L P : Addr} {g : Int} {as : List Addr} {z12 z13 z14 : Option V} (x : X52 K H T Hd Hd2 Vs h h2 b cs bas ns) (hP : H P = some (.lst (as.map V.ref))) (ps : PvAt H as (ns.filter (isV cs))) (k : ∀ H', Q (.bl true) H') :
    t_law_looked K { nx := fun _ H' => Q .non H', rt := Q } [some (.ref S), some (.ref D), some (.int g), some (.ref T), some (.ref L), some (.ref Hd), some (.ref Hd2), some (.ref Vs), some (.ref b.B), some (.ref h.A), some (.ref h2.A), some (.ref P), z12, z13, z14] H := by
  refine ⟨_, rfl, P, rfl, ⟨_, sqL hP⟩, ?_⟩
  refine for_list (K := K) (a := P) (xs := as.map V.ref) (fun i σ H' => Same H H' ∧ ∃ z12 z14, σ = [some (.ref S), some (.ref D), some (.int g), some (.ref T), some (.ref L), some (.ref Hd), some (.ref Hd2), some (.ref Vs), some (.ref b.B), some (.ref h.A), some (.ref h2.A), some (.ref P), z12, z13, z14])
    ⟨Same.refl _, _, _, rfl⟩ (fun i σ H' _ p => sqL (p.1 _ _ hP)) ?_ ?_
  · rintro i v σ H1 hv ⟨s1, y12, y14, rfl⟩
    rw [List.getElem?_map] at hv
    cases e : as[i]? with
    | none => rw [e] at hv; cases hv
    | some a =>
    rw [e] at hv
    cases Option.some.inj hv
    obtain ⟨u, w, ha, hu, hw⟩ := ps a (List.mem_of_getElem? e)
    refine ⟨a, _, rfl, sqT (s1 _ _ ha), rfl, ?_⟩
    have hw' := List.mem_filter.mp hw
    have x1 := x.same s1
    exact ⟨_, _, rfl, _, _, rfl, rfl, _, rfl, _, rfl, _, rfl, _, rfl, _, rfl, _, rfl, _, rfl, T, Hd, Hd2, h, h2, b, cs, bas, ns, u, w, rfl, x1.th, x1.th2, x1.bk, x1.h1, x1.h2, hw'.1, hw'.2, fun H2 s2 => ⟨true, rfl, iteF ⟨s1.trans s2, _, _, rfl⟩⟩⟩
  · rintro σ H1 ⟨s1, y12, y14, rfl⟩
    exact k H1
theorem law_small {S D L P : Addr} {g : Int} {E : Ends} {as : List Addr} {z12 z13 z14 : Option V} (x : X52 K H T Hd Hd2 Vs h h2 b cs bas ns) (hP : H P = some (.lst (as.map V.ref))) (ps : PvAt H as (ns.filter (isV cs))) (few : as.length ≤ 2) (lv : (ns.filter (isV cs)).length < 10) (old : ∀ y ∈ a52 T Hd Hd2 Vs h h2 b, y ≠ P)
    (k : ∀ (as' : List Addr) (z12 z13 z14 : Option V) (H' : Hp), X52 K H' T Hd Hd2 Vs h h2 b cs bas ns → H' P = some (.lst (as'.map V.ref)) → PvAt H' as' (ns.filter (isV cs)) → E.nx [some (.ref S), some (.ref D), some (.int g), some (.ref T), some (.ref L), some (.ref Hd), some (.ref Hd2), some (.ref Vs), some (.ref b.B), some (.ref h.A), some (.ref h2.A), some (.ref P), z12, z13, z14] H') :
    t_law_small K E [some (.ref S), some (.ref D), some (.int g), some (.ref T), some (.ref L), some (.ref Hd), some (.ref Hd2), some (.ref Vs), some (.ref b.B), some (.ref h.A), some (.ref h2.A), some (.ref P), z12, z13, z14] H := by
  have nPF : ∀ y ∈ a52 T Hd Hd2 Vs h h2 b, y ∉ [P] := fun y hy z => old y hy (List.mem_singleton.mp z)
  have hV0 := x.hV
  generalize hvs : ns.filter (isV cs) = vs at hV0 ps lv k
  have tmP : ∀ {H' : Hp}, Kf [P] H H' → TM H H' := fun kf => kf.tm fun y hy ys e => by
    rw [List.mem_singleton.mp hy, hP] at e; cases e
  have nVP : Vs ≠ P := old _ (by simp)
  refine ⟨_, rfl, Vs, rfl, ⟨_, sqL hV0⟩, ?_⟩
  refine for_list (K := K) (a := Vs) (xs := vs.map V.int) (fun i σ H' => Kf [P] H H' ∧ ∃ (as' : List Addr) (z12 z14 : Option V), σ = [some (.ref S), some (.ref D), some (.int g), some (.ref T), some (.ref L), some (.ref Hd), some (.ref Hd2), some (.ref Vs), some (.ref b.B), some (.ref h.A), some (.ref h2.A), some (.ref P), z12, z13, z14] ∧ H' P = some (.lst (as'.map V.ref)) ∧ PvAt H' as' vs ∧ as'.length ≤ 2 + 10 * i)
    ⟨.refl, as, _, _, rfl, hP, ps, by omega⟩ (fun i σ H' _ p => sqL (p.1 _ _ hV0 (by simp [nVP]))) ?_ ?_
  · rintro i v σ H1 hv ⟨kf, as1, y12, y14, rfl, hP1, ps1, l1⟩
    have hi : i < vs.length := by have := (List.getElem?_eq_some_iff.mp hv).1; rwa [List.length_map] at this
    rw [List.getElem?_map, List.getElem?_eq_getElem hi] at hv
    cases Option.some.inj hv
    have hV1 := kf _ _ hV0 (by simp [nVP])
    refine ⟨_, rfl, .inl ⟨rfl, _, sqL hP1⟩, _, rfl, Vs, rfl, ⟨_, sqL hV1⟩, fun M nM => ?_⟩
    have nVM : Vs ≠ M := ne_of_none hV1 nM
    have nPM : P ≠ M := ne_of_none hP1 nM
    refine lc_it (walk_list (K := K) (a := Vs) (xs := vs.map V.int)) (fun j H' => Kf [M] H1 H' ∧ ∃ ms : List Addr, H' M = some (.lst (ms.map V.ref)) ∧ PvAt H' ms vs ∧ ms.length = j) ⟨Kf.refl.up (by simp), [], updS, (fun a ha => nomatch ha), rfl⟩ (fun j H' _ p => sqL (p.1 _ _ hV1 (by simp [nVM]))) ?_ ?_
    · rintro j u H2 H3 hj ⟨kf2, ms, hM, pm, ml⟩ hy
      obtain ⟨rfl, hu⟩ := hy
      rw [List.length_map] at hj
      rw [List.getElem?_map, List.getElem?_eq_getElem hj] at hu
      cases Option.some.inj hu
      refine ⟨by simp [wipe], ?_⟩
      dsimp only [tYes]
      rw [if_pos rfl]
      refine ⟨_, rfl, _, rfl, by show (2 : Nat) ≤ sizeLine; decide, fun A nA => ?_⟩
      have sA : Same H3 (upd H3 A (.tup [.int vs[j], .int vs[i]])) := samN nA
      have hA : upd H3 A (.tup [.int vs[j], .int vs[i]]) A = some (.tup [.int vs[j], .int vs[i]]) := updS
      generalize upd H3 A (.tup [.int vs[j], .int vs[i]]) = H4 at sA hA ⊢
      have hM4 := sA _ _ hM
      refine ⟨_, hM4, ?_, (kf2.trans (.same sA)).up (by simp), ms ++ [A], by rw [updS, List.map_append]; rfl, ?_, by rw [List.length_append, ml]; rfl⟩
      · rw [List.length_map]
        exact Nat.lt_of_le_of_lt (show ms.length ≤ 1000 by omega) (by decide)
      · have tm5 : TM H4 (upd H4 M (.lst (ms.map V.ref ++ [.ref A]))) := fun a xs e => updN (ne_of e hM4 fun z => by cases z) e
        exact ((pm.mono (TM.of sA)).app (PvAt.one hA (List.getElem_mem hj) (List.getElem_mem hi))).mono tm5
    · rintro H2 ⟨kf2, ms, hM, pm, ml⟩
      rw [List.length_map] at ml
      have hP2 := kf2 _ _ hP1 (by simp [nPM])
      have tm2 : TM H1 H2 := kf2.tm fun y hy ys e => by
        rw [List.mem_singleton.mp hy, nM] at e; cases e
      refine ⟨P, M, _, _, rfl, rfl, hP2, .inl hM, by rw [List.length_map, List.length_map]; omega, ?_⟩
      have nM0 : H M = none := by
        cases z : H M with
        | none => rfl
        | some o => rw [kf M o z (by simp [nPM.symm])] at nM; cases nM
      have tm3 : TM H2 (upd H2 P (.lst (as1.map V.ref ++ ms.map V.ref))) := fun a xs e => updN (ne_of e hP2 fun z => by cases z) e
      refine ⟨fun a o e n => ?_, as1 ++ ms, _, _, rfl, by rw [updS, List.map_append], ((ps1.mono tm2).app pm).mono tm3, by rw [List.length_append]; omega⟩
      have nP : a ≠ P := fun z => n (by rw [z]; simp)
      rw [upd_ne nP]
      exact kf2 a o (kf a o e n) (by simp [ne_of_none e nM0])
  · rintro σ H1 ⟨kf, as1, y12, y14, rfl, hP1, ps1, l1⟩
    exact k as1 _ _ _ H1 (x.kf kf nPF (tmP kf)) hP1 ps1
theorem law_big {S D c L P : Addr} {dn : List Int} {t : Nat} {g : Int} {E : Ends} {as : List Addr} {z12 z13 z14 : Option V} (x : X52 K H T Hd Hd2 Vs h h2 b cs bas ns) (dk : Dk c D dn t H) (ht : t + 20 < 1000000000) (hP : H P = some (.lst (as.map V.ref))) (ps : PvAt H as (ns.filter (isV cs))) (few : as.length ≤ 2) (lv : 0 < (ns.filter (isV cs)).length) (old : ∀ y ∈ a52 T Hd Hd2 Vs h h2 b, y ≠ P ∧ y ≠ D) (nP : P ≠ D ∧ P ≠ c)
    (k : ∀ (as' : List Addr) (z12 z13 z14 : Option V) (H' : Hp), X52 K H' T Hd Hd2 Vs h h2 b cs bas ns → H' P = some (.lst (as'.map V.ref)) → PvAt H' as' (ns.filter (isV cs)) → E.nx [some (.ref S), some (.ref D), some (.int g), some (.ref T), some (.ref L), some (.ref Hd), some (.ref Hd2), some (.ref Vs), some (.ref b.B), some (.ref h.A), some (.ref h2.A), some (.ref P), z12, z13, z14] H') :
    t_law_big K E [some (.ref S), some (.ref D), some (.int g), some (.ref T), some (.ref L), some (.ref Hd), some (.ref Hd2), some (.ref Vs), some (.ref b.B), some (.ref h.A), some (.ref h2.A), some (.ref P), z12, z13, z14] H := by
  have nPF : ∀ y ∈ a52 T Hd Hd2 Vs h h2 b, y ∉ [D, P] := fun y hy z => by
    simp only [List.mem_cons, List.not_mem_nil, or_false] at z
    exact z.elim (old y hy).2 (old y hy).1
  have hV0 := x.hV
  have lv4 : (ns.filter (isV cs)).length ≤ 400 := Nat.le_trans (List.length_filter_le _ _) x.h1.few
  generalize hvs : ns.filter (isV cs) = vs at hV0 ps lv lv4 k
  obtain ⟨xs, hD⟩ := dk.someD
  have tmP : ∀ {H' : Hp}, Kf [D, P] H H' → TM H H' := fun kf => kf.tm fun y hy ys e => by
    simp only [List.mem_cons, List.not_mem_nil, or_false] at hy
    rcases hy with rfl | rfl
    · rw [hD] at e; cases e
    · rw [hP] at e; cases e
  have nVF : Vs ∉ [D, P] := nPF _ (by simp)
  have nVD : Vs ≠ D := (old _ (by simp)).2
  refine ⟨6, rfl, by decide, by decide, ?_⟩
  refine for_range (lo := 0) (n := (6 : Int).toNat) (fun i σ H' => Kf [D, P] H H' ∧ Dk c D dn (t + 2 * i) H' ∧ ∃ (as' : List Addr) (z13 : Option V), σ = [some (.ref S), some (.ref D), some (.int g), some (.ref T), some (.ref L), some (.ref Hd), some (.ref Hd2), some (.ref Vs), some (.ref b.B), some (.ref h.A), some (.ref h2.A), some (.ref P), z12, z13, z14] ∧ H' P = some (.lst (as'.map V.ref)) ∧ PvAt H' as' vs ∧ as'.length ≤ 2 + i)
    ⟨.refl, dk, as, _, rfl, hP, ps, by omega⟩ ?_ ?_
  · rintro i σ H1 hi ⟨kf, d1, as1, y13, rfl, hP1, ps1, l1⟩
    have hi : i < 6 := hi
    have hV1 := kf _ _ hV0 nVF
    refine ⟨_, rfl, .inl ⟨rfl, _, sqL hP1⟩, _, rfl, _, rfl, _, rfl, lenL hV1 ⟨c, D, dn, _, _, rfl, d1, by omega, by rw [List.length_map]; omega, by rw [List.length_map]; exact small100 (by omega), fun v H2 v0 v1 d2 fr2 => ?_⟩⟩
    rw [List.length_map] at v1
    obtain ⟨j, rfl⟩ := Int.eq_ofNat_of_zero_le v0
    have hj : j < vs.length := by omega
    have hV2 : H2 Vs = some (.lst (vs.map V.int)) := by rw [fr2 _ nVD]; exact hV1
    refine ixL hV2 (atI_nat (by rw [List.getElem?_map, List.getElem?_eq_getElem hj]; rfl)) ?_
    refine ⟨_, rfl, _, rfl, _, rfl, lenL hV2 ⟨c, D, dn, _, _, rfl, d2, by omega, by rw [List.length_map]; omega, by rw [List.length_map]; exact small100 (by omega), fun w H3 w0 w1 d3 fr3 => ?_⟩⟩
    rw [List.length_map] at w1
    obtain ⟨l, rfl⟩ := Int.eq_ofNat_of_zero_le w0
    have hl : l < vs.length := by omega
    have hV3 : H3 Vs = some (.lst (vs.map V.int)) := by rw [fr3 _ nVD]; exact hV2
    refine ixL hV3 (atI_nat (by rw [List.getElem?_map, List.getElem?_eq_getElem hl]; rfl)) ⟨by show (2 : Nat) ≤ sizeLine; decide, fun A nA => ?_⟩
    have hP3 : H3 P = some (.lst (as1.map V.ref)) := by rw [fr3 _ nP.1, fr2 _ nP.1]; exact hP1
    have sA : Same H3 (upd H3 A (.tup [.int vs[j], .int vs[l]])) := samN nA
    have hA : upd H3 A (.tup [.int vs[j], .int vs[l]]) A = some (.tup [.int vs[j], .int vs[l]]) := updS
    have d4 := d3.same sA
    have hP4 := sA _ _ hP3
    have kp4 : Kp D H1 (upd H3 A (.tup [.int vs[j], .int vs[l]])) := ((Kp.fr fr2).trans (.fr fr3)).trans (Kp.of_same sA)
    generalize upd H3 A (.tup [.int vs[j], .int vs[l]]) = H4 at sA hA d4 hP4 kp4 ⊢
    refine ⟨P, _, _, rfl, rfl, hP4, by rw [List.length_map]; exact Nat.lt_of_le_of_lt (show as1.length ≤ 1000 by omega) (by decide), ?_⟩
    have tm5 : TM H4 (upd H4 P (.lst (as1.map V.ref ++ [.ref A]))) := fun a xs e => updN (ne_of e hP4 fun z => by cases z) e
    exact ⟨(kf.trans (Kf.kp kp4 (by simp))).up (by simp), (d4.upd nP.2 nP.1).le (by omega), as1 ++ [A], _, rfl, by rw [updS, List.map_append]; rfl, ((ps1.mono (kp4.tm d1)).app (PvAt.one hA (List.getElem_mem hj) (List.getElem_mem hl))).mono tm5, by rw [List.length_append]; show as1.length + 1 ≤ _; omega⟩
  · rintro σ H1 ⟨kf, d1, as1, y13, rfl, hP1, ps1, l1⟩
    exact k as1 _ _ _ H1 (x.kf kf nPF (tmP kf)) hP1 ps1
theorem law_pairs {S D c L : Addr} {dn : List Int} {t : Nat} {g : Int} {z11 z12 z13 z14 : Option V} (x : X52 K H T Hd Hd2 Vs h h2 b cs bas ns) (dk : Dk c D dn t H) (ht : t + 20 < 1000000000) (lv : 0 < (ns.filter (isV cs)).length) (old : ∀ y ∈ a52 T Hd Hd2 Vs h h2 b, y ≠ D) (hz : ∀ y ∈ a52 T Hd Hd2 Vs h h2 b, H y ≠ none) (k : ∀ H', Q (.bl true) H') :
    t_law_pairs K { nx := fun _ H' => Q .non H', rt := Q } [some (.ref S), some (.ref D), some (.int g), some (.ref T), some (.ref L), some (.ref Hd), some (.ref Hd2), some (.ref Vs), some (.ref b.B), some (.ref h.A), some (.ref h2.A), z11, z12, z13, z14] H := by
  have hV0 := x.hV
  obtain ⟨v0, vr, ev⟩ : ∃ a r, ns.filter (isV cs) = a :: r := List.exists_cons_of_length_pos lv
  obtain ⟨vi, vl, el⟩ : ∃ i l, ns.filter (isV cs) = i ++ [l] := ⟨_, _, (List.dropLast_concat_getLast (List.length_pos_iff.mp lv)).symm⟩
  have a0 : atI ((ns.filter (isV cs)).map V.int) 0 = some (.int v0) := atI_nat (j := 0) (by rw [ev]; rfl)
  have a1 : atI ((ns.filter (isV cs)).map V.int) (-1) = some (.int vl) := by rw [el, List.map_append]; exact at_last
  have m0 : v0 ∈ ns.filter (isV cs) := by rw [ev]; simp
  have m1 : vl ∈ ns.filter (isV cs) := by rw [el]; simp
  refine ⟨_, rfl, ixL hV0 a0 ⟨_, rfl, _, rfl, ixL hV0 a1 ⟨by show (2 : Nat) ≤ sizeLine; decide, fun A nA => ?_⟩⟩⟩
  have sA : Same H (upd H A (.tup [.int v0, .int vl])) := samN nA
  have hA : upd H A (.tup [.int v0, .int vl]) A = some (.tup [.int v0, .int vl]) := updS
  have x1 := x.same sA
  have d1 := dk.same sA
  generalize upd H A (.tup [.int v0, .int vl]) = H1 at sA hA x1 d1 ⊢
  refine ⟨_, rfl, _, rfl, ixL x1.hV a1 ⟨_, rfl, ixL x1.hV a0 ⟨by show (2 : Nat) ≤ sizeLine; decide, fun B nB => ⟨by show (2 : Nat) ≤ sizeLine; decide, fun P nP => ?_⟩⟩⟩⟩
  have sB : Same H1 (upd H1 B (.tup [.int vl, .int v0])) := samN nB
  have hB : upd H1 B (.tup [.int vl, .int v0]) B = some (.tup [.int vl, .int v0]) := updS
  have x2 := x1.same sB
  have d2 := d1.same sB
  have hA2 := sB _ _ hA
  generalize upd H1 B (.tup [.int vl, .int v0]) = H2 at sB hB x2 d2 hA2 nP ⊢
  have sP : Same H2 (upd H2 P (.lst [.ref A, .ref B])) := samN nP
  have hP : upd H2 P (.lst [.ref A, .ref B]) P = some (.lst ([A, B].map V.ref)) := updS
  have x3 := x2.same sP
  have d3 := d2.same sP
  have nPD := d2.neD nP
  have nPc := d2.neC nP
  have ps : PvAt (upd H2 P (.lst [.ref A, .ref B])) ([A] ++ [B]) (ns.filter (isV cs)) := (PvAt.one (sP _ _ hA2) m0 m1).app (PvAt.one (sP _ _ hB) m1 m0)
  have nP0 : H P = none := by
    cases z : H P with
    | none => rfl
    | some o => rw [sB _ _ (sA _ _ z)] at nP; cases nP
  have oldP : ∀ y ∈ a52 T Hd Hd2 Vs h h2 b, y ≠ P := fun y hy e => hz y hy (by rw [e]; exact nP0)
  generalize upd H2 P (.lst [.ref A, .ref B]) = H3 at sP hP x3 d3 ps ⊢
  refine ⟨_, rfl, lenL x3.hV ⟨_, _, rfl, rfl, _, rfl, ite2 (fun lt => ?_) (fun _ => ?_)⟩⟩
  · have lt := of_decide_eq_true lt
    rw [List.length_map] at lt
    exact law_small x3 hP ps (by show 2 ≤ 2; decide) (by omega) oldP fun as' z12 z13 z14 H' x' h1 h2 => law_looked x' h1 h2 k
  · exact law_big x3 d3 ht hP ps (by show 2 ≤ 2; decide) lv (fun y hy => ⟨oldP y hy, old y hy⟩) ⟨nPD, nPc⟩ fun as' z12 z13 z14 H' x' h1 h2 => law_looked x' h1 h2 k
theorem make_hd52 {Qa : Addr → Hp → Prop} (hc : HdC K) (bk : BkAt K H b cs bas) {n : Addr} {ns : List Int} (hn : H n = some (.lst (ns.map V.int)) ∨ H n = some (.tup (ns.map V.int))) (nm : NmOk cs ns) (few : ns.length ≤ 1000)
    (k : ∀ (h : HlA) (ns' : List Int) (H' : Hp), Same H H' → H h.A = none → H h.I = none → H h.O = none → (∀ m, m ∈ ns' ↔ m ∈ ns) → HlAt K H' h b.B ns' → Qa h.A H') :
    ∀ x dx, H x = none → H dx = none → dx ≠ x → sp_Holding_inits K (.ref x :: ([.ref b.B, .ref n] ++ [])) (upd (upd H dx (.own x)) x (.ins (He.ga K "Holding") dx [])) (fun v H2 => v = .non ∧ Qa x H2) E0 := by
  intro x dx nx ndx ne
  have s2 : Same H (upd (upd H dx (.own x)) x (.ins (He.ga K "Holding") dx [])) := fun b o e => updN (ne_of_none e nx) (updN (ne_of_none e ndx) e)
  have fr : ∀ {y : Addr}, upd (upd H dx (.own x)) x (.ins (He.ga K "Holding") dx []) y = none → H y = none := by
    intro y e
    cases q : H y with
    | none => rfl
    | some o => rw [s2 _ _ q] at e; cases e
  refine ⟨x, dx, n, b, cs, bas, ns, rfl, hc, updS, bk.same s2, hn.imp (fun h => s2 _ _ h) (fun h => s2 _ _ h), nm, few, fun h ns' H' eA kp nI nO mem hl => ⟨rfl, ?_⟩⟩
  subst eA
  exact k h ns' H' (fun a o e => kp a o (s2 a o e) (ne_of_none e nx)) nx (fr nI) (fr nO) mem hl
theorem X52.live (x : X52 K H T Hd Hd2 Vs h h2 b cs bas ns) : ∀ y ∈ a52 T Hd Hd2 Vs h h2 b, H y ≠ none := by
  have so : ∀ {y : Addr} {o : HO}, H y = some o → H y ≠ none := fun e z => by rw [e] at z; cases z
  obtain ⟨as, h1, _⟩ := x.th.tr
  obtain ⟨dx, ho⟩ := x.h1.ho
  obtain ⟨dy, ho2⟩ := x.h2.ho
  obtain ⟨is, hI, _⟩ := x.h1.hI
  obtain ⟨is2, hI2, _⟩ := x.h2.hI
  obtain ⟨dz, fs, hB, _⟩ := x.bk.bo
  intro y hy
  simp only [List.mem_cons, List.not_mem_nil, or_false] at hy
  rcases hy with rfl | rfl | rfl | rfl | rfl | rfl | rfl | rfl | rfl | rfl | rfl | rfl | rfl | rfl
  · exact so h1
  · exact so x.th.hd
  · exact so x.th2.hd
  · exact so x.hV
  · exact so ho
  · exact so hI
  · exact so x.h1.hO
  · exact so ho2
  · exact so hI2
  · exact so x.h2.hO
  · exact so hB
  · exact so x.bk.hL
  · exact so x.bk.hE
  · exact so x.bk.hG
theorem law_views {S D c L : Addr} {dn : List Int} {t : Nat} {g : Int} {as : List Addr} {z9 z10 z11 z12 z13 z14 : Option V} (hc : HdC K) (th : ThAt H T Hd cs ns) (th2 : ThAt H T Hd2 cs (allN cs)) (bk : BkAt K H b cs bas) (hV : H Vs = some (.lst ((ns.filter (isV cs)).map V.int))) (hT : H T = some (.lst (as.map V.ref))) (al : as.length = cs.length) (hL : H L = some (.lst (ns.map V.int))) (dk : Dk c D dn t H) (ht : t + 20 < 1000000000) (lv : 0 < (ns.filter (isV cs)).length) (old : ∀ y ∈ [T, Hd, Hd2, Vs, b.B, b.L, b.E, b.G], y ≠ D) (k : ∀ H', Q (.bl true) H') :
    t_law_views K { nx := fun _ H' => Q .non H', rt := Q } [some (.ref S), some (.ref D), some (.int g), some (.ref T), some (.ref L), some (.ref Hd), some (.ref Hd2), some (.ref Vs), some (.ref b.B), z9, z10, z11, z12, z13, z14] H := by
  have few := th.few
  refine ⟨_, rfl, _, rfl, ?_⟩
  dsimp only [tNil]
  refine make_hd52 hc bk (.inl hL) th.nm (by have := th.lenN; omega) fun h ns1 H1 s1 a8 i8 o8 m8 v8 => ?_
  obtain rfl : ns1 = ns := inc_ext v8.inc th.inc m8
  refine ⟨_, rfl, _, rfl, lenL (s1 _ _ hT) ⟨_, rfl, RgOk.of_le (by decide) (by rw [List.length_map]; omega) (by decide) (by omega), fun N nN => ?_⟩⟩
  rw [List.length_map, al, rgV_names]
  have sN : Same H1 (upd H1 N (.tup ((allN cs).map V.int))) := samN nN
  have hN : upd H1 N (.tup ((allN cs).map V.int)) N = some (.tup ((allN cs).map V.int)) := updS
  have s12 := s1.trans sN
  have hl2 := v8.same sN
  generalize upd H1 N (.tup ((allN cs).map V.int)) = H2 at sN hN s12 hl2 ⊢
  dsimp only [tNil]
  refine make_hd52 hc (bk.same s12) (.inr hN) th2.nm (by rw [List.length_map, List.length_range]; omega) fun h2 ns2 H3 s3 a9 i9 o9 m9 v9 => ?_
  obtain rfl : ns2 = allN cs := inc_ext v9.inc th2.inc m9
  have s13 := s12.trans s3
  obtain ⟨xs, hD⟩ := dk.someD
  have x : X52 K H3 T Hd Hd2 Vs h h2 b cs bas ns1 := ⟨th.same s13, th2.same s13, bk.same s13, hl2.same s3, v9, s13 _ _ hV⟩
  refine law_pairs x (dk.same s13) ht lv (fun y hy => ?_) x.live k
  have f1 : ∀ {y : Addr}, H y = none → y ≠ D := fun e z => by rw [z, hD] at e; cases e
  have f2 : ∀ {y : Addr}, H2 y = none → y ≠ D := fun e z => by rw [z, s12 _ _ hD] at e; cases e
  simp only [List.mem_cons, List.not_mem_nil, or_false] at hy
  rcases hy with rfl | rfl | rfl | rfl | rfl | rfl | rfl | rfl | rfl | rfl | rfl | rfl | rfl | rfl
  · exact old _ (by simp)
  · exact old _ (by simp)
  · exact old _ (by simp)
  · exact old _ (by simp)
  · exact f1 a8
  · exact f1 i8
  · exact f1 o8
  · exact f2 a9
  · exact f2 i9
  · exact f2 o9
  · exact old _ (by simp)
  · exact old _ (by simp)
  · exact old _ (by simp)
  · exact old _ (by simp)
theorem law_here {S D c L : Addr} {dn : List Int} {t : Nat} {g : Int} {H0 : Hp} {as : List Addr} {z5 z6 z7 z8 z9 z10 z11 z12 z13 z14 : Option V} (bc : BkC K) (hc : HdC K) (w : ThK c D dn t H0 H T L as cs ns) (nTD : T ≠ D) (ht : t + 20 < 1000000000) (k : ∀ H', Q (.bl true) H') :
    t_law_here K { nx := fun _ H' => Q .non H', rt := Q } [some (.ref S), some (.ref D), some (.int g), some (.ref T), some (.ref L), z5, z6, z7, z8, z9, z10, z11, z12, z13, z14] H := by
  have few := w.few
  have al : as.length = cs.length := w.cs_.1
  have lnd : ns.length ≤ 400 := Nat.le_trans (w.nm.len (lt_nodup w.inc)) few
  obtain ⟨xs, hD⟩ := w.dk.someD
  refine ⟨_, rfl, L, ns, rfl, w.held, by omega, lt_nodup w.inc, fun Hd H1 s1 nF hF => ?_⟩
  have th : ThAt H1 T Hd cs ns := ⟨⟨as, s1 _ _ w.tr, w.cs_.mono (TM.of s1)⟩, hF, w.fam, w.nm, w.inc, few⟩
  refine ⟨_, rfl, lenL (s1 _ _ w.tr) ⟨_, rfl, RgOk.of_le (by decide) (by rw [List.length_map]; omega) (by decide) (by omega), fun N nN => ?_⟩⟩
  rw [List.length_map, al, rgV_names]
  have sN : Same H1 (upd H1 N (.lst ((allN cs).map V.int))) := samN nN
  have hN : upd H1 N (.lst ((allN cs).map V.int)) N = some (.lst ((allN cs).map V.int)) := updS
  have s12 := s1.trans sN
  have th1 := th.same sN
  generalize upd H1 N (.lst ((allN cs).map V.int)) = H2 at sN hN s12 th1 ⊢
  dsimp only [tNil]
  show sp_l_here K [V.ref N] _ _ E0
  refine ⟨N, allN cs, rfl, hN, by rw [List.length_map, List.length_range]; omega, lt_nodup (range_lt _), fun Hd2 H3 s3 nF2 hF2 => ?_⟩
  have s13 := s12.trans s3
  have th2 : ThAt H3 T Hd2 cs (allN cs) := ⟨⟨as, s13 _ _ w.tr, w.cs_.mono (TM.of s13)⟩, hF2, w.fam, range_ok cs, range_lt _, few⟩
  have th3 := th1.same s3
  refine ⟨_, rfl, _, rfl, T, Hd, cs, ns, rfl, th3, fun Vs H4 s4 nV hV => ?_⟩
  have s14 := s13.trans s4
  refine ⟨_, rfl, T, as, cs, rfl, bc, s14 _ _ w.tr, w.cs_.mono (TM.of s14), w.fam, few, fun b H5 s5 nb bk => ?_⟩
  have s15 := s14.trans s5
  refine law_views (as := as) hc ((th3.same s4).same s5) ((th2.same s4).same s5) bk (s5 _ _ hV) (s15 _ _ w.tr) al (s15 _ _ w.held) (w.dk.same s15) ht ?_ (fun y hy => ?_) k
  · obtain ⟨x, hx, hv⟩ := w.some_
    exact List.length_pos_of_mem (List.mem_filter.mpr ⟨hx, hv⟩)
  · rcases List.mem_append.mp (show y ∈ [T, Hd, Hd2, Vs] ++ [b.B, b.L, b.E, b.G] from hy) with hy | hy
    · simp only [List.mem_cons, List.not_mem_nil, or_false] at hy
      rcases hy with rfl | rfl | rfl | rfl
      · exact nTD
      · exact fun z => by rw [z, hD] at nF; cases nF
      · exact fun z => by rw [z, s12 _ _ hD] at nF2; cases nF2
      · exact fun z => by rw [z, s13 _ _ hD] at nV; cases nV
    · have := nb y hy
      exact fun z => by rw [z, s14 _ _ hD] at this; cases this
theorem pure_law {vs : List V} {E : XK} (Z : BkC K ∧ HdC K) (z : sp_law K vs H Q E) : t_law K { nx := fun _ H' => Q .non H', rt := Q } (start N_law vs) H := by
  obtain ⟨bc, hdc⟩ := Z
  obtain ⟨a, dn, rfl, hS, hl, k⟩ := z
  refine ⟨_, rfl, a, dn, rfl, hS, hl, fun c D H1 sm nc nD dk => ?_⟩
  refine ⟨_, rfl, c, D, dn, 0, 10, rfl, dk, by decide, by decide, by decide, fun g H2 g0 g1 d2 fr2 => ?_⟩
  refine ⟨_, rfl, _, _, rfl, rfl, _, rfl, ite2 (fun _ => ?_) (fun _ => ?_)⟩
  · refine ⟨_, rfl, _, rfl, _, _, rfl, rfl, c, D, dn, _, _, rfl, d2, by decide, fun q T L as cs ns H3 hq w => ⟨q, _, rfl, sqT hq, rfl, _, _, rfl, _, _, rfl, rfl, ?_⟩⟩
    exact law_here bc hdc w (d2.neD w.nT) (by decide) fun H' => k H'
  · refine ⟨_, rfl, c, D, dn, _, 9, rfl, d2, by decide, by decide, by decide, fun q T L as cs ns H3 hq w => ⟨q, _, rfl, sqT hq, rfl, _, _, rfl, _, _, rfl, rfl, ?_⟩⟩
    exact law_here bc hdc w (d2.neD w.nT) (by decide) fun H' => k H'
end
end Fw

set_option Elab.async false
set_option linter.all false
set_option maxRecDepth 100000
set_option maxHeartbeats 4000000
namespace Fw
open PySem PySem.Spec PyProof.Rows L2
section
variable {X : Cx}
/-- a dict comprehension that is given to a name of its own, on one row -/
theorem sw_dict {kx vx : Expr} {gens : List Comprehension} {sc : Scope} {dpos npos : Pos} {nm : Str} {ln : Nat} {en : Env} (h1 : en.scope.kind = .function) (h2 : en.scope.names.lookup nm = some .local) (h3 : (npos.line == dpos.line) = true)
    (h4 : (sc.names.any fun (z, k) => z == nm && (k == .local || k == .cell)) = false) : swapsWith (.DictComp kx vx gens sc dpos) (some (.Name nm npos)) ln en = pure true := by
  have e1 : en.kindOf nm = some .local := h2
  have e2 : en.blockKind = .function := by
    unfold Env.blockKind
    rw [h1]
    rfl
  unfold swapsWith
  simp only [e2, e1, h4, Expr.pos, h3]
  rfl
theorem ps_setDc {i : Nat} {nm : Str} {npos : Pos} {kx vx tgt it : Expr} {tests : List Expr} {sc : Scope} {own : List (Str × Nat)} {dpos apos : Pos} {wi : TI} {g : TG} {tt : TT} {tk tv : TE} (calm : X.calm = true) (nd : X.N.Nodup) (at_ : X.N[i]? = some nm) (loc : X.env.scope.names.lookup nm = some .local)
    (sw : swapsWith (.DictComp kx vx [⟨tgt, it, tests, 0⟩] sc dpos) (some (.Name nm npos)) apos.line X.env = pure true) (walk : PI X tgt it wi) (blk : BlkOk X.N X.env.scope sc own)
    (pg : ∀ (z : Shared) (Hz : Hp) (cz : Addr) (clz : List (Str × Addr)) (fz : List Addr), PG (X.blk z Hz sc (compEnvC sc clz cz X.env) fz) tgt g)
    (pt : ∀ (z : Shared) (Hz : Hp) (cz : Addr) (clz : List (Str × Addr)) (fz : List Addr), PTs (X.blk z Hz sc (compEnvC sc clz cz X.env) fz) tests tt)
    (pk : ∀ (z : Shared) (Hz : Hp) (cz : Addr) (clz : List (Str × Addr)) (fz : List Addr), PE (X.blk z Hz sc (compEnvC sc clz cz X.env) fz) kx tk)
    (pv : ∀ (z : Shared) (Hz : Hp) (cz : Addr) (clz : List (Str × Addr)) (fz : List Addr), PE (X.blk z Hz sc (compEnvC sc clz cz X.env) fz) vx tv)
    (fold : ∀ z, foldedSetIterable it X.env z = pure z := by intro _; rfl) :
    PS X (.Assign [.Name nm npos] (.DictComp kx vx [⟨tgt, it, tests, 0⟩] sc dpos) apos) (tAsg (tDc wi g tt tk tv (own.map (·.2))) (gName i)) := by
  refine ⟨fun pins s σ H D inv rd => ?_⟩
  rw [exec_Assign_Name_used _ _ _ _ sw]
  refine wpAny_bind (wpAny_standAt ?_)
  refine wpAny_bind ?_
  show wpAny _ X.A (do let _ ← comprehension (.DictComp kx vx [⟨tgt, it, tests, 0⟩] sc dpos) sc X.env (firstIterPos [⟨tgt, it, tests, 0⟩] dpos) newDict false (eval it X.env) (some (assign (.Name nm npos) X.env))) _ _ s
  have rd2 : tDc wi g tt tk tv (own.map (·.2)) σ H (fun x Hx => gName i x σ Hx D.nx) := rd
  refine wpAny_bind (thn (dc_core (Qf := fun _ s1 => SP X pins D .next s1) calm nd inv walk blk pg pt pk pv fold rd2 fun F C s1 m H1 inv1 q ns fp => ?_) fun _ s1 z => wpAny_pure (wpAny_pure z))
  show wpAny _ _ (assign (.Name nm npos) X.env (.ref F)) _ _ _
  obtain ⟨p0, p1, _, p3, p4, p5⟩ := fp
  refine wpAny_assign_Name (store_ok2 (v := V.ref F) inv1 nd at_ (.inl loc) rfl (fun s2 inv2 ⟨b, same, hb⟩ => ?_) (.inr loc))
  have ne : C ≠ b := hb.elim (fun z => by rw [z]; exact p1) fun z e => p4 nm b z e.symm
  refine ⟨m, ns.sameBut same ne, fun h3 same3 => ⟨_, H1, ?_, q⟩⟩
  exact inv2.turned (t' := s2.toks) (fun x o nx e => (same3.2 x nx).trans e) p0 p1 p3 p4 p5
end
end Fw

set_option Elab.async false
set_option linter.all false
set_option maxRecDepth 100000
set_option maxHeartbeats 4000000
namespace K52
open PySem L2 RZ RT Fw
def top (i : Nat) : Stmt := PySem.Challenge.pw_fewasks_k52_whole_ways.main.body.getD i (.Pass ⟨0, 0, 0, 0⟩)
abbrev FnP (K : PySem.W.Frag) (x : Str) (st : Stmt) (f : Addr) (fd : FuncData) : Prop := FunD K x x (defArgs st) (defBody st) (defScope st) [] [] f fd
def cBody : Stmt → List Stmt
  | .ClassDef _ _ _ body .. => body
  | _ => []
abbrev s_l_deck : Stmt := top 48
abbrev N_l_deck : List Str := ["_law_script"]
theorem sc_l_deck : FnScope N_l_deck ["_law_script"] (defScope s_l_deck) := ⟨rfl, rfl, rfl, by decide +kernel, rfl, by decide +kernel, by decide +kernel⟩
abbrev s_l_mixed : Stmt := top 49
theorem sc_l_mixed : FnScope N_l_mixed ["_law_cell", "_law_turn"] (defScope s_l_mixed) := ⟨rfl, rfl, rfl, by decide +kernel, rfl, by decide +kernel, by decide +kernel⟩
abbrev s_l_draw : Stmt := top 50
theorem sc_l_draw : FnScope N_l_draw ["_law_deck_here", "_law_many"] (defScope s_l_draw) := ⟨rfl, rfl, rfl, by decide +kernel, rfl, by decide +kernel, by decide +kernel⟩
abbrev s_l_ladder : Stmt := top 63
theorem sc_l_ladder : FnScope N_l_ladder ["_law_many"] (defScope s_l_ladder) := ⟨rfl, rfl, rfl, by decide +kernel, rfl, by decide +kernel, by decide +kernel⟩
abbrev s_l_line_of : Stmt := top 62
theorem sc_l_line_of : FnScope N_l_line_of ["_law_deck_here", "_law_many"] (defScope s_l_line_of) := ⟨rfl, rfl, rfl, by decide +kernel, rfl, by decide +kernel, by decide +kernel⟩
abbrev s_l_great : Stmt := top 66
theorem sc_l_great : FnScope N_l_great ["_law_deck_here", "_law_pick"] (defScope s_l_great) := ⟨rfl, rfl, rfl, by decide +kernel, rfl, by decide +kernel, by decide +kernel⟩
abbrev s_l_some : Stmt := top 52
abbrev N_l_some : List Str := ["_law_deck_here", "_law_names", "_law_count", "_law_some_here", "_law_k"]
theorem sc_l_some : FnScope N_l_some ["_law_deck_here", "_law_names", "_law_count"] (defScope s_l_some) := ⟨rfl, rfl, rfl, by decide +kernel, rfl, by decide +kernel, by decide +kernel⟩
abbrev s_l_give : Stmt := top 51
theorem sc_l_give : FnScope N_l_give ["_law_things", "_law_content"] (defScope s_l_give) := ⟨rfl, rfl, rfl, by decide +kernel, rfl, by decide +kernel, by decide +kernel⟩
abbrev s_l_scene : Stmt := top 64
theorem sc_l_scene : FnScope N_l_scene ["_law_deck_here", "_law_most"] (defScope s_l_scene) := ⟨rfl, rfl, rfl, by decide +kernel, rfl, by decide +kernel, by decide +kernel⟩
abbrev s_l_here : Stmt := top 61
theorem sc_l_here : FnScope N_l_here ["_law_names"] (defScope s_l_here) := ⟨rfl, rfl, rfl, by decide +kernel, rfl, by decide +kernel, by decide +kernel⟩
abbrev s_l_versions : Stmt := top 65
theorem sc_l_versions : FnScope N_l_versions ["_law_things", "_law_here_here"] (defScope s_l_versions) := ⟨rfl, rfl, rfl, by decide +kernel, rfl, by decide +kernel, by decide +kernel⟩
abbrev s_Book_init : Stmt := (cBody (top 44)).getD 0 (.Pass ⟨0, 0, 0, 0⟩)
theorem sc_Book_init : FnScope N_Book_init ["self"] (defScope s_Book_init) := ⟨rfl, rfl, rfl, by decide +kernel, rfl, by decide +kernel, by decide +kernel⟩
abbrev s_is_sign : Stmt := top 11
theorem sc_is_sign : FnScope N_is_sign ["sign"] (defScope s_is_sign) := ⟨rfl, rfl, rfl, by decide +kernel, rfl, by decide +kernel, by decide +kernel⟩
abbrev s_is_text : Stmt := top 10
theorem sc_is_text : FnScope N_is_text ["thing"] (defScope s_is_text) := ⟨rfl, rfl, rfl, by decide +kernel, rfl, by decide +kernel, by decide +kernel⟩
abbrev s_is_row : Stmt := top 17
theorem sc_is_row : FnScope N_is_row ["thing"] (defScope s_is_row) := ⟨rfl, rfl, rfl, by decide +kernel, rfl, by decide +kernel, by decide +kernel⟩
abbrev s_is_rows : Stmt := top 18
theorem sc_is_rows : FnScope N_is_rows ["thing"] (defScope s_is_rows) := ⟨rfl, rfl, rfl, by decide +kernel, rfl, by decide +kernel, by decide +kernel⟩
abbrev s_is_pair : Stmt := top 13
theorem sc_is_pair : FnScope N_is_pair ["thing"] (defScope s_is_pair) := ⟨rfl, rfl, rfl, by decide +kernel, rfl, by decide +kernel, by decide +kernel⟩
abbrev s_is_label : Stmt := top 12
theorem sc_is_label : FnScope N_is_label ["thing"] (defScope s_is_label) := ⟨rfl, rfl, rfl, by decide +kernel, rfl, by decide +kernel, by decide +kernel⟩
abbrev s_is_int : Stmt := top 9
theorem sc_is_int : FnScope N_is_int ["thing"] (defScope s_is_int) := ⟨rfl, rfl, rfl, by decide +kernel, rfl, by decide +kernel, by decide +kernel⟩
abbrev s_is_entry : Stmt := top 19
theorem sc_is_entry : FnScope N_is_entry ["thing"] (defScope s_is_entry) := ⟨rfl, rfl, rfl, by decide +kernel, rfl, by decide +kernel, by decide +kernel⟩
abbrev s_rises : Stmt := top 14
theorem sc_rises : FnScope N_rises ["things"] (defScope s_rises) := ⟨rfl, rfl, rfl, by decide +kernel, rfl, by decide +kernel, by decide +kernel⟩
abbrev s_is_entries : Stmt := top 20
theorem sc_is_entries : FnScope N_is_entries ["thing"] (defScope s_is_entries) := ⟨rfl, rfl, rfl, by decide +kernel, rfl, by decide +kernel, by decide +kernel⟩
abbrev s_is_ints : Stmt := top 15
theorem sc_is_ints : FnScope N_is_ints ["thing"] (defScope s_is_ints) := ⟨rfl, rfl, rfl, by decide +kernel, rfl, by decide +kernel, by decide +kernel⟩
abbrev s_is_rising : Stmt := top 16
theorem sc_is_rising : FnScope N_is_rising ["thing"] (defScope s_is_rising) := ⟨rfl, rfl, rfl, by decide +kernel, rfl, by decide +kernel, by decide +kernel⟩
abbrev s_is_stamp : Stmt := top 21
theorem sc_is_stamp : FnScope N_is_stamp ["thing"] (defScope s_is_stamp) := ⟨rfl, rfl, rfl, by decide +kernel, rfl, by decide +kernel, by decide +kernel⟩
abbrev s_is_version_form : Stmt := top 22
theorem sc_is_version_form : FnScope N_is_version_form ["thing"] (defScope s_is_version_form) := ⟨rfl, rfl, rfl, by decide +kernel, rfl, by decide +kernel, by decide +kernel⟩
abbrev s_is_content_form : Stmt := top 23
theorem sc_is_content_form : FnScope N_is_content_form ["thing"] (defScope s_is_content_form) := ⟨rfl, rfl, rfl, by decide +kernel, rfl, by decide +kernel, by decide +kernel⟩
abbrev s_Book_is_name : Stmt := (cBody (top 44)).getD 12 (.Pass ⟨0, 0, 0, 0⟩)
theorem sc_Book_is_name : FnScope N_Book_is_name ["self", "thing"] (defScope s_Book_is_name) := ⟨rfl, rfl, rfl, by decide +kernel, rfl, by decide +kernel, by decide +kernel⟩
abbrev s_Book_has_kinds : Stmt := (cBody (top 44)).getD 15 (.Pass ⟨0, 0, 0, 0⟩)
theorem sc_Book_has_kinds : FnScope N_Book_has_kinds ["self", "names", "kinds"] (defScope s_Book_has_kinds) := ⟨rfl, rfl, rfl, by decide +kernel, rfl, by decide +kernel, by decide +kernel⟩
abbrev s_Book_depth : Stmt := (cBody (top 44)).getD 16 (.Pass ⟨0, 0, 0, 0⟩)
theorem sc_Book_depth : FnScope N_Book_depth ["self", "content"] (defScope s_Book_depth) := ⟨rfl, rfl, rfl, by decide +kernel, rfl, by decide +kernel, by decide +kernel⟩
abbrev s_Book_is_content : Stmt := (cBody (top 44)).getD 14 (.Pass ⟨0, 0, 0, 0⟩)
theorem sc_Book_is_content : FnScope N_Book_is_content ["self", "thing"] (defScope s_Book_is_content) := ⟨rfl, rfl, rfl, by decide +kernel, rfl, by decide +kernel, by decide +kernel⟩
abbrev s_Book_give_next : Stmt := (cBody (top 44)).getD 17 (.Pass ⟨0, 0, 0, 0⟩)
theorem sc_Book_give_next : FnScope N_Book_give_next ["self", "content"] (defScope s_Book_give_next) := ⟨rfl, rfl, rfl, by decide +kernel, rfl, by decide +kernel, by decide +kernel⟩
abbrev s_Book_named : Stmt := (cBody (top 44)).getD 2 (.Pass ⟨0, 0, 0, 0⟩)
theorem sc_Book_named : FnScope N_Book_named ["self", "content"] (defScope s_Book_named) := ⟨rfl, rfl, rfl, by decide +kernel, rfl, by decide +kernel, by decide +kernel⟩
abbrev s_l_book : Stmt := top 53
theorem sc_l_book : FnScope N_l_book ["_law_things"] (defScope s_l_book) := ⟨rfl, rfl, rfl, by decide +kernel, rfl, by decide +kernel, by decide +kernel⟩
abbrev s_Holding_inits : Stmt := (cBody (top 46)).getD 0 (.Pass ⟨0, 0, 0, 0⟩)
theorem sc_Holding_inits : FnScope N_Holding_inits ["self", "book", "names"] (defScope s_Holding_inits) := ⟨rfl, rfl, rfl, by decide +kernel, rfl, by decide +kernel, by decide +kernel⟩
abbrev s_Holding_holds : Stmt := (cBody (top 46)).getD 4 (.Pass ⟨0, 0, 0, 0⟩)
theorem sc_Holding_holds : FnScope N_Holding_holds ["self", "name"] (defScope s_Holding_holds) := ⟨rfl, rfl, rfl, by decide +kernel, rfl, by decide +kernel, by decide +kernel⟩
abbrev s_Book_thing : Stmt := (cBody (top 44)).getD 4 (.Pass ⟨0, 0, 0, 0⟩)
theorem sc_Book_thing : FnScope N_Book_thing ["self", "name"] (defScope s_Book_thing) := ⟨rfl, rfl, rfl, by decide +kernel, rfl, by decide +kernel, by decide +kernel⟩
abbrev s_Book_parents : Stmt := (cBody (top 44)).getD 7 (.Pass ⟨0, 0, 0, 0⟩)
theorem sc_Book_parents : FnScope N_Book_parents ["self", "version"] (defScope s_Book_parents) := ⟨rfl, rfl, rfl, by decide +kernel, rfl, by decide +kernel, by decide +kernel⟩
abbrev s_Holding_held_parents : Stmt := (cBody (top 46)).getD 10 (.Pass ⟨0, 0, 0, 0⟩)
theorem sc_Holding_held_parents : FnScope N_Holding_held_parents ["self", "version"] (defScope s_Holding_held_parents) := ⟨rfl, rfl, rfl, by decide +kernel, rfl, by decide +kernel, by decide +kernel⟩
abbrev s_spread : Stmt := top 33
theorem sc_spread : FnScope N_spread ["view", "starts", "deep"] (defScope s_spread) := ⟨rfl, rfl, rfl, by decide +kernel, rfl, by decide +kernel, by decide +kernel⟩
abbrev s_followed : Stmt := top 30
theorem sc_followed : FnScope N_followed ["steps", "version"] (defScope s_followed) := ⟨rfl, rfl, rfl, by decide +kernel, rfl, by decide +kernel, by decide +kernel⟩
abbrev s_Holding_has_parents : Stmt := (cBody (top 46)).getD 9 (.Pass ⟨0, 0, 0, 0⟩)
theorem sc_Holding_has_parents : FnScope N_Holding_has_parents ["self", "version"] (defScope s_Holding_has_parents) := ⟨rfl, rfl, rfl, by decide +kernel, rfl, by decide +kernel, by decide +kernel⟩
abbrev s_edges_of : Stmt := top 39
theorem sc_edges_of : FnScope N_edges_of ["view", "versions"] (defScope s_edges_of) := ⟨rfl, rfl, rfl, by decide +kernel, rfl, by decide +kernel, by decide +kernel⟩
abbrev s_way : Stmt := top 40
theorem sc_way : FnScope N_way ["view", "old", "new"] (defScope s_way) := ⟨rfl, rfl, rfl, by decide +kernel, rfl, by decide +kernel, by decide +kernel⟩
abbrev s_l_parents : Stmt := top 56
theorem sc_l_parents : FnScope N_l_parents ["_law_things", "_law_here_here", "_law_version"] (defScope s_l_parents) := ⟨rfl, rfl, rfl, by decide +kernel, rfl, by decide +kernel, by decide +kernel⟩
abbrev s_l_lower : Stmt := top 57
theorem sc_l_lower : FnScope N_l_lower ["_law_things", "_law_here_here", "_law_version"] (defScope s_l_lower) := ⟨rfl, rfl, rfl, by decide +kernel, rfl, by decide +kernel, by decide +kernel⟩
abbrev s_l_int : Stmt := top 54
theorem sc_l_int : FnScope N_l_int ["_law_thing"] (defScope s_l_int) := ⟨rfl, rfl, rfl, by decide +kernel, rfl, by decide +kernel, by decide +kernel⟩
abbrev s_l_same : Stmt := top 55
theorem sc_l_same : FnScope N_l_same ["_law_found", "_law_due"] (defScope s_l_same) := ⟨rfl, rfl, rfl, by decide +kernel, rfl, by decide +kernel, by decide +kernel⟩
abbrev s_l_is_walk : Stmt := top 59
theorem sc_l_is_walk : FnScope N_l_is_walk ["_law_things", "_law_here_here", "_law_was", "_law_goes", "_law_versions_here"] (defScope s_l_is_walk) := ⟨rfl, rfl, rfl, by decide +kernel, rfl, by decide +kernel, by decide +kernel⟩
abbrev s_l_brims : Stmt := top 58
theorem sc_l_brims : FnScope N_l_brims ["_law_things", "_law_here_here", "_law_versions_here"] (defScope s_l_brims) := ⟨rfl, rfl, rfl, by decide +kernel, rfl, by decide +kernel, by decide +kernel⟩
abbrev s_l_way_told : Stmt := top 60
theorem sc_l_way_told : FnScope N_l_way_told ["_law_things", "_law_here_here", "_law_was", "_law_goes", "_law_thing"] (defScope s_l_way_told) := ⟨rfl, rfl, rfl, by decide +kernel, rfl, by decide +kernel, by decide +kernel⟩
abbrev s_Book_kind : Stmt := (cBody (top 44)).getD 5 (.Pass ⟨0, 0, 0, 0⟩)
theorem sc_Book_kind : FnScope N_Book_kind ["self", "name"] (defScope s_Book_kind) := ⟨rfl, rfl, rfl, by decide +kernel, rfl, by decide +kernel, by decide +kernel⟩
abbrev s_Holding_holds_version : Stmt := (cBody (top 46)).getD 5 (.Pass ⟨0, 0, 0, 0⟩)
theorem sc_Holding_holds_version : FnScope N_Holding_holds_version ["self", "thing"] (defScope s_Holding_holds_version) := ⟨rfl, rfl, rfl, by decide +kernel, rfl, by decide +kernel, by decide +kernel⟩
abbrev s_is_walk_back : Stmt := top 34
theorem sc_is_walk_back : FnScope N_is_walk_back ["view", "thing"] (defScope s_is_walk_back) := ⟨rfl, rfl, rfl, by decide +kernel, rfl, by decide +kernel, by decide +kernel⟩
abbrev s_is_ahead : Stmt := top 37
theorem sc_is_ahead : FnScope N_is_ahead ["view", "old", "new", "versions"] (defScope s_is_ahead) := ⟨rfl, rfl, rfl, by decide +kernel, rfl, by decide +kernel, by decide +kernel⟩
abbrev s_is_apart : Stmt := top 38
theorem sc_is_apart : FnScope N_is_apart ["view", "old", "new", "versions", "edges"] (defScope s_is_apart) := ⟨rfl, rfl, rfl, by decide +kernel, rfl, by decide +kernel, by decide +kernel⟩
abbrev s_right_way : Stmt := top 36
theorem sc_right_way : FnScope N_right_way ["view", "old", "new", "thing"] (defScope s_right_way) := ⟨rfl, rfl, rfl, by decide +kernel, rfl, by decide +kernel, by decide +kernel⟩
abbrev s_l_two_views : Stmt := top 67
theorem sc_l_two_views : FnScope N_l_two_views ["_law_things", "_law_here_here", "_law_every", "_law_view", "_law_whole", "_law_was", "_law_goes"] (defScope s_l_two_views) := ⟨rfl, rfl, rfl, by decide +kernel, rfl, by decide +kernel, by decide +kernel⟩
abbrev s_law : Stmt := top 68
theorem sc_law : FnScope N_law ["_law_script"] (defScope s_law) := ⟨rfl, rfl, rfl, by decide +kernel, rfl, by decide +kernel, by decide +kernel⟩
structure Tx (K : PySem.W.Frag) (mg : Str → Option Value) : Type where
  fd_l_deck : FuncData
  F_l_deck : FnP K "_law_deck" s_l_deck (He.fAd K ("_law_deck", none)) fd_l_deck
  g_l_deck : mg "_law_deck" = some (.ref (He.fAd K ("_law_deck", none)))
  fd_l_mixed : FuncData
  F_l_mixed : FnP K "_law_mixed" s_l_mixed (He.fAd K ("_law_mixed", none)) fd_l_mixed
  g_l_mixed : mg "_law_mixed" = some (.ref (He.fAd K ("_law_mixed", none)))
  fd_l_draw : FuncData
  F_l_draw : FnP K "_law_draw" s_l_draw (He.fAd K ("_law_draw", none)) fd_l_draw
  g_l_draw : mg "_law_draw" = some (.ref (He.fAd K ("_law_draw", none)))
  fd_l_ladder : FuncData
  F_l_ladder : FnP K "_law_ladder" s_l_ladder (He.fAd K ("_law_ladder", none)) fd_l_ladder
  g_l_ladder : mg "_law_ladder" = some (.ref (He.fAd K ("_law_ladder", none)))
  fd_l_line_of : FuncData
  F_l_line_of : FnP K "_law_line_of" s_l_line_of (He.fAd K ("_law_line_of", none)) fd_l_line_of
  g_l_line_of : mg "_law_line_of" = some (.ref (He.fAd K ("_law_line_of", none)))
  fd_l_great : FuncData
  F_l_great : FnP K "_law_great" s_l_great (He.fAd K ("_law_great", none)) fd_l_great
  g_l_great : mg "_law_great" = some (.ref (He.fAd K ("_law_great", none)))
  fd_l_some : FuncData
  F_l_some : FnP K "_law_some" s_l_some (He.fAd K ("_law_some", none)) fd_l_some
  g_l_some : mg "_law_some" = some (.ref (He.fAd K ("_law_some", none)))
  fd_l_give : FuncData
  F_l_give : FnP K "_law_give" s_l_give (He.fAd K ("_law_give", none)) fd_l_give
  g_l_give : mg "_law_give" = some (.ref (He.fAd K ("_law_give", none)))
  fd_l_scene : FuncData
  F_l_scene : FnP K "_law_scene" s_l_scene (He.fAd K ("_law_scene", none)) fd_l_scene
  g_l_scene : mg "_law_scene" = some (.ref (He.fAd K ("_law_scene", none)))
  fd_l_here : FuncData
  F_l_here : FnP K "_law_here" s_l_here (He.fAd K ("_law_here", none)) fd_l_here
  g_l_here : mg "_law_here" = some (.ref (He.fAd K ("_law_here", none)))
  fd_l_versions : FuncData
  F_l_versions : FnP K "_law_versions" s_l_versions (He.fAd K ("_law_versions", none)) fd_l_versions
  g_l_versions : mg "_law_versions" = some (.ref (He.fAd K ("_law_versions", none)))
  fd_Book_init : FuncData
  F_Book_init : FunD K "__init__" "Book.__init__" (defArgs s_Book_init) (defBody s_Book_init) (defScope s_Book_init) [] [] (He.fAd K ("Book", some "__init__")) fd_Book_init
  fd_is_sign : FuncData
  F_is_sign : FnP K "is_sign" s_is_sign (He.fAd K ("is_sign", none)) fd_is_sign
  g_is_sign : mg "is_sign" = some (.ref (He.fAd K ("is_sign", none)))
  fd_is_text : FuncData
  F_is_text : FnP K "is_text" s_is_text (He.fAd K ("is_text", none)) fd_is_text
  g_is_text : mg "is_text" = some (.ref (He.fAd K ("is_text", none)))
  fd_is_row : FuncData
  F_is_row : FnP K "is_row" s_is_row (He.fAd K ("is_row", none)) fd_is_row
  g_is_row : mg "is_row" = some (.ref (He.fAd K ("is_row", none)))
  fd_is_rows : FuncData
  F_is_rows : FnP K "is_rows" s_is_rows (He.fAd K ("is_rows", none)) fd_is_rows
  g_is_rows : mg "is_rows" = some (.ref (He.fAd K ("is_rows", none)))
  fd_is_pair : FuncData
  F_is_pair : FnP K "is_pair" s_is_pair (He.fAd K ("is_pair", none)) fd_is_pair
  g_is_pair : mg "is_pair" = some (.ref (He.fAd K ("is_pair", none)))
  fd_is_label : FuncData
  F_is_label : FnP K "is_label" s_is_label (He.fAd K ("is_label", none)) fd_is_label
  g_is_label : mg "is_label" = some (.ref (He.fAd K ("is_label", none)))
  fd_is_int : FuncData
  F_is_int : FnP K "is_int" s_is_int (He.fAd K ("is_int", none)) fd_is_int
  g_is_int : mg "is_int" = some (.ref (He.fAd K ("is_int", none)))
  fd_is_entry : FuncData
  F_is_entry : FnP K "is_entry" s_is_entry (He.fAd K ("is_entry", none)) fd_is_entry
  g_is_entry : mg "is_entry" = some (.ref (He.fAd K ("is_entry", none)))
  fd_rises : FuncData
  F_rises : FnP K "rises" s_rises (He.fAd K ("rises", none)) fd_rises
  g_rises : mg "rises" = some (.ref (He.fAd K ("rises", none)))
  fd_is_entries : FuncData
  F_is_entries : FnP K "is_entries" s_is_entries (He.fAd K ("is_entries", none)) fd_is_entries
  g_is_entries : mg "is_entries" = some (.ref (He.fAd K ("is_entries", none)))
  fd_is_ints : FuncData
  F_is_ints : FnP K "is_ints" s_is_ints (He.fAd K ("is_ints", none)) fd_is_ints
  g_is_ints : mg "is_ints" = some (.ref (He.fAd K ("is_ints", none)))
  fd_is_rising : FuncData
  F_is_rising : FnP K "is_rising" s_is_rising (He.fAd K ("is_rising", none)) fd_is_rising
  g_is_rising : mg "is_rising" = some (.ref (He.fAd K ("is_rising", none)))
  fd_is_stamp : FuncData
  F_is_stamp : FnP K "is_stamp" s_is_stamp (He.fAd K ("is_stamp", none)) fd_is_stamp
  g_is_stamp : mg "is_stamp" = some (.ref (He.fAd K ("is_stamp", none)))
  fd_is_version_form : FuncData
  F_is_version_form : FnP K "is_version_form" s_is_version_form (He.fAd K ("is_version_form", none)) fd_is_version_form
  g_is_version_form : mg "is_version_form" = some (.ref (He.fAd K ("is_version_form", none)))
  fd_is_content_form : FuncData
  F_is_content_form : FnP K "is_content_form" s_is_content_form (He.fAd K ("is_content_form", none)) fd_is_content_form
  g_is_content_form : mg "is_content_form" = some (.ref (He.fAd K ("is_content_form", none)))
  fd_Book_is_name : FuncData
  F_Book_is_name : FunD K "is_name" "Book.is_name" (defArgs s_Book_is_name) (defBody s_Book_is_name) (defScope s_Book_is_name) [] [] (He.fAd K ("Book", some "is_name")) fd_Book_is_name
  fd_Book_has_kinds : FuncData
  F_Book_has_kinds : FunD K "has_kinds" "Book.has_kinds" (defArgs s_Book_has_kinds) (defBody s_Book_has_kinds) (defScope s_Book_has_kinds) [] [] (He.fAd K ("Book", some "has_kinds")) fd_Book_has_kinds
  fd_Book_depth : FuncData
  F_Book_depth : FunD K "depth" "Book.depth" (defArgs s_Book_depth) (defBody s_Book_depth) (defScope s_Book_depth) [] [] (He.fAd K ("Book", some "depth")) fd_Book_depth
  fd_Book_is_content : FuncData
  F_Book_is_content : FunD K "is_content" "Book.is_content" (defArgs s_Book_is_content) (defBody s_Book_is_content) (defScope s_Book_is_content) [] [] (He.fAd K ("Book", some "is_content")) fd_Book_is_content
  fd_Book_give_next : FuncData
  F_Book_give_next : FunD K "give_next" "Book.give_next" (defArgs s_Book_give_next) (defBody s_Book_give_next) (defScope s_Book_give_next) [] [] (He.fAd K ("Book", some "give_next")) fd_Book_give_next
  fd_Book_named : FuncData
  F_Book_named : FunD K "named" "Book.named" (defArgs s_Book_named) (defBody s_Book_named) (defScope s_Book_named) [] [] (He.fAd K ("Book", some "named")) fd_Book_named
  fd_l_book : FuncData
  F_l_book : FnP K "_law_book" s_l_book (He.fAd K ("_law_book", none)) fd_l_book
  g_l_book : mg "_law_book" = some (.ref (He.fAd K ("_law_book", none)))
  fd_Holding_inits : FuncData
  F_Holding_inits : FunD K "__init__" "Holding.__init__" (defArgs s_Holding_inits) (defBody s_Holding_inits) (defScope s_Holding_inits) [] [] (He.fAd K ("Holding", some "__init__")) fd_Holding_inits
  fd_Holding_holds : FuncData
  F_Holding_holds : FunD K "holds" "Holding.holds" (defArgs s_Holding_holds) (defBody s_Holding_holds) (defScope s_Holding_holds) [] [] (He.fAd K ("Holding", some "holds")) fd_Holding_holds
  fd_Book_thing : FuncData
  F_Book_thing : FunD K "thing" "Book.thing" (defArgs s_Book_thing) (defBody s_Book_thing) (defScope s_Book_thing) [] [] (He.fAd K ("Book", some "thing")) fd_Book_thing
  fd_Book_parents : FuncData
  F_Book_parents : FunD K "parents" "Book.parents" (defArgs s_Book_parents) (defBody s_Book_parents) (defScope s_Book_parents) [] [] (He.fAd K ("Book", some "parents")) fd_Book_parents
  fd_Holding_held_parents : FuncData
  F_Holding_held_parents : FunD K "held_parents" "Holding.held_parents" (defArgs s_Holding_held_parents) (defBody s_Holding_held_parents) (defScope s_Holding_held_parents) [] [] (He.fAd K ("Holding", some "held_parents")) fd_Holding_held_parents
  fd_spread : FuncData
  F_spread : FnP K "spread" s_spread (He.fAd K ("spread", none)) fd_spread
  g_spread : mg "spread" = some (.ref (He.fAd K ("spread", none)))
  fd_followed : FuncData
  F_followed : FnP K "followed" s_followed (He.fAd K ("followed", none)) fd_followed
  g_followed : mg "followed" = some (.ref (He.fAd K ("followed", none)))
  fd_Holding_has_parents : FuncData
  F_Holding_has_parents : FunD K "has_parents" "Holding.has_parents" (defArgs s_Holding_has_parents) (defBody s_Holding_has_parents) (defScope s_Holding_has_parents) [] [] (He.fAd K ("Holding", some "has_parents")) fd_Holding_has_parents
  fd_edges_of : FuncData
  F_edges_of : FnP K "edges_of" s_edges_of (He.fAd K ("edges_of", none)) fd_edges_of
  g_edges_of : mg "edges_of" = some (.ref (He.fAd K ("edges_of", none)))
  fd_way : FuncData
  F_way : FnP K "way" s_way (He.fAd K ("way", none)) fd_way
  g_way : mg "way" = some (.ref (He.fAd K ("way", none)))
  fd_l_parents : FuncData
  F_l_parents : FnP K "_law_parents" s_l_parents (He.fAd K ("_law_parents", none)) fd_l_parents
  g_l_parents : mg "_law_parents" = some (.ref (He.fAd K ("_law_parents", none)))
  fd_l_lower : FuncData
  F_l_lower : FnP K "_law_lower" s_l_lower (He.fAd K ("_law_lower", none)) fd_l_lower
  g_l_lower : mg "_law_lower" = some (.ref (He.fAd K ("_law_lower", none)))
  fd_l_int : FuncData
  F_l_int : FnP K "_law_int" s_l_int (He.fAd K ("_law_int", none)) fd_l_int
  g_l_int : mg "_law_int" = some (.ref (He.fAd K ("_law_int", none)))
  fd_l_same : FuncData
  F_l_same : FnP K "_law_same" s_l_same (He.fAd K ("_law_same", none)) fd_l_same
  g_l_same : mg "_law_same" = some (.ref (He.fAd K ("_law_same", none)))
  fd_l_is_walk : FuncData
  F_l_is_walk : FnP K "_law_is_walk" s_l_is_walk (He.fAd K ("_law_is_walk", none)) fd_l_is_walk
  g_l_is_walk : mg "_law_is_walk" = some (.ref (He.fAd K ("_law_is_walk", none)))
  fd_l_brims : FuncData
  F_l_brims : FnP K "_law_brims" s_l_brims (He.fAd K ("_law_brims", none)) fd_l_brims
  g_l_brims : mg "_law_brims" = some (.ref (He.fAd K ("_law_brims", none)))
  fd_l_way_told : FuncData
  F_l_way_told : FnP K "_law_way_told" s_l_way_told (He.fAd K ("_law_way_told", none)) fd_l_way_told
  g_l_way_told : mg "_law_way_told" = some (.ref (He.fAd K ("_law_way_told", none)))
  fd_Book_kind : FuncData
  F_Book_kind : FunD K "kind" "Book.kind" (defArgs s_Book_kind) (defBody s_Book_kind) (defScope s_Book_kind) [] [] (He.fAd K ("Book", some "kind")) fd_Book_kind
  fd_Holding_holds_version : FuncData
  F_Holding_holds_version : FunD K "holds_version" "Holding.holds_version" (defArgs s_Holding_holds_version) (defBody s_Holding_holds_version) (defScope s_Holding_holds_version) [] [] (He.fAd K ("Holding", some "holds_version")) fd_Holding_holds_version
  fd_is_walk_back : FuncData
  F_is_walk_back : FnP K "is_walk_back" s_is_walk_back (He.fAd K ("is_walk_back", none)) fd_is_walk_back
  g_is_walk_back : mg "is_walk_back" = some (.ref (He.fAd K ("is_walk_back", none)))
  fd_is_ahead : FuncData
  F_is_ahead : FnP K "is_ahead" s_is_ahead (He.fAd K ("is_ahead", none)) fd_is_ahead
  g_is_ahead : mg "is_ahead" = some (.ref (He.fAd K ("is_ahead", none)))
  fd_is_apart : FuncData
  F_is_apart : FnP K "is_apart" s_is_apart (He.fAd K ("is_apart", none)) fd_is_apart
  g_is_apart : mg "is_apart" = some (.ref (He.fAd K ("is_apart", none)))
  fd_right_way : FuncData
  F_right_way : FnP K "right_way" s_right_way (He.fAd K ("right_way", none)) fd_right_way
  g_right_way : mg "right_way" = some (.ref (He.fAd K ("right_way", none)))
  fd_l_two_views : FuncData
  F_l_two_views : FnP K "_law_two_views" s_l_two_views (He.fAd K ("_law_two_views", none)) fd_l_two_views
  g_l_two_views : mg "_law_two_views" = some (.ref (He.fAd K ("_law_two_views", none)))
  fd_law : FuncData
  F_law : FnP K "law" s_law (He.fAd K ("law", none)) fd_law
  z_all : mg "all" = none
  z_bool : mg "bool" = none
  z_dict : mg "dict" = none
  z_int : mg "int" = none
  z_isinstance : mg "isinstance" = none
  z_len : mg "len" = none
  z_list : mg "list" = none
  z_max : mg "max" = none
  z_min : mg "min" = none
  z_ord : mg "ord" = none
  z_range : mg "range" = none
  z_set : mg "set" = none
  z_sorted : mg "sorted" = none
  z_str : mg "str" = none
  z_tuple : mg "tuple" = none
  z_zip : mg "zip" = none
  c_ALL : ∃ t, mg "ALL" = some (.int 400 t)
  c_BARRED_SIGN : ∃ t, mg "BARRED_SIGN" = some (.int 37 t)
  c_DEEPEST : ∃ t, mg "DEEPEST" = some (.int 8 t)
  c_LAST_STAMP : ∃ t, mg "LAST_STAMP" = some (.int 1000000000000000000 t)
  c_LONGEST_LABEL : ∃ t, mg "LONGEST_LABEL" = some (.int 8 t)
  c_MOST : ∃ t, mg "MOST" = some (.int 400 t)
  c_MOST_ENTRIES : ∃ t, mg "MOST_ENTRIES" = some (.int 20 t)
  c_MOST_PARENTS : ∃ t, mg "MOST_PARENTS" = some (.int 4 t)
  c_MOST_ROWS : ∃ t, mg "MOST_ROWS" = some (.int 40 t)
  c_MOST_SIGNS : ∃ t, mg "MOST_SIGNS" = some (.int 40 t)
  gc_Book : mg "Book" = some (.ref (He.ga K "Book"))
  gc_Holding : mg "Holding" = some (.ref (He.ga K "Holding"))
  cl_Book : Cls K (He.ga K "Book")
  na_Book_contents : NoAttr K (He.ga K "Book") "contents"
  na_Book_depths : NoAttr K (He.ga K "Book") "depths"
  na_Book_given : NoAttr K (He.ga K "Book") "given"
  me_Book_is_name : Meth K (He.ga K "Book") "is_name" (He.fAd K ("Book", some "is_name"))
  me_Book_has_kinds : Meth K (He.ga K "Book") "has_kinds" (He.fAd K ("Book", some "has_kinds"))
  me_Book_depth : Meth K (He.ga K "Book") "depth" (He.fAd K ("Book", some "depth"))
  me_Book_is_content : Meth K (He.ga K "Book") "is_content" (He.fAd K ("Book", some "is_content"))
  me_Book_give_next : Meth K (He.ga K "Book") "give_next" (He.fAd K ("Book", some "give_next"))
  me_Book_named : Meth K (He.ga K "Book") "named" (He.fAd K ("Book", some "named"))
  me_Book_thing : Meth K (He.ga K "Book") "thing" (He.fAd K ("Book", some "thing"))
  me_Book_parents : Meth K (He.ga K "Book") "parents" (He.fAd K ("Book", some "parents"))
  me_Book_kind : Meth K (He.ga K "Book") "kind" (He.fAd K ("Book", some "kind"))
  mk_Book : Mk K (He.ga K "Book") (He.fAd K ("Book", some "__init__"))
  cl_Holding : Cls K (He.ga K "Holding")
  na_Holding_book : NoAttr K (He.ga K "Holding") "book"
  na_Holding_inside : NoAttr K (He.ga K "Holding") "inside"
  na_Holding_ordered : NoAttr K (He.ga K "Holding") "ordered"
  me_Holding_holds : Meth K (He.ga K "Holding") "holds" (He.fAd K ("Holding", some "holds"))
  me_Holding_held_parents : Meth K (He.ga K "Holding") "held_parents" (He.fAd K ("Holding", some "held_parents"))
  me_Holding_has_parents : Meth K (He.ga K "Holding") "has_parents" (He.fAd K ("Holding", some "has_parents"))
  me_Holding_holds_version : Meth K (He.ga K "Holding") "holds_version" (He.fAd K ("Holding", some "holds_version"))
  mk_Holding : Mk K (He.ga K "Holding") (He.fAd K ("Holding", some "__init__"))
theorem Tx.k52 {K : PySem.W.Frag} {mg : Str → Option Value} (T : Tx K mg) : BkC K ∧ HdC K := ⟨⟨T.cl_Book, T.na_Book_contents, T.na_Book_depths, T.na_Book_given⟩, ⟨T.cl_Holding, T.na_Holding_book, T.na_Holding_inside, T.na_Holding_ordered⟩⟩
section
variable {P : Program} [HasW] {K : PySem.W.Frag} {mg : Str → Option Value} {base : Heap}
theorem b_l_deck (T : Tx K mg) : Binds K T.fd_l_deck ["_law_script"] [] := T.F_l_deck.bindsN fun _ _ _ _ _ _ us hl => match us, hl with | [_], _ => rfl
theorem ok_l_deck (T : Tx K mg) : FnOk P HasW.w K mg base CX0 1 (He.fAd K ("_law_deck", none)) T.fd_l_deck ["_law_script"] (sp_l_deck K) := by
  refine T.F_l_deck.ok sc_l_deck (fun vs H Q E h => len_l_deck h) (fun cdv A outer s H vs Q E hr h => ⟨t_l_deck K, PSs.nox ?_, pure_l_deck h⟩)
  exact (pss_one (ps_ret (pe_lst (pa_cons (pe_callTy call_list_of (by rfl) T.z_list (by decide +kernel) (pa_cons (pv 0) pa_nil)) (pa_cons pe_int (pa_cons pe_int (pa_cons pe_int pa_nil)))))))
theorem b_l_mixed (T : Tx K mg) : Binds K T.fd_l_mixed ["_law_cell", "_law_turn"] [] := T.F_l_mixed.bindsN fun _ _ _ _ _ _ us hl => match us, hl with | [_, _], _ => rfl
theorem ok_l_mixed (T : Tx K mg) : FnOk P HasW.w K mg base CX0 1 (He.fAd K ("_law_mixed", none)) T.fd_l_mixed ["_law_cell", "_law_turn"] (sp_l_mixed K) := by
  refine T.F_l_mixed.ok sc_l_mixed (fun vs H Q E h => len_l_mixed h) (fun cdv A outer s H vs Q E hr h => ⟨t_l_mixed K, PSs.nox ?_, pure_l_mixed h⟩)
  exact (pss_one (ps_ret (pe_op op_mod (pe_op op_pow (pe_op op_add (pe_op op_add (pe_op op_mod (pv 0) pe_int) (pe_op op_mul (pv 1) pe_int)) pe_int) pe_int) pe_int)))
theorem b_l_draw (T : Tx K mg) : Binds K T.fd_l_draw ["_law_deck_here", "_law_many"] [] := T.F_l_draw.bindsN fun _ _ _ _ _ _ us hl => match us, hl with | [_, _], _ => rfl
theorem ok_l_draw (T : Tx K mg) : FnOk P HasW.w K mg base CX0 2 (He.fAd K ("_law_draw", none)) T.fd_l_draw ["_law_deck_here", "_law_many"] (sp_l_draw K) := by
  refine T.F_l_draw.ok sc_l_draw (fun vs H Q E h => len_l_draw h) (fun cdv A outer s H vs Q E hr h => ⟨t_l_draw K, PSs.nox ?_, pure_l_draw h⟩)
  exact (pss_cons (ps_set (i := 2) sc_l_draw.nd rfl (Or.inl rfl) (pe_ix ix_seq (pv 0) pe_int (fun _ _ => rfl)))
      (pss_cons (ps_asg (pe_op op_add (pe_ix ix_seq (pv 0) pe_int (fun _ _ => rfl)) pe_int) (pg_sub (pv 0) pe_int set_list))
      (pss_cons (ps_if (PW.pt (pw_and (pt_cmpR op_eq (pe_ix ix_seq (pv 0) pe_int (fun _ _ => rfl)) pe_int (nomark _)) (pw_and1 (pt_cmpR op_lt (pe_ix ix_seq (pv 0) pe_int (fun _ _ => rfl)) (pe_callB call_len (by rfl) T.z_len PySem.boot_len (pa_cons (pv 2) pa_nil)) (nomark _))))) (pss_cons (ps_asg (pe_op op_add (pe_ix ix_seq (pv 0) pe_int (fun _ _ => rfl)) pe_int) (pg_sub (pv 0) pe_int set_list))
      (pss_cons (ps_if (pt_cmpR op_lt (pe_ix ix_seq (pv 2) (pe_op op_sub (pe_ix ix_seq (pv 0) pe_int (fun _ _ => rfl)) pe_int) (fun _ _ => rfl)) (pe_op op_pow pe_int pe_int) (nomark _)) (pss_one (ps_ret (pe_op op_mod (pe_call (ok_l_mixed T) (hr.mono (by decide)) (by rfl) T.g_l_mixed T.F_l_mixed.kp (b_l_mixed T) .nil pass0 (pa_cons (pe_ix ix_seq (pv 2) (pe_op op_sub (pe_ix ix_seq (pv 0) pe_int (fun _ _ => rfl)) pe_int) (fun _ _ => rfl)) (pa_cons (pe_ix ix_seq (pv 0) pe_int (fun _ _ => rfl)) pa_nil))) (pv 1)))) pss_nil)
      (pss_one (ps_asg (pe_ix ix_seq (pv 2) (pe_op op_sub (pe_ix ix_seq (pv 0) pe_int (fun _ _ => rfl)) pe_int) (fun _ _ => rfl)) (pg_sub (pv 0) pe_int set_list))))) pss_nil)
      (pss_cons (ps_if (pt_cmpR op_gt (pe_ix ix_seq (pv 0) pe_int (fun _ _ => rfl)) pe_int (nomark _)) (pss_cons (ps_set (i := 3) sc_l_draw.nd rfl (Or.inl rfl) (pe_op op_mod (pe_ix ix_seq (pv 0) pe_int (fun _ _ => rfl)) (pv 1)))
      (pss_cons (ps_asg (pe_op op_fdivW (pe_ix ix_seq (pv 0) pe_int (fun _ _ => rfl)) (pv 1)) (pg_sub (pv 0) pe_int set_list))
      (pss_one (ps_ret (pv 3))))) pss_nil)
      (pss_cons (ps_set (i := 4) sc_l_draw.nd rfl (Or.inl rfl) (pe_op op_mul (pe_ix ix_seq (pv 0) pe_int (fun _ _ => rfl)) pe_int))
      (pss_cons (ps_if (pt_cmpR op_gt (pe_callB call_len (by rfl) T.z_len PySem.boot_len (pa_cons (pv 2) pa_nil)) pe_int (nomark _)) (pss_one (ps_set (i := 4) sc_l_draw.nd rfl (Or.inl rfl) (pe_op op_add (pv 4) (pe_op op_mod (pe_ix ix_seq (pv 2) (pe_op op_mod (pe_op op_mul (pe_ix ix_seq (pv 0) pe_int (fun _ _ => rfl)) pe_int) (pe_callB call_len (by rfl) T.z_len PySem.boot_len (pa_cons (pv 2) pa_nil))) (fun _ _ => rfl)) pe_int)))) pss_nil)
      (pss_one (ps_ret (pe_op op_mod (pe_call (ok_l_mixed T) (hr.mono (by decide)) (by rfl) T.g_l_mixed T.F_l_mixed.kp (b_l_mixed T) .nil pass0 (pa_cons (pv 4) (pa_cons (pe_ix ix_seq (pv 0) pe_int (fun _ _ => rfl)) pa_nil))) (pv 1))))))))))
theorem b_l_ladder (T : Tx K mg) : Binds K T.fd_l_ladder ["_law_many"] [] := T.F_l_ladder.bindsN fun _ _ _ _ _ _ us hl => match us, hl with | [_], _ => rfl
theorem ok_l_ladder (T : Tx K mg) : FnOk P HasW.w K mg base CX0 1 (He.fAd K ("_law_ladder", none)) T.fd_l_ladder ["_law_many"] (sp_l_ladder K) := by
  refine T.F_l_ladder.ok sc_l_ladder (fun vs H Q E h => len_l_ladder h) (fun cdv A outer s H vs Q E hr h => ⟨t_l_ladder K, PSs.nox ?_, pure_l_ladder h⟩)
  exact (pss_cons (ps_set (i := 1) sc_l_ladder.nd rfl (Or.inl rfl) (pe_lst (pa_cons (pe_tup (pa_cons pe_str (pa_cons (pe_tup pa_nil) pa_nil))) (pa_cons (pe_tup (pa_cons pe_str (pa_cons (pe_tup pa_nil) pa_nil))) pa_nil))))
      (pss_cons (ps_for PassesOwn.never rfl (pi_range1 (by rfl) T.z_range (pa_cons (pv 0) pa_nil)) (pg_name (i := 2) sc_l_ladder.nd rfl (Or.inl rfl)) (pss_one (ps_expr (pe_bm PySem.F.plainAttrs_list PySem.F.slot_list_append PySem.F.type_list_append mt_append (pv 1) (pa_cons (pe_tup (pa_cons pe_str (pa_cons (pe_callTy call_tuple_of (by rfl) T.z_tuple (by decide +kernel) (pa_cons (pe_lc (own := [("_law_name", 3)]) (g := (gName 3)) (tt := (tTest (tOp rGtI (tVar 3) (tC (.int 1))))) (te := (tVar 3)) rfl sc_l_ladder.nd (pi_tup (pe_tup (pa_cons (pv 2) (pa_cons (pe_op op_add (pv 2) pe_int) pa_nil)))) (blkOk_by (own := [("_law_name", 3)]) (N := N_l_ladder) (sc := defScope s_l_ladder) (by decide +kernel)) (fun _ _ _ _ _ => (pg_name (i := 3) sc_l_ladder.nd rfl (Or.inl rfl))) (fun _ _ _ _ _ => (pts_one (pt_cmpR op_gt (pv 3) pe_int (nomark _)))) (fun _ _ _ _ _ => (pv 3))) pa_nil)) (pa_cons pe_int (pa_cons (pv 2) pa_nil))))) pa_nil)))))
      (pss_one (ps_ret (pv 1)))))
theorem b_l_line_of (T : Tx K mg) : Binds K T.fd_l_line_of ["_law_deck_here", "_law_many"] [] := T.F_l_line_of.bindsN fun _ _ _ _ _ _ us hl => match us, hl with | [_, _], _ => rfl
theorem ok_l_line_of (T : Tx K mg) : FnOk P HasW.w K mg base CX0 1 (He.fAd K ("_law_line_of", none)) T.fd_l_line_of ["_law_deck_here", "_law_many"] (sp_l_line_of K) := by
  refine T.F_l_line_of.ok sc_l_line_of (fun vs H Q E h => len_l_line_of h) (fun cdv A outer s H vs Q E hr h => ⟨t_l_line_of K, PSs.nox ?_, pure_l_line_of h⟩)
  exact (pss_cons (ps_set (i := 2) sc_l_line_of.nd rfl (Or.inl rfl) (pe_lst (pa_cons (pe_tup (pa_cons pe_str (pa_cons (pe_tup pa_nil) pa_nil))) (pa_cons (pe_tup (pa_cons pe_str (pa_cons (pe_tup pa_nil) pa_nil))) pa_nil))))
      (pss_cons (ps_for PassesOwn.never rfl (pi_range1 (by rfl) T.z_range (pa_cons (pv 1) pa_nil)) (pg_name (i := 3) sc_l_line_of.nd rfl (Or.inl rfl)) (pss_cons (ps_set (i := 4) sc_l_line_of.nd rfl (Or.inl rfl) (pe_tup pa_nil))
      (pss_cons (ps_if (pt_cmpR op_gt (pv 3) pe_int (nomark _)) (pss_one (ps_set (i := 4) sc_l_line_of.nd rfl (Or.inl rfl) (pe_tup (pa_cons (pe_op op_add (pv 3) pe_int) pa_nil)))) pss_nil)
      (pss_cons (ps_if (PW.pt (pw_and (pt_cmpR op_gt (pv 3) pe_int (nomark _)) (pw_and1 (pt_cmpR op_eq (pe_op op_mod (pe_op op_fdivW (pv 3) pe_int) pe_int) pe_int (nomark _))))) (pss_one (ps_set (i := 4) sc_l_line_of.nd rfl (Or.inl rfl) (pe_tup (pa_cons (pe_op op_sub (pv 3) pe_int) (pa_cons (pe_op op_add (pv 3) pe_int) pa_nil))))) pss_nil)
      (pss_one (ps_expr (pe_bm PySem.F.plainAttrs_list PySem.F.slot_list_append PySem.F.type_list_append mt_append (pv 2) (pa_cons (pe_tup (pa_cons pe_str (pa_cons (pv 4) (pa_cons pe_int (pa_cons (pv 3) pa_nil))))) pa_nil))))))))
      (pss_one (ps_ret (pv 2)))))
theorem b_l_great (T : Tx K mg) : Binds K T.fd_l_great ["_law_deck_here", "_law_pick"] [] := T.F_l_great.bindsN fun _ _ _ _ _ _ us hl => match us, hl with | [_, _], _ => rfl
theorem ok_l_great (T : Tx K mg) : FnOk P HasW.w K mg base CX0 3 (He.fAd K ("_law_great", none)) T.fd_l_great ["_law_deck_here", "_law_pick"] (sp_l_great K) := by
  refine T.F_l_great.ok sc_l_great (fun vs H Q E h => len_l_great h) (fun cdv A outer s H vs Q E hr h => ⟨t_l_great K, PSs.nox ?_, pure_l_great h⟩)
  exact (pss_cons (ps_set (i := 2) sc_l_great.nd rfl (Or.inr rfl) (pe_call (ok_l_ladder T) (hr.mono (by decide)) (by rfl) T.g_l_ladder T.F_l_ladder.kp (b_l_ladder T) .nil pass0 (pa_cons (pe_op op_add pe_int (pe_call (ok_l_draw T) (hr.mono (by decide)) (by rfl) T.g_l_draw T.F_l_draw.kp (b_l_draw T) .nil pass0 (pa_cons (pv 0) (pa_cons pe_int pa_nil)))) pa_nil)))
      (pss_cons (ps_if (pt_cmpR op_eq (pv 1) pe_int (nomark _)) (pss_one (ps_set (i := 2) sc_l_great.nd rfl (Or.inr rfl) (pe_call (ok_l_line_of T) (hr.mono (by decide)) (by rfl) T.g_l_line_of T.F_l_line_of.kp (b_l_line_of T) .nil pass0 (pa_cons (pv 0) (pa_cons (pe_op op_add pe_int (pe_call (ok_l_draw T) (hr.mono (by decide)) (by rfl) T.g_l_draw T.F_l_draw.kp (b_l_draw T) .nil pass0 (pa_cons (pv 0) (pa_cons pe_int pa_nil)))) pa_nil))))) pss_nil)
      (pss_cons (ps_set (i := 3) sc_l_great.nd rfl (Or.inr rfl) (pe_lc (own := [("_law_k", 4)]) (g := (gName 4)) (tt := tYes) (te := (tCall (sp_l_draw K) [] E0 (tCons (tVar 0) (tCons (tOp rMulI (tC (.int 3)) (tCB (fLen K) (tCons (tVar 2) tNil))) tNil)))) rfl sc_l_great.nd (pi_range1 (by rfl) T.z_range (pa_cons pe_int pa_nil)) (blkOk_by (own := [("_law_k", 4)]) (N := N_l_great) (sc := defScope s_l_great) (by decide +kernel)) (fun _ _ _ _ _ => (pg_name (i := 4) sc_l_great.nd rfl (Or.inl rfl))) (fun _ _ _ _ _ => pts_nil) (fun _ _ _ _ _ => (pe_call (ok_l_draw T) (hr.mono (by decide)) (by rfl) T.g_l_draw T.F_l_draw.kp (b_l_draw T) .nil pass0 (pa_cons (pv 0) (pa_cons (pe_op op_mul pe_int (pe_callB call_len (by rfl) T.z_len PySem.boot_len (pa_cons (pv 2) pa_nil))) pa_nil))))))
      (pss_cons (ps_setLc (i := 5) (own := [("_law_name", 6)]) (g := (gName 6)) (tt := (tOr (tTest (tOp rEq (tVar 6) (tOp rSubI (tCB (fLen K) (tCons (tVar 2) tNil)) (tC (.int 1))))) (tTest (tOp (rIn K true) (tVar 6) (tVar 3))))) (te := (tVar 6)) rfl sc_l_great.nd rfl rfl (sw_true rfl rfl rfl (by decide +kernel)) (pi_range1 (by rfl) T.z_range (pa_cons (pe_callB call_len (by rfl) T.z_len PySem.boot_len (pa_cons (pv 2) pa_nil)) pa_nil)) (blkOk_by (own := [("_law_name", 6)]) (N := N_l_great) (sc := defScope s_l_great) (by decide +kernel)) (fun _ _ _ _ _ => (pg_name (i := 6) sc_l_great.nd rfl (Or.inl rfl))) (fun _ _ _ _ _ => (pts_one (PW.pt (pw_or (pt_cmpR op_eq (pv 6) (pe_op op_sub (pe_callB call_len (by rfl) T.z_len PySem.boot_len (pa_cons (pv 2) pa_nil)) pe_int) (nomark _)) (pw_or1 (pt_cmpR op_notIn_seq (pv 6) (pv 3) (by rfl))))))) (fun _ _ _ _ _ => (pv 6)))
      (pss_one (ps_ret (pe_tup (pa_cons (pv 2) (pa_cons (pv 5) pa_nil)))))))))
theorem b_l_some (T : Tx K mg) : Binds K T.fd_l_some ["_law_deck_here", "_law_names", "_law_count"] [] := T.F_l_some.bindsN fun _ _ _ _ _ _ us hl => match us, hl with | [_, _, _], _ => rfl
theorem ok_l_some (T : Tx K mg) : FnOk P HasW.w K mg base CX0 3 (He.fAd K ("_law_some", none)) T.fd_l_some ["_law_deck_here", "_law_names", "_law_count"] (sp_l_some K) := by
  refine T.F_l_some.ok sc_l_some (fun vs H Q E h => len_l_some h) (fun cdv A outer s H vs Q E hr h => ⟨t_l_some K, PSs.nox ?_, pure_l_some h⟩)
  exact (pss_cons (ps_set (i := 3) sc_l_some.nd rfl (Or.inl rfl) (pe_lst pa_nil))
      (pss_cons (ps_for PassesOwn.never rfl (pi_range1 (by rfl) T.z_range (pa_cons (pe_callB (call_min2 rfl) (by rfl) T.z_min (by decide +kernel) (pa_cons (pv 2) (pa_cons (pe_callB call_len (by rfl) T.z_len PySem.boot_len (pa_cons (pv 1) pa_nil)) pa_nil))) pa_nil)) (pg_name (i := 4) sc_l_some.nd rfl (Or.inl rfl)) (pss_one (ps_expr (pe_bm PySem.F.plainAttrs_list PySem.F.slot_list_append PySem.F.type_list_append mt_append (pv 3) (pa_cons (pe_ix ix_seq (pv 1) (pe_call (ok_l_draw T) (hr.mono (by decide)) (by rfl) T.g_l_draw T.F_l_draw.kp (b_l_draw T) .nil pass0 (pa_cons (pv 0) (pa_cons (pe_callB call_len (by rfl) T.z_len PySem.boot_len (pa_cons (pv 1) pa_nil)) pa_nil))) (fun _ _ => rfl)) pa_nil)))))
      (pss_one (ps_ret (pe_callTy call_tuple_of (by rfl) T.z_tuple (by decide +kernel) (pa_cons (pe_sortSet rfl (by rfl) T.z_sorted (by rfl) T.z_set (pv 3)) pa_nil))))))
theorem b_l_give (T : Tx K mg) : Binds K T.fd_l_give ["_law_things", "_law_content"] [] := T.F_l_give.bindsN fun _ _ _ _ _ _ us hl => match us, hl with | [_, _], _ => rfl
theorem ok_l_give (T : Tx K mg) : FnOk P HasW.w K mg base CX0 1 (He.fAd K ("_law_give", none)) T.fd_l_give ["_law_things", "_law_content"] (sp_l_give K) := by
  refine T.F_l_give.ok sc_l_give (fun vs H Q E h => len_l_give h) (fun cdv A outer s H vs Q E hr h => ⟨t_l_give K, PSs.nox ?_, pure_l_give h⟩)
  exact (pss_cons (ps_if (pt_cmpR (op_inD (units65b hr)) (pv 1) (pv 0) (by rfl)) (pss_one (ps_ret (pe_bm PySem.F.plainAttrs_list PySem.F.slot_list_index PySem.F.type_list_index (mt_indexD (units65b hr)) (pv 0) (pa_cons (pv 1) pa_nil)))) pss_nil)
      (pss_cons (ps_expr (pe_bm PySem.F.plainAttrs_list PySem.F.slot_list_append PySem.F.type_list_append mt_append (pv 0) (pa_cons (pv 1) pa_nil)))
      (pss_one (ps_ret (pe_op op_sub (pe_callB call_len (by rfl) T.z_len PySem.boot_len (pa_cons (pv 0) pa_nil)) pe_int)))))
theorem b_l_scene (T : Tx K mg) : Binds K T.fd_l_scene ["_law_deck_here", "_law_most"] [] := T.F_l_scene.bindsN fun _ _ _ _ _ _ us hl => match us, hl with | [_, _], _ => rfl
theorem ok_l_scene (T : Tx K mg) : FnOk P HasW.w K mg base CX0 4 (He.fAd K ("_law_scene", none)) T.fd_l_scene ["_law_deck_here", "_law_most"] (sp_l_scene K) := by
  refine T.F_l_scene.ok sc_l_scene (fun vs H Q E h => len_l_scene h) (fun cdv A outer s H vs Q E hr h => ⟨t_l_scene K, PSs.nox ?_, pure_l_scene h⟩)
  exact (pss_cons (ps_set (i := 2) sc_l_scene.nd rfl (Or.inl rfl) (pe_call (ok_l_draw T) (hr.mono (by decide)) (by rfl) T.g_l_draw T.F_l_draw.kp (b_l_draw T) .nil pass0 (pa_cons (pv 0) (pa_cons pe_int pa_nil))))
      (pss_cons (ps_set (i := 3) sc_l_scene.nd rfl (Or.inr rfl) (pe_lst (pa_cons (pe_tup (pa_cons pe_str (pa_cons (pe_tup pa_nil) pa_nil))) (pa_cons (pe_tup (pa_cons pe_str (pa_cons (pe_tup (pa_cons (pe_tup (pa_cons pe_str (pa_cons pe_int pa_nil))) pa_nil)) pa_nil))) pa_nil))))
      (pss_cons (ps_for PassesOwn.never rfl (pi_range1 (by rfl) T.z_range (pa_cons (pe_op op_add pe_int (pe_call (ok_l_draw T) (hr.mono (by decide)) (by rfl) T.g_l_draw T.F_l_draw.kp (b_l_draw T) .nil pass0 (pa_cons (pv 0) (pa_cons (pv 1) pa_nil)))) pa_nil)) (pg_name (i := 4) sc_l_scene.nd rfl (Or.inl rfl)) (pss_cons (ps_set (i := 5) sc_l_scene.nd rfl (Or.inl rfl) (pe_call (ok_l_some T) (hr.mono (by decide)) (by rfl) T.g_l_some T.F_l_some.kp (b_l_some T) .nil pass0 (pa_cons (pv 0) (pa_cons (pe_listRg rfl (by rfl) T.z_list (prg_2 (by rfl) T.z_range pe_int (pe_callB call_len (by rfl) T.z_len PySem.boot_len (pa_cons (pv 3) pa_nil)))) (pa_cons (pe_call (ok_l_draw T) (hr.mono (by decide)) (by rfl) T.g_l_draw T.F_l_draw.kp (b_l_draw T) .nil pass0 (pa_cons (pv 0) (pa_cons pe_int pa_nil))) pa_nil)))))
      (pss_one (ps_expr (pe_call (ok_l_give T) (hr.mono (by decide)) (by rfl) T.g_l_give T.F_l_give.kp (b_l_give T) .nil pass0 (pa_cons (pv 3) (pa_cons (pe_tup (pa_cons pe_str (pa_cons (pv 5) (pa_cons pe_int (pa_cons (pe_call (ok_l_draw T) (hr.mono (by decide)) (by rfl) T.g_l_draw T.F_l_draw.kp (b_l_draw T) .nil pass0 (pa_cons (pv 0) (pa_cons (pe_op op_add (pe_op op_pow pe_int pe_int) pe_int) pa_nil))) pa_nil))))) pa_nil)))))))
      (pss_cons (ps_set (i := 6) sc_l_scene.nd rfl (Or.inl rfl) (pe_listRg rfl (by rfl) T.z_list (prg_1 (by rfl) T.z_range (pe_callB call_len (by rfl) T.z_len PySem.boot_len (pa_cons (pv 3) pa_nil)))))
      (pss_cons (ps_if (pt_cmpR op_eq (pv 2) pe_int (nomark _)) (pss_one (ps_setLc (i := 7) (own := [("_law_name", 9)]) (g := (gName 9)) (tt := (tTest (tOp rEq (tCall (sp_l_draw K) [] E0 (tCons (tVar 0) (tCons (tC (.int 2)) tNil))) (tC (.int 1))))) (te := (tVar 9)) rfl sc_l_scene.nd rfl rfl (sw_true rfl rfl rfl (by decide +kernel)) (pi_list (pv 6)) (blkOk_by (own := [("_law_name", 9)]) (N := N_l_scene) (sc := defScope s_l_scene) (by decide +kernel)) (fun _ _ _ _ _ => (pg_name (i := 9) sc_l_scene.nd rfl (Or.inl rfl))) (fun _ _ _ _ _ => (pts_one (pt_cmpR op_eq (pe_call (ok_l_draw T) (hr.mono (by decide)) (by rfl) T.g_l_draw T.F_l_draw.kp (b_l_draw T) .nil pass0 (pa_cons (pv 0) (pa_cons pe_int pa_nil))) pe_int (nomark _)))) (fun _ _ _ _ _ => (pv 9)))) (pss_cons (ps_set (i := 8) sc_l_scene.nd rfl (Or.inr rfl) (pe_lc (own := [("_law_k", 4)]) (g := (gName 4)) (tt := tYes) (te := (tCall (sp_l_draw K) [] E0 (tCons (tVar 0) (tCons (tOp rMulI (tC (.int 2)) (tCB (fLen K) (tCons (tVar 3) tNil))) tNil)))) rfl sc_l_scene.nd (pi_range1 (by rfl) T.z_range (pa_cons (pe_call (ok_l_draw T) (hr.mono (by decide)) (by rfl) T.g_l_draw T.F_l_draw.kp (b_l_draw T) .nil pass0 (pa_cons (pv 0) (pa_cons pe_int pa_nil))) pa_nil)) (blkOk_by (own := [("_law_k", 4)]) (N := N_l_scene) (sc := defScope s_l_scene) (by decide +kernel)) (fun _ _ _ _ _ => (pg_name (i := 4) sc_l_scene.nd rfl (Or.inl rfl))) (fun _ _ _ _ _ => pts_nil) (fun _ _ _ _ _ => (pe_call (ok_l_draw T) (hr.mono (by decide)) (by rfl) T.g_l_draw T.F_l_draw.kp (b_l_draw T) .nil pass0 (pa_cons (pv 0) (pa_cons (pe_op op_mul pe_int (pe_callB call_len (by rfl) T.z_len PySem.boot_len (pa_cons (pv 3) pa_nil))) pa_nil))))))
      (pss_one (ps_setLc (i := 7) (own := [("_law_name", 9)]) (g := (gName 9)) (tt := (tTest (tOp (rIn K true) (tVar 9) (tVar 8)))) (te := (tVar 9)) rfl sc_l_scene.nd rfl rfl (sw_true rfl rfl rfl (by decide +kernel)) (pi_list (pv 6)) (blkOk_by (own := [("_law_name", 9)]) (N := N_l_scene) (sc := defScope s_l_scene) (by decide +kernel)) (fun _ _ _ _ _ => (pg_name (i := 9) sc_l_scene.nd rfl (Or.inl rfl))) (fun _ _ _ _ _ => (pts_one (pt_cmpR op_notIn_seq (pv 9) (pv 8) (by rfl)))) (fun _ _ _ _ _ => (pv 9))))))
      (pss_cons (ps_expr (pe_bm PySem.F.plainAttrs_list PySem.F.slot_list_append PySem.F.type_list_append mt_append (pv 7) (pa_cons (pe_op op_add pe_int (pe_call (ok_l_draw T) (hr.mono (by decide)) (by rfl) T.g_l_draw T.F_l_draw.kp (b_l_draw T) .nil pass0 (pa_cons (pv 0) (pa_cons (pe_op op_sub (pe_callB call_len (by rfl) T.z_len PySem.boot_len (pa_cons (pv 3) pa_nil)) pe_int) pa_nil)))) pa_nil)))
      (pss_one (ps_ret (pe_tup (pa_cons (pv 3) (pa_cons (pe_sortSet rfl (by rfl) T.z_sorted (by rfl) T.z_set (pv 7)) pa_nil)))))))))))
theorem b_l_here (T : Tx K mg) : Binds K T.fd_l_here ["_law_names"] [] := T.F_l_here.bindsN fun _ _ _ _ _ _ us hl => match us, hl with | [_], _ => rfl
theorem ok_l_here (T : Tx K mg) : FnOk P HasW.w K mg base CX0 1 (He.fAd K ("_law_here", none)) T.fd_l_here ["_law_names"] (sp_l_here K) := by
  refine T.F_l_here.ok sc_l_here (fun vs H Q E h => len_l_here h) (fun cdv A outer s H vs Q E hr h => ⟨t_l_here K, PSs.nox ?_, pure_l_here h⟩)
  exact (pss_cons (ps_set (i := 1) sc_l_here.nd rfl (Or.inl rfl) pe_dnewK)
      (pss_cons (ps_for PassesOwn.never rfl (pi_list (pv 0)) (pg_name (i := 2) sc_l_here.nd rfl (Or.inl rfl)) (pss_one (ps_dput (hu_of hr) (pv 1) (pv 2) pe_bl rfl)))
      (pss_one (ps_ret (pv 1)))))
theorem b_l_versions (T : Tx K mg) : Binds K T.fd_l_versions ["_law_things", "_law_here_here"] [] := T.F_l_versions.bindsN fun _ _ _ _ _ _ us hl => match us, hl with | [_, _], _ => rfl
theorem ok_l_versions (T : Tx K mg) : FnOk P HasW.w K mg base CX0 1 (He.fAd K ("_law_versions", none)) T.fd_l_versions ["_law_things", "_law_here_here"] (sp_l_versions K) := by
  refine T.F_l_versions.ok sc_l_versions (fun vs H Q E h => len_l_versions h) (fun cdv A outer s H vs Q E hr h => ⟨t_l_versions K, PSs.nox ?_, pure_l_versions h⟩)
  exact (pss_one (ps_ret (pe_lc (own := [("_law_name", 2)]) (g := (gName 2)) (tt := (tTest (tOp rEq (tOp (rIx K) (tOp (rIx K) (tVar 0) (tVar 2)) (tC (.int 0))) (tC (.str "version"))))) (te := (tVar 2)) rfl sc_l_versions.nd (pi_list (pe_callB (cr_sortedK rfl) (by rfl) T.z_sorted (by decide +kernel) (pa_cons (pv 1) pa_nil))) (blkOk_by (own := [("_law_name", 2)]) (N := N_l_versions) (sc := defScope s_l_versions) (by decide +kernel)) (fun _ _ _ _ _ => (pg_name (i := 2) sc_l_versions.nd rfl (Or.inl rfl))) (fun _ _ _ _ _ => (pts_one (pt_cmpR op_eq (pe_ix ix_seq (pe_ix ix_seq (pv 0) (pv 2) (fun _ _ => rfl)) pe_int (fun _ _ => rfl)) pe_str (nomark _)))) (fun _ _ _ _ _ => (pv 2)))))
theorem b_Book_init (T : Tx K mg) : Binds K T.fd_Book_init ["self"] [] := T.F_Book_init.bindsN fun _ _ _ _ _ _ us hl => match us, hl with | [_], _ => rfl
theorem ok_Book_init (T : Tx K mg) : FnOk P HasW.w K mg base CX0 1 (He.fAd K ("Book", some "__init__")) T.fd_Book_init ["self"] (sp_Book_init K) := by
  refine T.F_Book_init.ok sc_Book_init (fun vs H Q E h => len_Book_init h) (fun cdv A outer s H vs Q E hr h => ⟨t_Book_init K, PSs.nox ?_, pure_Book_init h⟩)
  exact (pss_cons (ps_fld (pv 0) (pe_lst pa_nil) rfl)
      (pss_cons (ps_fld (pv 0) (pe_lst pa_nil) rfl)
      (pss_one (ps_fld (pv 0) (pe_nnew rfl) rfl))))
theorem b_is_sign (T : Tx K mg) : Binds K T.fd_is_sign ["sign"] [] := T.F_is_sign.bindsN fun _ _ _ _ _ _ us hl => match us, hl with | [_], _ => rfl
theorem ok_is_sign (T : Tx K mg) : FnOk P HasW.w K mg base CX0 1 (He.fAd K ("is_sign", none)) T.fd_is_sign ["sign"] (sp_is_sign K) := by
  refine T.F_is_sign.ok sc_is_sign (fun vs H Q E h => len_is_sign h) (fun cdv A outer s H vs Q E hr h => ⟨t_is_sign K, PSs.nox ?_, pure_is_sign h⟩)
  exact (pss_one (ps_ret (pe_and (pe_chain op_le_str op_le_str pe_str (pv 0) pe_str) (pe_one (pe_cmpR op_ne (pe_callB call_ord (by rfl) T.z_ord (by decide +kernel) (pa_cons (pv 0) pa_nil)) (pe_glob (v := .int 37) (by rfl) T.c_BARRED_SIGN.choose_spec ⟨_, rfl⟩) (nomark _))))))
theorem b_is_text (T : Tx K mg) : Binds K T.fd_is_text ["thing"] [] := T.F_is_text.bindsN fun _ _ _ _ _ _ us hl => match us, hl with | [_], _ => rfl
theorem ok_is_text (T : Tx K mg) : FnOk P HasW.w K mg base CX0 2 (He.fAd K ("is_text", none)) T.fd_is_text ["thing"] (sp_is_text K) := by
  refine T.F_is_text.ok sc_is_text (fun vs H Q E h => len_is_text h) (fun cdv A outer s H vs Q E hr h => ⟨t_is_text K, PSs.nox ?_, pure_is_text h⟩)
  exact (pss_one (ps_ret (pe_and (pe_callB call_isi (by rfl) T.z_isinstance (by decide +kernel) (pa_cons (pv 0) (pa_cons (pe_bltn (v := .ty "str") (by rfl) T.z_str (by decide +kernel) rfl) pa_nil))) (pe_one (pe_callB (cr_all rfl) (by rfl) T.z_all (by decide +kernel) (pa_cons (pe_lc (own := [("sign", 1)]) (g := (gName 1)) (tt := tYes) (te := (tCall (sp_is_sign K) [] E0 (tCons (tVar 1) tNil))) rfl sc_is_text.nd (pi_str (pv 0)) (blkOk_by (own := [("sign", 1)]) (N := N_is_text) (sc := defScope s_is_text) (by decide +kernel)) (fun _ _ _ _ _ => (pg_name (i := 1) sc_is_text.nd rfl (Or.inl rfl))) (fun _ _ _ _ _ => pts_nil) (fun _ _ _ _ _ => (pe_call (ok_is_sign T) (hr.mono (by decide)) (by rfl) T.g_is_sign T.F_is_sign.kp (b_is_sign T) .nil pass0 (pa_cons (pv 1) pa_nil)))) pa_nil))))))
theorem b_is_row (T : Tx K mg) : Binds K T.fd_is_row ["thing"] [] := T.F_is_row.bindsN fun _ _ _ _ _ _ us hl => match us, hl with | [_], _ => rfl
theorem ok_is_row (T : Tx K mg) : FnOk P HasW.w K mg base CX0 3 (He.fAd K ("is_row", none)) T.fd_is_row ["thing"] (sp_is_row K) := by
  refine T.F_is_row.ok sc_is_row (fun vs H Q E h => len_is_row h) (fun cdv A outer s H vs Q E hr h => ⟨t_is_row K, PSs.nox ?_, pure_is_row h⟩)
  exact (pss_one (ps_ret (pe_and (pe_call (ok_is_text T) (hr.mono (by decide)) (by rfl) T.g_is_text T.F_is_text.kp (b_is_text T) .nil pass0 (pa_cons (pv 0) pa_nil)) (pe_one (pe_cmpR op_le (pe_callB call_len (by rfl) T.z_len PySem.boot_len (pa_cons (pv 0) pa_nil)) (pe_glob (v := .int 40) (by rfl) T.c_MOST_SIGNS.choose_spec ⟨_, rfl⟩) (nomark _))))))
theorem b_is_rows (T : Tx K mg) : Binds K T.fd_is_rows ["thing"] [] := T.F_is_rows.bindsN fun _ _ _ _ _ _ us hl => match us, hl with | [_], _ => rfl
theorem ok_is_rows (T : Tx K mg) : FnOk P HasW.w K mg base CX0 4 (He.fAd K ("is_rows", none)) T.fd_is_rows ["thing"] (sp_is_rows K) := by
  refine T.F_is_rows.ok sc_is_rows (fun vs H Q E h => len_is_rows h) (fun cdv A outer s H vs Q E hr h => ⟨t_is_rows K, PSs.nox ?_, pure_is_rows h⟩)
  exact (pss_one (ps_ret (pe_and (pe_callB call_isi (by rfl) T.z_isinstance (by decide +kernel) (pa_cons (pv 0) (pa_cons (pe_bltn (v := .ty "tuple") (by rfl) T.z_tuple (by decide +kernel) rfl) pa_nil))) (pe_and (pe_cmpR op_le (pe_callB call_len (by rfl) T.z_len PySem.boot_len (pa_cons (pv 0) pa_nil)) (pe_glob (v := .int 40) (by rfl) T.c_MOST_ROWS.choose_spec ⟨_, rfl⟩) (nomark _)) (pe_one (pe_callB (cr_all rfl) (by rfl) T.z_all (by decide +kernel) (pa_cons (pe_lc (own := [("row", 1)]) (g := (gName 1)) (tt := tYes) (te := (tCall (sp_is_row K) [] E0 (tCons (tVar 1) tNil))) rfl sc_is_rows.nd (pi_tup (pv 0)) (blkOk_by (own := [("row", 1)]) (N := N_is_rows) (sc := defScope s_is_rows) (by decide +kernel)) (fun _ _ _ _ _ => (pg_name (i := 1) sc_is_rows.nd rfl (Or.inl rfl))) (fun _ _ _ _ _ => pts_nil) (fun _ _ _ _ _ => (pe_call (ok_is_row T) (hr.mono (by decide)) (by rfl) T.g_is_row T.F_is_row.kp (b_is_row T) .nil pass0 (pa_cons (pv 1) pa_nil)))) pa_nil)))))))
theorem b_is_pair (T : Tx K mg) : Binds K T.fd_is_pair ["thing"] [] := T.F_is_pair.bindsN fun _ _ _ _ _ _ us hl => match us, hl with | [_], _ => rfl
theorem ok_is_pair (T : Tx K mg) : FnOk P HasW.w K mg base CX0 1 (He.fAd K ("is_pair", none)) T.fd_is_pair ["thing"] (sp_is_pairT K) := by
  refine T.F_is_pair.ok sc_is_pair (fun vs H Q E h => len_is_pairT h) (fun cdv A outer s H vs Q E hr h => ⟨t_is_pair K, PSs.nox ?_, pure_is_pairT h⟩)
  exact (pss_one (ps_ret (pe_and (pe_callB call_isi (by rfl) T.z_isinstance (by decide +kernel) (pa_cons (pv 0) (pa_cons (pe_bltn (v := .ty "tuple") (by rfl) T.z_tuple (by decide +kernel) rfl) pa_nil))) (pe_one (pe_cmpR op_eq (pe_callB call_len (by rfl) T.z_len PySem.boot_len (pa_cons (pv 0) pa_nil)) pe_int (nomark _))))))
theorem b_is_label (T : Tx K mg) : Binds K T.fd_is_label ["thing"] [] := T.F_is_label.bindsN fun _ _ _ _ _ _ us hl => match us, hl with | [_], _ => rfl
theorem ok_is_label (T : Tx K mg) : FnOk P HasW.w K mg base CX0 1 (He.fAd K ("is_label", none)) T.fd_is_label ["thing"] (sp_is_label K) := by
  refine T.F_is_label.ok sc_is_label (fun vs H Q E h => len_is_label h) (fun cdv A outer s H vs Q E hr h => ⟨t_is_label K, PSs.nox ?_, pure_is_label h⟩)
  exact (pss_cons (ps_if (PW.pt (pw_or (pt_not (pt_val (pe_callB call_isi (by rfl) T.z_isinstance (by decide +kernel) (pa_cons (pv 0) (pa_cons (pe_bltn (v := .ty "str") (by rfl) T.z_str (by decide +kernel) rfl) pa_nil))))) (pw_or1 (pt_not (pt_chain op_le op_le pe_int (pe_callB call_len (by rfl) T.z_len PySem.boot_len (pa_cons (pv 0) pa_nil)) (pe_glob (v := .int 8) (by rfl) T.c_LONGEST_LABEL.choose_spec ⟨_, rfl⟩)))))) (pss_one (ps_ret pe_bl)) pss_nil)
      (pss_one (ps_ret (pe_callB (cr_all rfl) (by rfl) T.z_all (by decide +kernel) (pa_cons (pe_lc (own := [("sign", 1)]) (g := (gName 1)) (tt := tYes) (te := (tChain rLeS rLeS (tC (.str "a")) (tVar 1) (tC (.str "z")))) rfl sc_is_label.nd (pi_str (pv 0)) (blkOk_by (own := [("sign", 1)]) (N := N_is_label) (sc := defScope s_is_label) (by decide +kernel)) (fun _ _ _ _ _ => (pg_name (i := 1) sc_is_label.nd rfl (Or.inl rfl))) (fun _ _ _ _ _ => pts_nil) (fun _ _ _ _ _ => (pe_chain op_le_str op_le_str pe_str (pv 1) pe_str))) pa_nil)))))
theorem b_is_int (T : Tx K mg) : Binds K T.fd_is_int ["thing"] [] := T.F_is_int.bindsN fun _ _ _ _ _ _ us hl => match us, hl with | [_], _ => rfl
theorem ok_is_int (T : Tx K mg) : FnOk P HasW.w K mg base CX0 1 (He.fAd K ("is_int", none)) T.fd_is_int ["thing"] (sp_is_intI K) := by
  refine T.F_is_int.ok sc_is_int (fun vs H Q E h => len_is_intI h) (fun cdv A outer s H vs Q E hr h => ⟨t_is_int K, PSs.nox ?_, pure_is_intI h⟩)
  exact (pss_one (ps_ret (pe_and (pe_callB call_isi (by rfl) T.z_isinstance (by decide +kernel) (pa_cons (pv 0) (pa_cons (pe_bltn (v := .ty "int") (by rfl) T.z_int (by decide +kernel) rfl) pa_nil))) (pe_one (pe_not (pe_callB call_isi (by rfl) T.z_isinstance (by decide +kernel) (pa_cons (pv 0) (pa_cons (pe_bltn (v := .ty "bool") (by rfl) T.z_bool (by decide +kernel) rfl) pa_nil))))))))
theorem ok_is_intO (T : Tx K mg) : FnOk P HasW.w K mg base CX0 1 (He.fAd K ("is_int", none)) T.fd_is_int ["thing"] (sp_is_intO K) := by
  refine T.F_is_int.ok sc_is_int (fun vs H Q E h => len_is_intO h) (fun cdv A outer s H vs Q E hr h => ⟨t_is_intO K, PSs.nox ?_, pure_is_intO h⟩)
  exact (pss_one (ps_ret (pe_and (pe_callB call_isi (by rfl) T.z_isinstance (by decide +kernel) (pa_cons (pv 0) (pa_cons (pe_bltn (v := .ty "int") (by rfl) T.z_int (by decide +kernel) rfl) pa_nil))) (pe_one (pe_not (pe_callB call_isi (by rfl) T.z_isinstance (by decide +kernel) (pa_cons (pv 0) (pa_cons (pe_bltn (v := .ty "bool") (by rfl) T.z_bool (by decide +kernel) rfl) pa_nil))))))))
theorem b_is_entry (T : Tx K mg) : Binds K T.fd_is_entry ["thing"] [] := T.F_is_entry.bindsN fun _ _ _ _ _ _ us hl => match us, hl with | [_], _ => rfl
theorem ok_is_entry (T : Tx K mg) : FnOk P HasW.w K mg base CX0 2 (He.fAd K ("is_entry", none)) T.fd_is_entry ["thing"] (sp_is_entry K) := by
  refine T.F_is_entry.ok sc_is_entry (fun vs H Q E h => len_is_entry h) (fun cdv A outer s H vs Q E hr h => ⟨t_is_entry K, PSs.nox ?_, pure_is_entry h⟩)
  exact (pss_one (ps_ret (pe_and (pe_call (ok_is_pair T) (hr.mono (by decide)) (by rfl) T.g_is_pair T.F_is_pair.kp (b_is_pair T) .nil pass0 (pa_cons (pv 0) pa_nil)) (pe_and (pe_call (ok_is_label T) (hr.mono (by decide)) (by rfl) T.g_is_label T.F_is_label.kp (b_is_label T) .nil pass0 (pa_cons (pe_ix ix_seq (pv 0) pe_int (fun _ _ => rfl)) pa_nil)) (pe_one (pe_call (ok_is_int T) (hr.mono (by decide)) (by rfl) T.g_is_int T.F_is_int.kp (b_is_int T) .nil pass0 (pa_cons (pe_ix ix_seq (pv 0) pe_int (fun _ _ => rfl)) pa_nil)))))))
theorem b_rises (T : Tx K mg) : Binds K T.fd_rises ["things"] [] := T.F_rises.bindsN fun _ _ _ _ _ _ us hl => match us, hl with | [_], _ => rfl
theorem ok_rises (T : Tx K mg) : FnOk P HasW.w K mg base CX0 1 (He.fAd K ("rises", none)) T.fd_rises ["things"] (sp_rises K) := by
  refine T.F_rises.ok sc_rises (fun vs H Q E h => len_rises h) (fun cdv A outer s H vs Q E hr h => ⟨t_rises K, PSs.nox ?_, pure_rises h⟩)
  exact (pss_one (ps_ret (pe_callB (cr_all rfl) (by rfl) T.z_all (by decide +kernel) (pa_cons (pe_lc (own := [("low", 1), ("high", 2)]) (g := (gTup K 2 (gCons (gName 1) (gCons (gName 2) gNil)))) (tt := tYes) (te := (tOp fLtIS (tVar 1) (tVar 2))) rfl sc_rises.nd (pi_zipA (by rfl) T.z_zip (pa_cons (pv 0) (pa_cons (pe_slice (SlR.or sl_tupA sl_list) (pv 0) (po_some pe_int) po_none) pa_nil))) (blkOk_by (own := [("low", 1), ("high", 2)]) (N := N_rises) (sc := defScope s_rises) (by decide +kernel)) (fun _ _ _ _ _ => (pg_tup rfl (pgs_cons (pg_name (i := 1) sc_rises.nd rfl (Or.inl rfl)) (pgs_cons (pg_name (i := 2) sc_rises.nd rfl (Or.inl rfl)) pgs_nil)))) (fun _ _ _ _ _ => pts_nil) (fun _ _ _ _ _ => (pe_cmpR (OpR.or op_lt op_lt_str) (pv 1) (pv 2) (nomark _)))) pa_nil))))
theorem b_is_entries (T : Tx K mg) : Binds K T.fd_is_entries ["thing"] [] := T.F_is_entries.bindsN fun _ _ _ _ _ _ us hl => match us, hl with | [_], _ => rfl
theorem ok_is_entries (T : Tx K mg) : FnOk P HasW.w K mg base CX0 3 (He.fAd K ("is_entries", none)) T.fd_is_entries ["thing"] (sp_is_entries K) := by
  refine T.F_is_entries.ok sc_is_entries (fun vs H Q E h => len_is_entries h) (fun cdv A outer s H vs Q E hr h => ⟨t_is_entries K, PSs.nox ?_, pure_is_entries h⟩)
  exact (pss_cons (ps_if (PW.pt (pw_or (pt_not (pt_val (pe_callB call_isi (by rfl) T.z_isinstance (by decide +kernel) (pa_cons (pv 0) (pa_cons (pe_bltn (v := .ty "tuple") (by rfl) T.z_tuple (by decide +kernel) rfl) pa_nil))))) (pw_or1 (pt_cmpR op_gt (pe_callB call_len (by rfl) T.z_len PySem.boot_len (pa_cons (pv 0) pa_nil)) (pe_glob (v := .int 20) (by rfl) T.c_MOST_ENTRIES.choose_spec ⟨_, rfl⟩) (nomark _))))) (pss_one (ps_ret pe_bl)) pss_nil)
      (pss_one (ps_ret (pe_and (pe_callB (cr_all rfl) (by rfl) T.z_all (by decide +kernel) (pa_cons (pe_lc (own := [("entry", 1)]) (g := (gName 1)) (tt := tYes) (te := (tCall (sp_is_entry K) [] E0 (tCons (tVar 1) tNil))) rfl sc_is_entries.nd (pi_tup (pv 0)) (blkOk_by (own := [("entry", 1)]) (N := N_is_entries) (sc := defScope s_is_entries) (by decide +kernel)) (fun _ _ _ _ _ => (pg_name (i := 1) sc_is_entries.nd rfl (Or.inl rfl))) (fun _ _ _ _ _ => pts_nil) (fun _ _ _ _ _ => (pe_call (ok_is_entry T) (hr.mono (by decide)) (by rfl) T.g_is_entry T.F_is_entry.kp (b_is_entry T) .nil pass0 (pa_cons (pv 1) pa_nil)))) pa_nil)) (pe_one (pe_call (ok_rises T) (hr.mono (by decide)) (by rfl) T.g_rises T.F_rises.kp (b_rises T) .nil pass0 (pa_cons (pe_lc (own := [("entry", 1)]) (g := (gName 1)) (tt := tYes) (te := (tOp (rIx K) (tVar 1) (tC (.int 0)))) rfl sc_is_entries.nd (pi_tup (pv 0)) (blkOk_by (own := [("entry", 1)]) (N := N_is_entries) (sc := defScope s_is_entries) (by decide +kernel)) (fun _ _ _ _ _ => (pg_name (i := 1) sc_is_entries.nd rfl (Or.inl rfl))) (fun _ _ _ _ _ => pts_nil) (fun _ _ _ _ _ => (pe_ix ix_seq (pv 1) pe_int (fun _ _ => rfl)))) pa_nil)))))))
theorem b_is_ints (T : Tx K mg) : Binds K T.fd_is_ints ["thing"] [] := T.F_is_ints.bindsN fun _ _ _ _ _ _ us hl => match us, hl with | [_], _ => rfl
theorem ok_is_ints (T : Tx K mg) : FnOk P HasW.w K mg base CX0 2 (He.fAd K ("is_ints", none)) T.fd_is_ints ["thing"] (sp_is_ints K) := by
  refine T.F_is_ints.ok sc_is_ints (fun vs H Q E h => len_is_ints h) (fun cdv A outer s H vs Q E hr h => ⟨t_is_ints K, PSs.nox ?_, pure_is_ints h⟩)
  exact (pss_one (ps_ret (pe_and (pe_callB call_isi (by rfl) T.z_isinstance (by decide +kernel) (pa_cons (pv 0) (pa_cons (pe_bltn (v := .ty "tuple") (by rfl) T.z_tuple (by decide +kernel) rfl) pa_nil))) (pe_one (pe_callB (cr_all rfl) (by rfl) T.z_all (by decide +kernel) (pa_cons (pe_lc (own := [("part", 1)]) (g := (gName 1)) (tt := tYes) (te := (tCall (sp_is_intI K) [] E0 (tCons (tVar 1) tNil))) rfl sc_is_ints.nd (pi_tup (pv 0)) (blkOk_by (own := [("part", 1)]) (N := N_is_ints) (sc := defScope s_is_ints) (by decide +kernel)) (fun _ _ _ _ _ => (pg_name (i := 1) sc_is_ints.nd rfl (Or.inl rfl))) (fun _ _ _ _ _ => pts_nil) (fun _ _ _ _ _ => (pe_call (ok_is_int T) (hr.mono (by decide)) (by rfl) T.g_is_int T.F_is_int.kp (b_is_int T) .nil pass0 (pa_cons (pv 1) pa_nil)))) pa_nil))))))
theorem b_is_rising (T : Tx K mg) : Binds K T.fd_is_rising ["thing"] [] := T.F_is_rising.bindsN fun _ _ _ _ _ _ us hl => match us, hl with | [_], _ => rfl
theorem ok_is_rising (T : Tx K mg) : FnOk P HasW.w K mg base CX0 3 (He.fAd K ("is_rising", none)) T.fd_is_rising ["thing"] (sp_is_rising K) := by
  refine T.F_is_rising.ok sc_is_rising (fun vs H Q E h => len_is_rising h) (fun cdv A outer s H vs Q E hr h => ⟨t_is_rising K, PSs.nox ?_, pure_is_rising h⟩)
  exact (pss_one (ps_ret (pe_and (pe_call (ok_is_ints T) (hr.mono (by decide)) (by rfl) T.g_is_ints T.F_is_ints.kp (b_is_ints T) .nil pass0 (pa_cons (pv 0) pa_nil)) (pe_one (pe_call (ok_rises T) (hr.mono (by decide)) (by rfl) T.g_rises T.F_rises.kp (b_rises T) .nil pass0 (pa_cons (pv 0) pa_nil))))))
theorem b_is_stamp (T : Tx K mg) : Binds K T.fd_is_stamp ["thing"] [] := T.F_is_stamp.bindsN fun _ _ _ _ _ _ us hl => match us, hl with | [_], _ => rfl
theorem ok_is_stamp (T : Tx K mg) : FnOk P HasW.w K mg base CX0 2 (He.fAd K ("is_stamp", none)) T.fd_is_stamp ["thing"] (sp_is_stamp K) := by
  refine T.F_is_stamp.ok sc_is_stamp (fun vs H Q E h => len_is_stamp h) (fun cdv A outer s H vs Q E hr h => ⟨t_is_stamp K, PSs.nox ?_, pure_is_stamp h⟩)
  exact (pss_one (ps_ret (pe_and (pe_call (ok_is_int T) (hr.mono (by decide)) (by rfl) T.g_is_int T.F_is_int.kp (b_is_int T) .nil pass0 (pa_cons (pv 0) pa_nil)) (pe_one (pe_chain op_le op_le pe_int (pv 0) (pe_glob (v := .int 1000000000000000000) (by rfl) T.c_LAST_STAMP.choose_spec ⟨_, rfl⟩))))))
theorem b_is_version_form (T : Tx K mg) : Binds K T.fd_is_version_form ["thing"] [] := T.F_is_version_form.bindsN fun _ _ _ _ _ _ us hl => match us, hl with | [_], _ => rfl
theorem ok_is_version_form (T : Tx K mg) : FnOk P HasW.w K mg base CX0 4 (He.fAd K ("is_version_form", none)) T.fd_is_version_form ["thing"] (sp_is_version_form K) := by
  refine T.F_is_version_form.ok sc_is_version_form (fun vs H Q E h => len_is_version_form h) (fun cdv A outer s H vs Q E hr h => ⟨t_is_version_form K, PSs.nox ?_, pure_is_version_form h⟩)
  exact (pss_cons (ps_if (PW.pt (pw_or (pt_cmpR op_ne (pe_callB call_len (by rfl) T.z_len PySem.boot_len (pa_cons (pv 0) pa_nil)) pe_int (nomark _)) (pw_or1 (pt_not (pt_val (pe_call (ok_is_rising T) (hr.mono (by decide)) (by rfl) T.g_is_rising T.F_is_rising.kp (b_is_rising T) .nil pass0 (pa_cons (pe_ix ix_seq (pv 0) pe_int (fun _ _ => rfl)) pa_nil))))))) (pss_one (ps_ret pe_bl)) pss_nil)
      (pss_one (ps_ret (pe_and (pe_cmpR op_le (pe_callB call_len (by rfl) T.z_len PySem.boot_len (pa_cons (pe_ix ix_seq (pv 0) pe_int (fun _ _ => rfl)) pa_nil)) (pe_glob (v := .int 4) (by rfl) T.c_MOST_PARENTS.choose_spec ⟨_, rfl⟩) (nomark _)) (pe_and (pe_call (ok_is_int T) (hr.mono (by decide)) (by rfl) T.g_is_int T.F_is_int.kp (b_is_int T) .nil pass0 (pa_cons (pe_ix ix_seq (pv 0) pe_int (fun _ _ => rfl)) pa_nil)) (pe_one (pe_call (ok_is_stamp T) (hr.mono (by decide)) (by rfl) T.g_is_stamp T.F_is_stamp.kp (b_is_stamp T) .nil pass0 (pa_cons (pe_ix ix_seq (pv 0) pe_int (fun _ _ => rfl)) pa_nil))))))))
theorem b_is_content_form (T : Tx K mg) : Binds K T.fd_is_content_form ["thing"] [] := T.F_is_content_form.bindsN fun _ _ _ _ _ _ us hl => match us, hl with | [_], _ => rfl
theorem ok_is_content_form (T : Tx K mg) : FnOk P HasW.w K mg base CX0 5 (He.fAd K ("is_content_form", none)) T.fd_is_content_form ["thing"] (sp_is_content_form K) := by
  refine T.F_is_content_form.ok sc_is_content_form (fun vs H Q E h => len_is_content_form h) (fun cdv A outer s H vs Q E hr h => ⟨t_is_content_form K, PSs.nox ?_, pure_is_content_form h⟩)
  exact (pss_cons (ps_if (PW.pt (pw_or (pt_not (pt_val (pe_callB call_isi (by rfl) T.z_isinstance (by decide +kernel) (pa_cons (pv 0) (pa_cons (pe_bltn (v := .ty "tuple") (by rfl) T.z_tuple (by decide +kernel) rfl) pa_nil))))) (pw_or1 (pt_cmpR op_eq (pe_callB call_len (by rfl) T.z_len PySem.boot_len (pa_cons (pv 0) pa_nil)) pe_int (nomark _))))) (pss_one (ps_ret pe_bl)) pss_nil)
      (pss_cons (ps_if (pt_cmpR op_eq (pe_ix ix_seq (pv 0) pe_int (fun _ _ => rfl)) pe_str (nomark _)) (pss_one (ps_ret (pe_and (pe_cmpR op_eq (pe_callB call_len (by rfl) T.z_len PySem.boot_len (pa_cons (pv 0) pa_nil)) pe_int (nomark _)) (pe_one (pe_call (ok_is_rows T) (hr.mono (by decide)) (by rfl) T.g_is_rows T.F_is_rows.kp (b_is_rows T) .nil pass0 (pa_cons (pe_ix ix_seq (pv 0) pe_int (fun _ _ => rfl)) pa_nil)))))) pss_nil)
      (pss_cons (ps_if (pt_cmpR op_eq (pe_ix ix_seq (pv 0) pe_int (fun _ _ => rfl)) pe_str (nomark _)) (pss_one (ps_ret (pe_and (pe_cmpR op_eq (pe_callB call_len (by rfl) T.z_len PySem.boot_len (pa_cons (pv 0) pa_nil)) pe_int (nomark _)) (pe_one (pe_call (ok_is_entries T) (hr.mono (by decide)) (by rfl) T.g_is_entries T.F_is_entries.kp (b_is_entries T) .nil pass0 (pa_cons (pe_ix ix_seq (pv 0) pe_int (fun _ _ => rfl)) pa_nil)))))) pss_nil)
      (pss_one (ps_ret (pe_and (pe_cmpR op_eq (pe_ix ix_seq (pv 0) pe_int (fun _ _ => rfl)) pe_str (nomark _)) (pe_one (pe_call (ok_is_version_form T) (hr.mono (by decide)) (by rfl) T.g_is_version_form T.F_is_version_form.kp (b_is_version_form T) .nil pass0 (pa_cons (pv 0) pa_nil)))))))))
theorem b_Book_is_name (T : Tx K mg) : Binds K T.fd_Book_is_name ["self", "thing"] [] := T.F_Book_is_name.bindsN fun _ _ _ _ _ _ us hl => match us, hl with | [_, _], _ => rfl
theorem ok_Book_is_name (T : Tx K mg) : FnOk P HasW.w K mg base CX0 2 (He.fAd K ("Book", some "is_name")) T.fd_Book_is_name ["self", "thing"] (sp_Book_is_name K) := by
  refine T.F_Book_is_name.ok sc_Book_is_name (fun vs H Q E h => len_Book_is_name h) (fun cdv A outer s H vs Q E hr h => ⟨t_Book_is_name K, PSs.nox ?_, pure_Book_is_name h⟩)
  exact (pss_one (ps_ret (pe_and (pe_call (ok_is_int T) (hr.mono (by decide)) (by rfl) T.g_is_int T.F_is_int.kp (b_is_int T) .nil pass0 (pa_cons (pv 1) pa_nil)) (pe_one (pe_chain op_le op_lt pe_int (pv 1) (pe_callB call_len (by rfl) T.z_len PySem.boot_len (pa_cons (pe_fld (pv 0) rfl) pa_nil)))))))
theorem b_Book_has_kinds (T : Tx K mg) : Binds K T.fd_Book_has_kinds ["self", "names", "kinds"] [] := T.F_Book_has_kinds.bindsN fun _ _ _ _ _ _ us hl => match us, hl with | [_, _, _], _ => rfl
theorem ok_Book_has_kinds (T : Tx K mg) : FnOk P HasW.w K mg base CX0 3 (He.fAd K ("Book", some "has_kinds")) T.fd_Book_has_kinds ["self", "names", "kinds"] (sp_Book_has_kinds K) := by
  refine T.F_Book_has_kinds.ok sc_Book_has_kinds (fun vs H Q E h => len_Book_has_kinds h) (fun cdv A outer s H vs Q E hr h => ⟨t_Book_has_kinds K, PSs.nox ?_, pure_Book_has_kinds h⟩)
  exact (pss_one (ps_ret (pe_callB (cr_all rfl) (by rfl) T.z_all (by decide +kernel) (pa_cons (pe_lc (own := [("name", 3)]) (g := (gName 3)) (tt := tYes) (te := (tAndV (tMeth (He.ga K "Book") "is_name" (sp_Book_is_name K) [] E0 (tVar 0) (tCons (tVar 3) tNil)) (tOp (rIn K false) (tOp (rIx K) (tOp (rIx K) (tFld K (tVar 0) "contents") (tVar 3)) (tC (.int 0))) (tVar 2)))) rfl sc_Book_has_kinds.nd (pi_or (pi_list (pv 1)) (pi_tup (pv 1))) (blkOk_by (own := [("name", 3)]) (N := N_Book_has_kinds) (sc := defScope s_Book_has_kinds) (by decide +kernel)) (fun _ _ _ _ _ => (pg_name (i := 3) sc_Book_has_kinds.nd rfl (Or.inl rfl))) (fun _ _ _ _ _ => pts_nil) (fun _ _ _ _ _ => (pe_and (pe_meth (pv 0) T.cl_Book T.me_Book_is_name (ok_Book_is_name T) (hr.mono (by decide)) (b_Book_is_name T) .nil pass0 (pa_cons (pv 3) pa_nil)) (pe_one (pe_cmpR op_in_seq (pe_ix ix_seq (pe_ix ix_seq (pe_fld (pv 0) rfl) (pv 3) (fun _ _ => rfl)) pe_int (fun _ _ => rfl)) (pv 2) (by rfl)))))) pa_nil))))
theorem b_Book_depth (T : Tx K mg) : Binds K T.fd_Book_depth ["self", "content"] [] := T.F_Book_depth.bindsN fun _ _ _ _ _ _ us hl => match us, hl with | [_, _], _ => rfl
theorem ok_Book_depth (T : Tx K mg) : FnOk P HasW.w K mg base CX0 1 (He.fAd K ("Book", some "depth")) T.fd_Book_depth ["self", "content"] (sp_Book_depth K) := by
  refine T.F_Book_depth.ok sc_Book_depth (fun vs H Q E h => len_Book_depth h) (fun cdv A outer s H vs Q E hr h => ⟨t_Book_depth K, PSs.nox ?_, pure_Book_depth h⟩)
  exact (pss_cons (ps_if (pt_cmpR op_ne (pe_ix ix_seq (pv 1) pe_int (fun _ _ => rfl)) pe_str (nomark _)) (pss_one (ps_ret pe_int)) pss_nil)
      (pss_one (ps_ret (pe_op op_add pe_int (pe_callBK (cr_maxD0 rfl hr.units) (by rfl) T.z_max (by decide +kernel) (pa_cons (pe_lc (own := [("label", 2), ("part", 3)]) (g := (gTup K 2 (gCons (gName 2) (gCons (gName 3) gNil)))) (tt := tYes) (te := (tOp (rIx K) (tFld K (tVar 0) "depths") (tVar 3))) rfl sc_Book_depth.nd (pi_tup (pe_ix ix_seq (pv 1) pe_int (fun _ _ => rfl))) (blkOk_by (own := [("label", 2), ("part", 3)]) (N := N_Book_depth) (sc := defScope s_Book_depth) (by decide +kernel)) (fun _ _ _ _ _ => (pg_tup rfl (pgs_cons (pg_name (i := 2) sc_Book_depth.nd rfl (Or.inl rfl)) (pgs_cons (pg_name (i := 3) sc_Book_depth.nd rfl (Or.inl rfl)) pgs_nil)))) (fun _ _ _ _ _ => pts_nil) (fun _ _ _ _ _ => (pe_ix ix_seq (pe_fld (pv 0) rfl) (pv 3) (fun _ _ => rfl)))) pa_nil) (pk_cons pe_int pk_nil))))))
theorem b_Book_is_content (T : Tx K mg) : Binds K T.fd_Book_is_content ["self", "thing"] [] := T.F_Book_is_content.bindsN fun _ _ _ _ _ _ us hl => match us, hl with | [_, _], _ => rfl
theorem ok_Book_is_content (T : Tx K mg) : FnOk P HasW.w K mg base CX0 6 (He.fAd K ("Book", some "is_content")) T.fd_Book_is_content ["self", "thing"] (sp_Book_is_content K) := by
  refine T.F_Book_is_content.ok sc_Book_is_content (fun vs H Q E h => len_Book_is_content h) (fun cdv A outer s H vs Q E hr h => ⟨t_Book_is_content K, PSs.nox ?_, pure_Book_is_content h⟩)
  exact (pss_cons (ps_if (pt_not (pt_val (pe_call (ok_is_content_form T) (hr.mono (by decide)) (by rfl) T.g_is_content_form T.F_is_content_form.kp (b_is_content_form T) .nil pass0 (pa_cons (pv 1) pa_nil)))) (pss_one (ps_ret pe_bl)) pss_nil)
      (pss_cons (ps_if (pt_cmpR op_eq (pe_ix ix_seq (pv 1) pe_int (fun _ _ => rfl)) pe_str (nomark _)) (pss_one (ps_ret (pe_and (pe_meth (pv 0) T.cl_Book T.me_Book_has_kinds (ok_Book_has_kinds T) (hr.mono (by decide)) (b_Book_has_kinds T) .nil pass0 (pa_cons (pe_lc (own := [("label", 2), ("part", 3)]) (g := (gTup K 2 (gCons (gName 2) (gCons (gName 3) gNil)))) (tt := tYes) (te := (tVar 3)) rfl sc_Book_is_content.nd (pi_tup (pe_ix ix_seq (pv 1) pe_int (fun _ _ => rfl))) (blkOk_by (own := [("label", 2), ("part", 3)]) (N := N_Book_is_content) (sc := defScope s_Book_is_content) (by decide +kernel)) (fun _ _ _ _ _ => (pg_tup rfl (pgs_cons (pg_name (i := 2) sc_Book_is_content.nd rfl (Or.inl rfl)) (pgs_cons (pg_name (i := 3) sc_Book_is_content.nd rfl (Or.inl rfl)) pgs_nil)))) (fun _ _ _ _ _ => pts_nil) (fun _ _ _ _ _ => (pv 3))) (pa_cons (pe_tup (pa_cons pe_str (pa_cons pe_str pa_nil))) pa_nil))) (pe_one (pe_cmpR op_le (pe_meth (pv 0) T.cl_Book T.me_Book_depth (ok_Book_depth T) (hr.mono (by decide)) (b_Book_depth T) .nil pass0 (pa_cons (pv 1) pa_nil)) (pe_glob (v := .int 8) (by rfl) T.c_DEEPEST.choose_spec ⟨_, rfl⟩) (nomark _)))))) pss_nil)
      (pss_cons (ps_if (pt_cmpR op_eq (pe_ix ix_seq (pv 1) pe_int (fun _ _ => rfl)) pe_str (nomark _)) (pss_one (ps_ret (pe_and (pe_meth (pv 0) T.cl_Book T.me_Book_has_kinds (ok_Book_has_kinds T) (hr.mono (by decide)) (b_Book_has_kinds T) .nil pass0 (pa_cons (pe_ix ix_seq (pv 1) pe_int (fun _ _ => rfl)) (pa_cons (pe_tup (pa_cons pe_str pa_nil)) pa_nil))) (pe_one (pe_meth (pv 0) T.cl_Book T.me_Book_has_kinds (ok_Book_has_kinds T) (hr.mono (by decide)) (b_Book_has_kinds T) .nil pass0 (pa_cons (pe_lst (pa_cons (pe_ix ix_seq (pv 1) pe_int (fun _ _ => rfl)) pa_nil)) (pa_cons (pe_tup (pa_cons pe_str pa_nil)) pa_nil))))))) pss_nil)
      (pss_one (ps_ret pe_bl)))))
theorem b_Book_give_next (T : Tx K mg) : Binds K T.fd_Book_give_next ["self", "content"] [] := T.F_Book_give_next.bindsN fun _ _ _ _ _ _ us hl => match us, hl with | [_, _], _ => rfl
theorem ok_Book_give_next (T : Tx K mg) : FnOk P HasW.w K mg base CX0 2 (He.fAd K ("Book", some "give_next")) T.fd_Book_give_next ["self", "content"] (sp_Book_give_next K) := by
  refine T.F_Book_give_next.ok sc_Book_give_next (fun vs H Q E h => len_Book_give_next h) (fun cdv A outer s H vs Q E hr h => ⟨t_Book_give_next K, PSs.nox ?_, pure_Book_give_next h⟩)
  exact (pss_cons (ps_if (pt_cmpR op_ge (pe_callB call_len (by rfl) T.z_len PySem.boot_len (pa_cons (pe_fld (pv 0) rfl) pa_nil)) (pe_glob (v := .int 400) (by rfl) T.c_MOST.choose_spec ⟨_, rfl⟩) (nomark _)) (pss_one ps_never) pss_nil)
      (pss_cons (ps_nput rfl hr.units (pe_fld (pv 0) rfl) (pv 1) (pe_callB call_len (by rfl) T.z_len PySem.boot_len (pa_cons (pe_fld (pv 0) rfl) pa_nil)) rfl)
      (pss_cons (ps_expr (pe_bm PySem.F.plainAttrs_list PySem.F.slot_list_append PySem.F.type_list_append mt_append (pe_fld (pv 0) rfl) (pa_cons (pe_meth (pv 0) T.cl_Book T.me_Book_depth (ok_Book_depth T) (hr.mono (by decide)) (b_Book_depth T) .nil pass0 (pa_cons (pv 1) pa_nil)) pa_nil)))
      (pss_one (ps_expr (pe_bm PySem.F.plainAttrs_list PySem.F.slot_list_append PySem.F.type_list_append mt_append (pe_fld (pv 0) rfl) (pa_cons (pv 1) pa_nil)))))))
theorem b_Book_named (T : Tx K mg) : Binds K T.fd_Book_named ["self", "content"] [] := T.F_Book_named.bindsN fun _ _ _ _ _ _ us hl => match us, hl with | [_, _], _ => rfl
theorem ok_Book_named (T : Tx K mg) : FnOk P HasW.w K mg base CX0 7 (He.fAd K ("Book", some "named")) T.fd_Book_named ["self", "content"] (sp_Book_named K) := by
  refine T.F_Book_named.ok sc_Book_named (fun vs H Q E h => len_Book_named h) (fun cdv A outer s H vs Q E hr h => ⟨t_Book_named K, PSs.nox ?_, pure_Book_named h⟩)
  exact (pss_cons (ps_if (pt_not (pt_val (pe_meth (pv 0) T.cl_Book T.me_Book_is_content (ok_Book_is_content T) (hr.mono (by decide)) (b_Book_is_content T) .nil pass0 (pa_cons (pv 1) pa_nil)))) (pss_one ps_never) pss_nil)
      (pss_cons (ps_if (pt_cmp (pc_nnotin rfl hr.units (pv 1) (pe_fld (pv 0) rfl))) (pss_one (ps_expr (pe_meth (pv 0) T.cl_Book T.me_Book_give_next (ok_Book_give_next T) (hr.mono (by decide)) (b_Book_give_next T) .nil pass0 (pa_cons (pv 1) pa_nil)))) pss_nil)
      (pss_one (ps_ret (pe_nget rfl hr.units (pe_fld (pv 0) rfl) (pv 1) (fun _ _ => rfl))))))
theorem b_l_book (T : Tx K mg) : Binds K T.fd_l_book ["_law_things"] [] := T.F_l_book.bindsN fun _ _ _ _ _ _ us hl => match us, hl with | [_], _ => rfl
theorem ok_l_book (T : Tx K mg) : FnOk P HasW.w K mg base CX0 8 (He.fAd K ("_law_book", none)) T.fd_l_book ["_law_things"] (sp_l_book K) := by
  refine T.F_l_book.ok sc_l_book (fun vs H Q E h => len_l_book h) (fun cdv A outer s H vs Q E hr h => ⟨t_l_book K, PSs.nox ?_, pure_l_book h⟩)
  exact (pss_cons (ps_set (i := 1) sc_l_book.nd rfl (Or.inl rfl) (pe_make0 T.mk_Book (ok_Book_init T) (hr.mono (by decide)) (by rfl) T.gc_Book (b_Book_init T) .nil pass0))
      (pss_cons (ps_for PassesOwn.never rfl (pi_list (pv 0)) (pg_name (i := 2) sc_l_book.nd rfl (Or.inl rfl)) (pss_one (ps_expr (pe_meth (pv 1) T.cl_Book T.me_Book_named (ok_Book_named T) (hr.mono (by decide)) (b_Book_named T) .nil pass0 (pa_cons (pv 2) pa_nil)))))
      (pss_one (ps_ret (pv 1)))))
theorem b_Holding_inits (T : Tx K mg) : Binds K T.fd_Holding_inits ["self", "book", "names"] [] := T.F_Holding_inits.bindsN fun _ _ _ _ _ _ us hl => match us, hl with | [_, _, _], _ => rfl
theorem ok_Holding_inits (T : Tx K mg) : FnOk P HasW.w K mg base CX0 3 (He.fAd K ("Holding", some "__init__")) T.fd_Holding_inits ["self", "book", "names"] (sp_Holding_inits K) := by
  refine T.F_Holding_inits.ok sc_Holding_inits (fun vs H Q E h => len_Holding_inits h) (fun cdv A outer s H vs Q E hr h => ⟨t_Holding_inits K, PSs.nox ?_, pure_Holding_inits h⟩)
  exact (pss_cons (ps_for PassesOwn.never rfl (pi_or (pi_list (pv 2)) (pi_tup (pv 2))) (pg_name (i := 3) sc_Holding_inits.nd rfl (Or.inl rfl)) (pss_one (ps_if (pt_not (pt_val (pe_meth (pv 1) T.cl_Book T.me_Book_is_name (ok_Book_is_name T) (hr.mono (by decide)) (b_Book_is_name T) .nil pass0 (pa_cons (pv 3) pa_nil)))) (pss_one ps_never) pss_nil)))
      (pss_cons (ps_fld (pv 0) (pv 1) rfl)
      (pss_cons (ps_fld (pv 0) (pe_dc (own := [("name", 3)]) (g := (gName 3)) (tt := tYes) (tk := (tVar 3)) (tv := (tC (.bl true))) rfl sc_Holding_inits.nd (pi_or (pi_list (pv 2)) (pi_tup (pv 2))) (blkOk_by (own := [("name", 3)]) (N := N_Holding_inits) (sc := defScope s_Holding_inits) (by decide +kernel)) (fun _ _ _ _ _ => (pg_name (i := 3) sc_Holding_inits.nd rfl (Or.inl rfl))) (fun _ _ _ _ _ => pts_nil) (fun _ _ _ _ _ => (pv 3)) (fun _ _ _ _ _ => pe_bl)) rfl)
      (pss_one (ps_fld (pv 0) (pe_callB (cr_sortedK rfl) (by rfl) T.z_sorted (by decide +kernel) (pa_cons (pe_fld (pv 0) rfl) pa_nil)) rfl)))))
theorem b_Holding_holds (T : Tx K mg) : Binds K T.fd_Holding_holds ["self", "name"] [] := T.F_Holding_holds.bindsN fun _ _ _ _ _ _ us hl => match us, hl with | [_, _], _ => rfl
theorem ok_Holding_holds (T : Tx K mg) : FnOk P HasW.w K mg base CX0 2 (He.fAd K ("Holding", some "holds")) T.fd_Holding_holds ["self", "name"] (sp_Holding_holds K) := by
  refine T.F_Holding_holds.ok sc_Holding_holds (fun vs H Q E h => len_Holding_holds h) (fun cdv A outer s H vs Q E hr h => ⟨t_Holding_holds K, PSs.nox ?_, pure_Holding_holds h⟩)
  exact (pss_one (ps_ret (pe_and (pe_call (ok_is_intO T) (hr.mono (by decide)) (by rfl) T.g_is_int T.F_is_int.kp (b_is_int T) .nil pass0 (pa_cons (pv 1) pa_nil)) (pe_one (pe_cmp (pc_din (hu_of hr) (pv 1) (pe_fld (pv 0) rfl)) rfl)))))
theorem b_Book_thing (T : Tx K mg) : Binds K T.fd_Book_thing ["self", "name"] [] := T.F_Book_thing.bindsN fun _ _ _ _ _ _ us hl => match us, hl with | [_, _], _ => rfl
theorem ok_Book_thing (T : Tx K mg) : FnOk P HasW.w K mg base CX0 3 (He.fAd K ("Book", some "thing")) T.fd_Book_thing ["self", "name"] (sp_Book_thing K) := by
  refine T.F_Book_thing.ok sc_Book_thing (fun vs H Q E h => len_Book_thing h) (fun cdv A outer s H vs Q E hr h => ⟨t_Book_thing K, PSs.nox ?_, pure_Book_thing h⟩)
  exact (pss_cons (ps_if (pt_not (pt_val (pe_meth (pv 0) T.cl_Book T.me_Book_is_name (ok_Book_is_name T) (hr.mono (by decide)) (b_Book_is_name T) .nil pass0 (pa_cons (pv 1) pa_nil)))) (pss_one ps_never) pss_nil)
      (pss_one (ps_ret (pe_ix ix_seq (pe_fld (pv 0) rfl) (pv 1) (fun _ _ => rfl)))))
theorem b_Book_parents (T : Tx K mg) : Binds K T.fd_Book_parents ["self", "version"] [] := T.F_Book_parents.bindsN fun _ _ _ _ _ _ us hl => match us, hl with | [_, _], _ => rfl
theorem ok_Book_parents (T : Tx K mg) : FnOk P HasW.w K mg base CX0 4 (He.fAd K ("Book", some "parents")) T.fd_Book_parents ["self", "version"] (sp_Book_parents K) := by
  refine T.F_Book_parents.ok sc_Book_parents (fun vs H Q E h => len_Book_parents h) (fun cdv A outer s H vs Q E hr h => ⟨t_Book_parents K, PSs.nox ?_, pure_Book_parents h⟩)
  exact (pss_one (ps_ret (pe_ix ix_seq (pe_meth (pv 0) T.cl_Book T.me_Book_thing (ok_Book_thing T) (hr.mono (by decide)) (b_Book_thing T) .nil pass0 (pa_cons (pv 1) pa_nil)) pe_int (fun _ _ => rfl))))
theorem b_Holding_held_parents (T : Tx K mg) : Binds K T.fd_Holding_held_parents ["self", "version"] [] := T.F_Holding_held_parents.bindsN fun _ _ _ _ _ _ us hl => match us, hl with | [_, _], _ => rfl
theorem ok_Holding_held_parents (T : Tx K mg) : FnOk P HasW.w K mg base CX0 5 (He.fAd K ("Holding", some "held_parents")) T.fd_Holding_held_parents ["self", "version"] (sp_Holding_held_parents K) := by
  refine T.F_Holding_held_parents.ok sc_Holding_held_parents (fun vs H Q E h => len_Holding_held_parents h) (fun cdv A outer s H vs Q E hr h => ⟨t_Holding_held_parents K, PSs.nox ?_, pure_Holding_held_parents h⟩)
  exact (pss_one (ps_ret (pe_lc (own := [("parent", 2)]) (g := (gName 2)) (tt := (tB (tDIn (tVar 2) (tFld K (tVar 0) "inside")))) (te := (tVar 2)) rfl sc_Holding_held_parents.nd (pi_tup (pe_meth (pe_fld (pv 0) rfl) T.cl_Book T.me_Book_parents (ok_Book_parents T) (hr.mono (by decide)) (b_Book_parents T) .nil pass0 (pa_cons (pv 1) pa_nil))) (blkOk_by (own := [("parent", 2)]) (N := N_Holding_held_parents) (sc := defScope s_Holding_held_parents) (by decide +kernel)) (fun _ _ _ _ _ => (pg_name (i := 2) sc_Holding_held_parents.nd rfl (Or.inl rfl))) (fun _ _ _ _ _ => (pts_one (pt_cmp (pc_din (hu_of hr) (pv 2) (pe_fld (pv 0) rfl))))) (fun _ _ _ _ _ => (pv 2)))))
theorem b_spread (T : Tx K mg) : Binds K T.fd_spread ["view", "starts", "deep"] [] := T.F_spread.bindsN fun _ _ _ _ _ _ us hl => match us, hl with | [_, _, _], _ => rfl
theorem ok_spread (T : Tx K mg) : FnOk P HasW.w K mg base CX0 6 (He.fAd K ("spread", none)) T.fd_spread ["view", "starts", "deep"] (sp_spread K) := by
  refine T.F_spread.ok sc_spread (fun vs H Q E h => len_spread h) (fun cdv A outer s H vs Q E hr h => ⟨t_spread K, PSs.nox ?_, pure_spread h⟩)
  unfold t_spread t_spread_above
  exact (pss_cons (ps_setLc (i := 3) (own := [("start", 4)]) (g := (gName 4)) (tt := (tB (tMeth (He.ga K "Holding") "holds" (sp_Holding_holds K) [] E0 (tVar 0) (tCons (tVar 4) tNil)))) (te := (tVar 4)) rfl sc_spread.nd rfl rfl (sw_true rfl rfl rfl (by decide +kernel)) (pi_list (pe_sortSetT rfl (by rfl) T.z_sorted (by rfl) T.z_set (pv 1))) (blkOk_by (own := [("start", 4)]) (N := N_spread) (sc := defScope s_spread) (by decide +kernel)) (fun _ _ _ _ _ => (pg_name (i := 4) sc_spread.nd rfl (Or.inl rfl))) (fun _ _ _ _ _ => (pts_one (pt_val (pe_meth (pv 0) T.cl_Holding T.me_Holding_holds (ok_Holding_holds T) (hr.mono (by decide)) (b_Holding_holds T) .nil pass0 (pa_cons (pv 4) pa_nil))))) (fun _ _ _ _ _ => (pv 4)))
      (pss_cons (ps_setDc (i := 5) (own := [("start", 4)]) (g := (gName 4)) (tt := tYes) (tk := (tVar 4)) (tv := (tC .non)) rfl sc_spread.nd rfl rfl (sw_dict rfl rfl rfl (by decide +kernel)) (pi_list (pv 3)) (blkOk_by (own := [("start", 4)]) (N := N_spread) (sc := defScope s_spread) (by decide +kernel)) (fun _ _ _ _ _ => (pg_name (i := 4) sc_spread.nd rfl (Or.inl rfl))) (fun _ _ _ _ _ => pts_nil) (fun _ _ _ _ _ => (pv 4)) (fun _ _ _ _ _ => pe_non))
      (pss_cons (ps_set (i := 6) sc_spread.nd rfl (Or.inl rfl) pe_int)
      (pss_cons (ps_while PassesOwn.never (PW.pt (pw_and (pt_truth (pv 3) (by intro _; rfl)) (pw_and1 (pt_cmpR op_lt (pv 6) (pv 2) (nomark _))))) (pss_cons (ps_set (i := 7) sc_spread.nd rfl (Or.inl rfl) (pe_lst pa_nil))
      (pss_cons (ps_for PassesOwn.never rfl (pi_list (pv 3)) (pg_name (i := 8) sc_spread.nd rfl (Or.inl rfl)) (pss_one (ps_for PassesOwn.never rfl (pi_list (pe_meth (pv 0) T.cl_Holding T.me_Holding_held_parents (ok_Holding_held_parents T) (hr.mono (by decide)) (b_Holding_held_parents T) .nil pass0 (pa_cons (pv 8) pa_nil))) (pg_name (i := 9) sc_spread.nd rfl (Or.inl rfl)) (pss_one (ps_if (pt_cmp (pc_dnotin (hu_of hr) (pv 9) (pv 5))) (pss_cons (ps_dput (hu_of hr) (pv 5) (pv 9) (pv 8) rfl)
      (pss_one (ps_expr (pe_bm PySem.F.plainAttrs_list PySem.F.slot_list_append PySem.F.type_list_append mt_append (pv 7) (pa_cons (pv 9) pa_nil))))) pss_nil)))))
      (pss_cons (ps_set (i := 3) sc_spread.nd rfl (Or.inl rfl) (pv 7))
      (pss_one (ps_aug (i := 6) sc_spread.nd rfl (Or.inl rfl) pe_int ip_add))))))
      (pss_one (ps_ret (pv 5)))))))
theorem b_followed (T : Tx K mg) : Binds K T.fd_followed ["steps", "version"] [] := T.F_followed.bindsN fun _ _ _ _ _ _ us hl => match us, hl with | [_, _], _ => rfl
theorem ok_followed (T : Tx K mg) : FnOk P HasW.w K mg base CX0 1 (He.fAd K ("followed", none)) T.fd_followed ["steps", "version"] (sp_followed K) := by
  refine T.F_followed.ok sc_followed (fun vs H Q E h => len_followed h) (fun cdv A outer s H vs Q E hr h => ⟨t_followed K, PSs.nox ?_, pure_followed h⟩)
  exact (pss_cons (ps_set (i := 2) sc_followed.nd rfl (Or.inl rfl) (pe_lst (pa_cons (pv 1) pa_nil)))
      (pss_cons (ps_while PassesOwn.never (pt_cmpR op_notN (pe_dget (hu_of hr) (pv 0) (pe_ix ix_seq (pv 2) (pe_un un_neg pe_int) (fun _ _ => rfl)) (fun _ _ => rfl)) pe_non (nomark _)) (pss_one (ps_expr (pe_bm PySem.F.plainAttrs_list PySem.F.slot_list_append PySem.F.type_list_append mt_append (pv 2) (pa_cons (pe_dget (hu_of hr) (pv 0) (pe_ix ix_seq (pv 2) (pe_un un_neg pe_int) (fun _ _ => rfl)) (fun _ _ => rfl)) pa_nil)))))
      (pss_one (ps_ret (pv 2)))))
theorem b_Holding_has_parents (T : Tx K mg) : Binds K T.fd_Holding_has_parents ["self", "version"] [] := T.F_Holding_has_parents.bindsN fun _ _ _ _ _ _ us hl => match us, hl with | [_, _], _ => rfl
theorem ok_Holding_has_parents (T : Tx K mg) : FnOk P HasW.w K mg base CX0 5 (He.fAd K ("Holding", some "has_parents")) T.fd_Holding_has_parents ["self", "version"] (sp_Holding_has_parents K) := by
  refine T.F_Holding_has_parents.ok sc_Holding_has_parents (fun vs H Q E h => len_Holding_has_parents h) (fun cdv A outer s H vs Q E hr h => ⟨t_Holding_has_parents K, PSs.nox ?_, pure_Holding_has_parents h⟩)
  exact (pss_one (ps_ret (pe_callB (cr_all rfl) (by rfl) T.z_all (by decide +kernel) (pa_cons (pe_lc (own := [("parent", 2)]) (g := (gName 2)) (tt := tYes) (te := (tDIn (tVar 2) (tFld K (tVar 0) "inside"))) rfl sc_Holding_has_parents.nd (pi_tup (pe_meth (pe_fld (pv 0) rfl) T.cl_Book T.me_Book_parents (ok_Book_parents T) (hr.mono (by decide)) (b_Book_parents T) .nil pass0 (pa_cons (pv 1) pa_nil))) (blkOk_by (own := [("parent", 2)]) (N := N_Holding_has_parents) (sc := defScope s_Holding_has_parents) (by decide +kernel)) (fun _ _ _ _ _ => (pg_name (i := 2) sc_Holding_has_parents.nd rfl (Or.inl rfl))) (fun _ _ _ _ _ => pts_nil) (fun _ _ _ _ _ => (pe_cmp (pc_din (hu_of hr) (pv 2) (pe_fld (pv 0) rfl)) rfl))) pa_nil))))
theorem b_edges_of (T : Tx K mg) : Binds K T.fd_edges_of ["view", "versions"] [] := T.F_edges_of.bindsN fun _ _ _ _ _ _ us hl => match us, hl with | [_, _], _ => rfl
theorem ok_edges_of (T : Tx K mg) : FnOk P HasW.w K mg base CX0 6 (He.fAd K ("edges_of", none)) T.fd_edges_of ["view", "versions"] (sp_edges_of K) := by
  refine T.F_edges_of.ok sc_edges_of (fun vs H Q E h => len_edges_of h) (fun cdv A outer s H vs Q E hr h => ⟨t_edges_of K, PSs.nox ?_, pure_edges_of h⟩)
  exact (pss_one (ps_ret (pe_callTy call_tuple_of (by rfl) T.z_tuple (by decide +kernel) (pa_cons (pe_lc (own := [("version", 2)]) (g := (gName 2)) (tt := (tNot (tB (tMeth (He.ga K "Holding") "has_parents" (sp_Holding_has_parents K) [] E0 (tVar 0) (tCons (tVar 2) tNil))))) (te := (tVar 2)) rfl sc_edges_of.nd (pi_tup (pv 1)) (blkOk_by (own := [("version", 2)]) (N := N_edges_of) (sc := defScope s_edges_of) (by decide +kernel)) (fun _ _ _ _ _ => (pg_name (i := 2) sc_edges_of.nd rfl (Or.inl rfl))) (fun _ _ _ _ _ => (pts_one (pt_not (pt_val (pe_meth (pv 0) T.cl_Holding T.me_Holding_has_parents (ok_Holding_has_parents T) (hr.mono (by decide)) (b_Holding_has_parents T) .nil pass0 (pa_cons (pv 2) pa_nil)))))) (fun _ _ _ _ _ => (pv 2))) pa_nil))))
theorem b_way (T : Tx K mg) : Binds K T.fd_way ["view", "old", "new"] [] := T.F_way.bindsN fun _ _ _ _ _ _ us hl => match us, hl with | [_, _, _], _ => rfl
theorem ok_way (T : Tx K mg) : FnOk P HasW.w K mg base CX0 7 (He.fAd K ("way", none)) T.fd_way ["view", "old", "new"] (sp_way K) := by
  refine T.F_way.ok sc_way (fun vs H Q E h => len_way h) (fun cdv A outer s H vs Q E hr h => ⟨t_way K, PSs.nox ?_, pure_way h⟩)
  unfold t_way t_way_told
  exact (pss_cons (ps_set (i := 3) sc_way.nd rfl (Or.inl rfl) (pe_call (ok_spread T) (hr.mono (by decide)) (by rfl) T.g_spread T.F_spread.kp (b_spread T) .nil pass0 (pa_cons (pv 0) (pa_cons (pe_tup (pa_cons (pv 2) pa_nil)) (pa_cons (pe_glob (v := .int 400) (by rfl) T.c_ALL.choose_spec ⟨_, rfl⟩) pa_nil)))))
      (pss_cons (ps_if (pt_cmp (pc_din (hu_of hr) (pv 1) (pv 3))) (pss_one (ps_ret (pe_tup (pa_cons pe_str (pa_cons (pe_callTy call_tuple_of (by rfl) T.z_tuple (by decide +kernel) (pa_cons (pe_revL (pe_call (ok_followed T) (hr.mono (by decide)) (by rfl) T.g_followed T.F_followed.kp (b_followed T) .nil pass0 (pa_cons (pv 3) (pa_cons (pv 1) pa_nil)))) pa_nil)) pa_nil))))) pss_nil)
      (pss_cons (ps_set (i := 4) sc_way.nd rfl (Or.inl rfl) (pe_callTy call_tuple_of (by rfl) T.z_tuple (by decide +kernel) (pa_cons (pe_callB (cr_sortedK rfl) (by rfl) T.z_sorted (by decide +kernel) (pa_cons (pv 3) pa_nil)) pa_nil)))
      (pss_one (ps_ret (pe_tup (pa_cons pe_str (pa_cons (pv 4) (pa_cons (pe_call (ok_edges_of T) (hr.mono (by decide)) (by rfl) T.g_edges_of T.F_edges_of.kp (b_edges_of T) .nil pass0 (pa_cons (pv 0) (pa_cons (pv 4) pa_nil))) pa_nil)))))))))
theorem b_l_parents (T : Tx K mg) : Binds K T.fd_l_parents ["_law_things", "_law_here_here", "_law_version"] [] := T.F_l_parents.bindsN fun _ _ _ _ _ _ us hl => match us, hl with | [_, _, _], _ => rfl
theorem ok_l_parents (T : Tx K mg) : FnOk P HasW.w K mg base CX0 1 (He.fAd K ("_law_parents", none)) T.fd_l_parents ["_law_things", "_law_here_here", "_law_version"] (sp_l_parents K) := by
  refine T.F_l_parents.ok sc_l_parents (fun vs H Q E h => len_l_parents h) (fun cdv A outer s H vs Q E hr h => ⟨t_l_parents K, PSs.nox ?_, pure_l_parents h⟩)
  exact (pss_one (ps_ret (pe_lc (own := [("_law_name", 3)]) (g := (gName 3)) (tt := (tB (tDIn (tVar 3) (tVar 1)))) (te := (tVar 3)) rfl sc_l_parents.nd (pi_tup (pe_ix ix_seq (pe_ix ix_seq (pv 0) (pv 2) (fun _ _ => rfl)) pe_int (fun _ _ => rfl))) (blkOk_by (own := [("_law_name", 3)]) (N := N_l_parents) (sc := defScope s_l_parents) (by decide +kernel)) (fun _ _ _ _ _ => (pg_name (i := 3) sc_l_parents.nd rfl (Or.inl rfl))) (fun _ _ _ _ _ => (pts_one (pt_cmp (pc_din (hu_of hr) (pv 3) (pv 1))))) (fun _ _ _ _ _ => (pv 3)))))
theorem b_l_lower (T : Tx K mg) : Binds K T.fd_l_lower ["_law_things", "_law_here_here", "_law_version"] [] := T.F_l_lower.bindsN fun _ _ _ _ _ _ us hl => match us, hl with | [_, _, _], _ => rfl
theorem ok_l_lower (T : Tx K mg) : FnOk P HasW.w K mg base CX0 2 (He.fAd K ("_law_lower", none)) T.fd_l_lower ["_law_things", "_law_here_here", "_law_version"] (sp_l_lower K) := by
  refine T.F_l_lower.ok sc_l_lower (fun vs H Q E h => len_l_lower h) (fun cdv A outer s H vs Q E hr h => ⟨t_l_lower K, PSs.nox ?_, pure_l_lower h⟩)
  exact (pss_cons (ps_set (i := 3) sc_l_lower.nd rfl (Or.inl rfl) (pe_disp (pps_cons (pv 2) pe_bl pps_nil) (by rfl) (by rfl) (fun z => by cases z) (by decide)))
      (pss_cons (ps_for PassesOwn.never rfl (pi_range3 (by rfl) T.z_range (pa_cons (pv 2) (pa_cons (pe_un un_neg pe_int) (pa_cons (pe_un un_neg pe_int) pa_nil)))) (pg_name (i := 4) sc_l_lower.nd rfl (Or.inl rfl)) (pss_one (ps_if (pt_cmp (pc_din (hu_of hr) (pv 4) (pv 3))) (pss_one (ps_for PassesOwn.never rfl (pi_list (pe_call (ok_l_parents T) (hr.mono (by decide)) (by rfl) T.g_l_parents T.F_l_parents.kp (b_l_parents T) .nil pass0 (pa_cons (pv 0) (pa_cons (pv 1) (pa_cons (pv 4) pa_nil))))) (pg_name (i := 5) sc_l_lower.nd rfl (Or.inl rfl)) (pss_one (ps_dput (hu_of hr) (pv 3) (pv 5) pe_bl rfl)))) pss_nil)))
      (pss_one (ps_ret (pe_callB (cr_sortedK rfl) (by rfl) T.z_sorted (by decide +kernel) (pa_cons (pv 3) pa_nil))))))
theorem b_l_int (T : Tx K mg) : Binds K T.fd_l_int ["_law_thing"] [] := T.F_l_int.bindsN fun _ _ _ _ _ _ us hl => match us, hl with | [_], _ => rfl
theorem ok_l_int (T : Tx K mg) : FnOk P HasW.w K mg base CX0 1 (He.fAd K ("_law_int", none)) T.fd_l_int ["_law_thing"] (sp_l_int K) := by
  refine T.F_l_int.ok sc_l_int (fun vs H Q E h => len_l_int h) (fun cdv A outer s H vs Q E hr h => ⟨t_l_int K, PSs.nox ?_, pure_l_int h⟩)
  exact (pss_one (ps_ret (pe_and (pe_callB call_isi (by rfl) T.z_isinstance (by decide +kernel) (pa_cons (pv 0) (pa_cons (pe_bltn (v := .ty "int") (by rfl) T.z_int (by decide +kernel) rfl) pa_nil))) (pe_one (pe_not (pe_callB call_isi (by rfl) T.z_isinstance (by decide +kernel) (pa_cons (pv 0) (pa_cons (pe_bltn (v := .ty "bool") (by rfl) T.z_bool (by decide +kernel) rfl) pa_nil))))))))
theorem b_l_same (T : Tx K mg) : Binds K T.fd_l_same ["_law_found", "_law_due"] [] := T.F_l_same.bindsN fun _ _ _ _ _ _ us hl => match us, hl with | [_, _], _ => rfl
theorem ok_same2N (T : Tx K mg) : ∀ n : Nat, FnOk P HasW.w K mg base CX0 (n + 2) (He.fAd K ("_law_same", none)) T.fd_l_same ["_law_found", "_law_due"] (sp_same2N K n)
  | 0 => T.F_l_same.ok sc_l_same (fun vs H Q E h => len_same2N h) (fun cdv A outer s H vs Q E hr h => by
      obtain ⟨_, _, _, h, _⟩ := h
      exact h.elim)
  | n + 1 => by
    have G : FnOk P HasW.w K mg base CX0 (n + 2) (He.fAd K ("_law_same", none)) T.fd_l_same ["_law_found", "_law_due"] (sp_same2N K n) := ok_same2N T n
    refine T.F_l_same.ok sc_l_same (fun vs H Q E h => len_same2N h) (fun cdv A outer s H vs Q E hr h => ⟨t_l_same2 K n, PSs.nox ?_, pure_l_same2 h⟩)
    exact (pss_cons (ps_if (pt_val (pe_callB call_isiT (by rfl) T.z_isinstance (by decide +kernel) (pa_cons (pv 1) (pa_cons (pe_tup (pa_cons (pe_bltn (v := .ty "tuple") (by rfl) T.z_tuple (by decide +kernel) rfl) (pa_cons (pe_bltn (v := .ty "list") (by rfl) T.z_list (by decide +kernel) rfl) pa_nil))) pa_nil)))) (pss_cons (ps_if (PW.pt (pw_or (pt_cmpR op_ne (pe_callB call_isi (by rfl) T.z_isinstance (by decide +kernel) (pa_cons (pv 1) (pa_cons (pe_bltn (v := .ty "tuple") (by rfl) T.z_tuple (by decide +kernel) rfl) pa_nil))) (pe_callB call_isi (by rfl) T.z_isinstance (by decide +kernel) (pa_cons (pv 0) (pa_cons (pe_bltn (v := .ty "tuple") (by rfl) T.z_tuple (by decide +kernel) rfl) pa_nil))) (nomark _)) (pw_or1 (pt_cmpR op_ne (pe_callB call_isi (by rfl) T.z_isinstance (by decide +kernel) (pa_cons (pv 1) (pa_cons (pe_bltn (v := .ty "list") (by rfl) T.z_list (by decide +kernel) rfl) pa_nil))) (pe_callB call_isi (by rfl) T.z_isinstance (by decide +kernel) (pa_cons (pv 0) (pa_cons (pe_bltn (v := .ty "list") (by rfl) T.z_list (by decide +kernel) rfl) pa_nil))) (nomark _))))) (pss_one (ps_ret pe_bl)) pss_nil)
      (pss_cons (ps_if (pt_cmpR op_ne (pe_callB call_len (by rfl) T.z_len PySem.boot_len (pa_cons (pv 0) pa_nil)) (pe_callB call_len (by rfl) T.z_len PySem.boot_len (pa_cons (pv 1) pa_nil)) (nomark _)) (pss_one (ps_ret pe_bl)) pss_nil)
      (pss_cons (ps_for PassesOwn.never rfl (pi_range1 (by rfl) T.z_range (pa_cons (pe_callB call_len (by rfl) T.z_len PySem.boot_len (pa_cons (pv 1) pa_nil)) pa_nil)) (pg_name (i := 2) sc_l_same.nd rfl (Or.inl rfl)) (pss_one (ps_if (pt_not (pt_val (pe_call G hr (by rfl) T.g_l_same T.F_l_same.kp (b_l_same T) .nil pass0 (pa_cons (pe_ix ix_seq (pv 0) (pv 2) (fun _ _ => rfl)) (pa_cons (pe_ix ix_seq (pv 1) (pv 2) (fun _ _ => rfl)) pa_nil))))) (pss_one (ps_ret pe_bl)) pss_nil)))
      (pss_one (ps_ret pe_bl))))) pss_nil)
      (pss_cons (ps_if (pt_val (pe_callB call_isi (by rfl) T.z_isinstance (by decide +kernel) (pa_cons (pv 1) (pa_cons (pe_bltn (v := .ty "dict") (by rfl) T.z_dict (by decide +kernel) rfl) pa_nil)))) (pss_one ps_never) pss_nil)
      (pss_cons (ps_if (pt_val (pe_callB call_isi (by rfl) T.z_isinstance (by decide +kernel) (pa_cons (pv 1) (pa_cons (pe_bltn (v := .ty "bool") (by rfl) T.z_bool (by decide +kernel) rfl) pa_nil)))) (pss_one (ps_ret (pe_and (pe_callB call_isi (by rfl) T.z_isinstance (by decide +kernel) (pa_cons (pv 0) (pa_cons (pe_bltn (v := .ty "bool") (by rfl) T.z_bool (by decide +kernel) rfl) pa_nil))) (pe_one (pe_cmpR op_eq (pv 0) (pv 1) (nomark _)))))) pss_nil)
      (pss_cons (ps_if (pt_val (pe_callB call_isi (by rfl) T.z_isinstance (by decide +kernel) (pa_cons (pv 1) (pa_cons (pe_bltn (v := .ty "int") (by rfl) T.z_int (by decide +kernel) rfl) pa_nil)))) (pss_one (ps_ret (pe_and (pe_call (ok_l_int T) (hr.mono (by omega)) (by rfl) T.g_l_int T.F_l_int.kp (b_l_int T) .nil pass0 (pa_cons (pv 0) pa_nil)) (pe_one (pe_cmpR op_eq (pv 0) (pv 1) (nomark _)))))) pss_nil)
      (pss_cons (ps_if (pt_val (pe_callB call_isi (by rfl) T.z_isinstance (by decide +kernel) (pa_cons (pv 1) (pa_cons (pe_bltn (v := .ty "str") (by rfl) T.z_str (by decide +kernel) rfl) pa_nil)))) (pss_one (ps_ret (pe_and (pe_callB call_isi (by rfl) T.z_isinstance (by decide +kernel) (pa_cons (pv 0) (pa_cons (pe_bltn (v := .ty "str") (by rfl) T.z_str (by decide +kernel) rfl) pa_nil))) (pe_one (pe_cmpR op_eq (pv 0) (pv 1) (nomark _)))))) pss_nil)
      (pss_one (ps_ret (pe_and (pe_cmpR op_isN (pv 1) pe_non (nomark _)) (pe_one (pe_cmpR op_isN (pv 0) pe_non (nomark _)))))))))))
theorem ok_l_same (T : Tx K mg) : FnOk P HasW.w K mg base CX0 8 (He.fAd K ("_law_same", none)) T.fd_l_same ["_law_found", "_law_due"] (sp_l_same2 K) := ok_same2N T 6
theorem b_l_is_walk (T : Tx K mg) : Binds K T.fd_l_is_walk ["_law_things", "_law_here_here", "_law_was", "_law_goes", "_law_versions_here"] [] := T.F_l_is_walk.bindsN fun _ _ _ _ _ _ us hl => match us, hl with | [_, _, _, _, _], _ => rfl
theorem ok_l_is_walk (T : Tx K mg) : FnOk P HasW.w K mg base CX0 2 (He.fAd K ("_law_is_walk", none)) T.fd_l_is_walk ["_law_things", "_law_here_here", "_law_was", "_law_goes", "_law_versions_here"] (sp_l_is_walk K) := by
  refine T.F_l_is_walk.ok sc_l_is_walk (fun vs H Q E h => len_l_is_walk h) (fun cdv A outer s H vs Q E hr h => ⟨t_l_is_walk K, PSs.nox ?_, pure_l_is_walk h⟩)
  exact (pss_cons (ps_if (PW.pt (pw_or (pt_not (pt_val (pe_callB call_isi (by rfl) T.z_isinstance (by decide +kernel) (pa_cons (pv 4) (pa_cons (pe_bltn (v := .ty "tuple") (by rfl) T.z_tuple (by decide +kernel) rfl) pa_nil))))) (pw_or1 (pt_cmpR op_eq (pe_callB call_len (by rfl) T.z_len PySem.boot_len (pa_cons (pv 4) pa_nil)) pe_int (nomark _))))) (pss_one (ps_ret pe_bl)) pss_nil)
      (pss_cons (ps_for PassesOwn.never rfl (pi_tup (pv 4)) (pg_name (i := 5) sc_l_is_walk.nd rfl (Or.inl rfl)) (pss_one (ps_if (PW.pt (pw_or (pt_not (pt_val (pe_call (ok_l_int T) (hr.mono (by decide)) (by rfl) T.g_l_int T.F_l_int.kp (b_l_int T) .nil pass0 (pa_cons (pv 5) pa_nil)))) (pw_or1 (pt_cmp (pc_dnotin (hu_of hr) (pv 5) (pv 1)))))) (pss_one (ps_ret pe_bl)) pss_nil)))
      (pss_cons (ps_if (PW.pt (pw_or (pt_cmpR op_ne (pe_ix ix_seq (pv 4) pe_int (fun _ _ => rfl)) (pv 3) (nomark _)) (pw_or1 (pt_cmpR op_ne (pe_ix ix_seq (pv 4) (pe_un un_neg pe_int) (fun _ _ => rfl)) (pv 2) (nomark _))))) (pss_one (ps_ret pe_bl)) pss_nil)
      (pss_cons (ps_for PassesOwn.never rfl (pi_range2 (by rfl) T.z_range (pa_cons pe_int (pa_cons (pe_callB call_len (by rfl) T.z_len PySem.boot_len (pa_cons (pv 4) pa_nil)) pa_nil))) (pg_name (i := 6) sc_l_is_walk.nd rfl (Or.inl rfl)) (pss_one (ps_if (PW.pt (pw_or (pt_cmpR op_ne (pe_ix ix_seq (pe_ix ix_seq (pv 0) (pe_ix ix_seq (pv 4) (pe_op op_sub (pv 6) pe_int) (fun _ _ => rfl)) (fun _ _ => rfl)) pe_int (fun _ _ => rfl)) pe_str (nomark _)) (pw_or1 (pt_cmpR op_notIn_seq (pe_ix ix_seq (pv 4) (pv 6) (fun _ _ => rfl)) (pe_ix ix_seq (pe_ix ix_seq (pv 0) (pe_ix ix_seq (pv 4) (pe_op op_sub (pv 6) pe_int) (fun _ _ => rfl)) (fun _ _ => rfl)) pe_int (fun _ _ => rfl)) (by rfl))))) (pss_one (ps_ret pe_bl)) pss_nil)))
      (pss_one (ps_ret pe_bl))))))
theorem b_l_brims (T : Tx K mg) : Binds K T.fd_l_brims ["_law_things", "_law_here_here", "_law_versions_here"] [] := T.F_l_brims.bindsN fun _ _ _ _ _ _ us hl => match us, hl with | [_, _, _], _ => rfl
theorem ok_l_brims (T : Tx K mg) : FnOk P HasW.w K mg base CX0 2 (He.fAd K ("_law_brims", none)) T.fd_l_brims ["_law_things", "_law_here_here", "_law_versions_here"] (sp_l_brims K) := by
  refine T.F_l_brims.ok sc_l_brims (fun vs H Q E h => len_l_brims h) (fun cdv A outer s H vs Q E hr h => ⟨t_l_brims K, PSs.nox ?_, pure_l_brims h⟩)
  exact (pss_one (ps_ret (pe_callTy call_tuple_of (by rfl) T.z_tuple (by decide +kernel) (pa_cons (pe_lc (own := [("_law_name", 3)]) (g := (gName 3)) (tt := (tTest (tOp rLtI (tCB (fLen K) (tCons (tCall (sp_l_parents K) [] E0 (tCons (tVar 0) (tCons (tVar 1) (tCons (tVar 3) tNil)))) tNil)) (tCB (fLen K) (tCons (tOp (rIx K) (tOp (rIx K) (tVar 0) (tVar 3)) (tC (.int 1))) tNil))))) (te := (tVar 3)) rfl sc_l_brims.nd (pi_list (pv 2)) (blkOk_by (own := [("_law_name", 3)]) (N := N_l_brims) (sc := defScope s_l_brims) (by decide +kernel)) (fun _ _ _ _ _ => (pg_name (i := 3) sc_l_brims.nd rfl (Or.inl rfl))) (fun _ _ _ _ _ => (pts_one (pt_cmpR op_lt (pe_callB call_len (by rfl) T.z_len PySem.boot_len (pa_cons (pe_call (ok_l_parents T) (hr.mono (by decide)) (by rfl) T.g_l_parents T.F_l_parents.kp (b_l_parents T) .nil pass0 (pa_cons (pv 0) (pa_cons (pv 1) (pa_cons (pv 3) pa_nil)))) pa_nil)) (pe_callB call_len (by rfl) T.z_len PySem.boot_len (pa_cons (pe_ix ix_seq (pe_ix ix_seq (pv 0) (pv 3) (fun _ _ => rfl)) pe_int (fun _ _ => rfl)) pa_nil)) (nomark _)))) (fun _ _ _ _ _ => (pv 3))) pa_nil))))
theorem b_l_way_told (T : Tx K mg) : Binds K T.fd_l_way_told ["_law_things", "_law_here_here", "_law_was", "_law_goes", "_law_thing"] [] := T.F_l_way_told.bindsN fun _ _ _ _ _ _ us hl => match us, hl with | [_, _, _, _, _], _ => rfl
theorem ok_l_way_told (T : Tx K mg) : FnOk P HasW.w K mg base CX0 9 (He.fAd K ("_law_way_told", none)) T.fd_l_way_told ["_law_things", "_law_here_here", "_law_was", "_law_goes", "_law_thing"] (sp_l_way_told K) := by
  refine T.F_l_way_told.ok sc_l_way_told (fun vs H Q E h => len_l_way_told h) (fun cdv A outer s H vs Q E hr h => ⟨t_l_way_told K, PSs.nox ?_, pure_l_way_told h⟩)
  exact (pss_cons (ps_set (i := 5) sc_l_way_told.nd rfl (Or.inl rfl) (pe_call (ok_l_lower T) (hr.mono (by decide)) (by rfl) T.g_l_lower T.F_l_lower.kp (b_l_lower T) .nil pass0 (pa_cons (pv 0) (pa_cons (pv 1) (pa_cons (pv 3) pa_nil)))))
      (pss_cons (ps_if (pt_cmpR op_in_seq (pv 2) (pv 5) (by rfl)) (pss_cons (ps_if (PW.pt (pw_or (pt_not (pt_val (pe_callB call_isi (by rfl) T.z_isinstance (by decide +kernel) (pa_cons (pv 4) (pa_cons (pe_bltn (v := .ty "tuple") (by rfl) T.z_tuple (by decide +kernel) rfl) pa_nil))))) (pw_or (pt_cmpR op_ne (pe_callB call_len (by rfl) T.z_len PySem.boot_len (pa_cons (pv 4) pa_nil)) pe_int (nomark _)) (pw_or1 (pt_not (pt_val (pe_call (ok_l_same T) (hr.mono (by decide)) (by rfl) T.g_l_same T.F_l_same.kp (b_l_same T) .nil pass0 (pa_cons (pe_ix ix_seq (pv 4) pe_int (fun _ _ => rfl)) (pa_cons pe_str pa_nil))))))))) (pss_one (ps_ret pe_bl)) pss_nil)
      (pss_one (ps_ret (pe_call (ok_l_is_walk T) (hr.mono (by decide)) (by rfl) T.g_l_is_walk T.F_l_is_walk.kp (b_l_is_walk T) .nil pass0 (pa_cons (pv 0) (pa_cons (pv 1) (pa_cons (pv 2) (pa_cons (pv 3) (pa_cons (pe_ix ix_seq (pv 4) pe_int (fun _ _ => rfl)) pa_nil))))))))) pss_nil)
      (pss_one (ps_ret (pe_call (ok_l_same T) (hr.mono (by decide)) (by rfl) T.g_l_same T.F_l_same.kp (b_l_same T) .nil pass0 (pa_cons (pv 4) (pa_cons (pe_tup (pa_cons pe_str (pa_cons (pe_callTy call_tuple_of (by rfl) T.z_tuple (by decide +kernel) (pa_cons (pv 5) pa_nil)) (pa_cons (pe_call (ok_l_brims T) (hr.mono (by decide)) (by rfl) T.g_l_brims T.F_l_brims.kp (b_l_brims T) .nil pass0 (pa_cons (pv 0) (pa_cons (pv 1) (pa_cons (pv 5) pa_nil)))) pa_nil)))) pa_nil)))))))
theorem b_Book_kind (T : Tx K mg) : Binds K T.fd_Book_kind ["self", "name"] [] := T.F_Book_kind.bindsN fun _ _ _ _ _ _ us hl => match us, hl with | [_, _], _ => rfl
theorem ok_Book_kind (T : Tx K mg) : FnOk P HasW.w K mg base CX0 4 (He.fAd K ("Book", some "kind")) T.fd_Book_kind ["self", "name"] (sp_Book_kind K) := by
  refine T.F_Book_kind.ok sc_Book_kind (fun vs H Q E h => len_Book_kind h) (fun cdv A outer s H vs Q E hr h => ⟨t_Book_kind K, PSs.nox ?_, pure_Book_kind h⟩)
  exact (pss_one (ps_ret (pe_ix ix_seq (pe_meth (pv 0) T.cl_Book T.me_Book_thing (ok_Book_thing T) (hr.mono (by decide)) (b_Book_thing T) .nil pass0 (pa_cons (pv 1) pa_nil)) pe_int (fun _ _ => rfl))))
theorem b_Holding_holds_version (T : Tx K mg) : Binds K T.fd_Holding_holds_version ["self", "thing"] [] := T.F_Holding_holds_version.bindsN fun _ _ _ _ _ _ us hl => match us, hl with | [_, _], _ => rfl
theorem ok_Holding_holds_version (T : Tx K mg) : FnOk P HasW.w K mg base CX0 5 (He.fAd K ("Holding", some "holds_version")) T.fd_Holding_holds_version ["self", "thing"] (sp_Holding_holds_version K) := by
  refine T.F_Holding_holds_version.ok sc_Holding_holds_version (fun vs H Q E h => len_Holding_holds_version h) (fun cdv A outer s H vs Q E hr h => ⟨t_Holding_holds_version K, PSs.nox ?_, pure_Holding_holds_version h⟩)
  exact (pss_one (ps_ret (pe_and (pe_meth (pv 0) T.cl_Holding T.me_Holding_holds (ok_Holding_holds T) (hr.mono (by decide)) (b_Holding_holds T) .nil pass0 (pa_cons (pv 1) pa_nil)) (pe_one (pe_cmpR op_eq (pe_meth (pe_fld (pv 0) rfl) T.cl_Book T.me_Book_kind (ok_Book_kind T) (hr.mono (by decide)) (b_Book_kind T) .nil pass0 (pa_cons (pv 1) pa_nil)) pe_str (nomark _))))))
theorem b_is_walk_back (T : Tx K mg) : Binds K T.fd_is_walk_back ["view", "thing"] [] := T.F_is_walk_back.bindsN fun _ _ _ _ _ _ us hl => match us, hl with | [_, _], _ => rfl
theorem ok_is_walk_back (T : Tx K mg) : FnOk P HasW.w K mg base CX0 6 (He.fAd K ("is_walk_back", none)) T.fd_is_walk_back ["view", "thing"] (sp_is_walk_back K) := by
  refine T.F_is_walk_back.ok sc_is_walk_back (fun vs H Q E h => len_is_walk_back h) (fun cdv A outer s H vs Q E hr h => ⟨t_is_walk_back K, PSs.nox ?_, pure_is_walk_back h⟩)
  exact (pss_cons (ps_if (PW.pt (pw_or (pt_not (pt_val (pe_callB call_isi (by rfl) T.z_isinstance (by decide +kernel) (pa_cons (pv 1) (pa_cons (pe_bltn (v := .ty "tuple") (by rfl) T.z_tuple (by decide +kernel) rfl) pa_nil))))) (pw_or (pt_cmpR op_eq (pe_callB call_len (by rfl) T.z_len PySem.boot_len (pa_cons (pv 1) pa_nil)) pe_int (nomark _)) (pw_or1 (pt_not (pt_val (pe_callB (cr_all rfl) (by rfl) T.z_all (by decide +kernel) (pa_cons (pe_lc (own := [("name", 2)]) (g := (gName 2)) (tt := tYes) (te := (tMeth (He.ga K "Holding") "holds_version" (sp_Holding_holds_version K) [] E0 (tVar 0) (tCons (tVar 2) tNil))) rfl sc_is_walk_back.nd (pi_tup (pv 1)) (blkOk_by (own := [("name", 2)]) (N := N_is_walk_back) (sc := defScope s_is_walk_back) (by decide +kernel)) (fun _ _ _ _ _ => (pg_name (i := 2) sc_is_walk_back.nd rfl (Or.inl rfl))) (fun _ _ _ _ _ => pts_nil) (fun _ _ _ _ _ => (pe_meth (pv 0) T.cl_Holding T.me_Holding_holds_version (ok_Holding_holds_version T) (hr.mono (by decide)) (b_Holding_holds_version T) .nil pass0 (pa_cons (pv 2) pa_nil)))) pa_nil)))))))) (pss_one (ps_ret pe_bl)) pss_nil)
      (pss_one (ps_ret (pe_callB (cr_all rfl) (by rfl) T.z_all (by decide +kernel) (pa_cons (pe_lc (own := [("upper", 3), ("lower", 4)]) (g := (gTup K 2 (gCons (gName 3) (gCons (gName 4) gNil)))) (tt := tYes) (te := (tOp (rIn K false) (tVar 4) (tMeth (He.ga K "Book") "parents" (sp_Book_parents K) [] E0 (tFld K (tVar 0) "book") (tCons (tVar 3) tNil)))) rfl sc_is_walk_back.nd (pi_zipA (by rfl) T.z_zip (pa_cons (pv 1) (pa_cons (pe_slice sl_tupA (pv 1) (po_some pe_int) po_none) pa_nil))) (blkOk_by (own := [("upper", 3), ("lower", 4)]) (N := N_is_walk_back) (sc := defScope s_is_walk_back) (by decide +kernel)) (fun _ _ _ _ _ => (pg_tup rfl (pgs_cons (pg_name (i := 3) sc_is_walk_back.nd rfl (Or.inl rfl)) (pgs_cons (pg_name (i := 4) sc_is_walk_back.nd rfl (Or.inl rfl)) pgs_nil)))) (fun _ _ _ _ _ => pts_nil) (fun _ _ _ _ _ => (pe_cmpR op_in_seq (pv 4) (pe_meth (pe_fld (pv 0) rfl) T.cl_Book T.me_Book_parents (ok_Book_parents T) (hr.mono (by decide)) (b_Book_parents T) .nil pass0 (pa_cons (pv 3) pa_nil)) (by rfl)))) pa_nil)))))
theorem b_is_ahead (T : Tx K mg) : Binds K T.fd_is_ahead ["view", "old", "new", "versions"] [] := T.F_is_ahead.bindsN fun _ _ _ _ _ _ us hl => match us, hl with | [_, _, _, _], _ => rfl
theorem ok_is_ahead (T : Tx K mg) : FnOk P HasW.w K mg base CX0 7 (He.fAd K ("is_ahead", none)) T.fd_is_ahead ["view", "old", "new", "versions"] (sp_is_ahead K) := by
  refine T.F_is_ahead.ok sc_is_ahead (fun vs H Q E h => len_is_ahead h) (fun cdv A outer s H vs Q E hr h => ⟨t_is_ahead K, PSs.nox ?_, pure_is_ahead h⟩)
  exact (pss_one (ps_ret (pe_and (pe_call (ok_is_walk_back T) (hr.mono (by decide)) (by rfl) T.g_is_walk_back T.F_is_walk_back.kp (b_is_walk_back T) .nil pass0 (pa_cons (pv 0) (pa_cons (pv 3) pa_nil))) (pe_and (pe_cmpR op_eq (pe_ix ix_seq (pv 3) pe_int (fun _ _ => rfl)) (pv 2) (nomark _)) (pe_one (pe_cmpR op_eq (pe_ix ix_seq (pv 3) (pe_un un_neg pe_int) (fun _ _ => rfl)) (pv 1) (nomark _)))))))
theorem b_is_apart (T : Tx K mg) : Binds K T.fd_is_apart ["view", "old", "new", "versions", "edges"] [] := T.F_is_apart.bindsN fun _ _ _ _ _ _ us hl => match us, hl with | [_, _, _, _, _], _ => rfl
theorem ok_is_apart (T : Tx K mg) : FnOk P HasW.w K mg base CX0 7 (He.fAd K ("is_apart", none)) T.fd_is_apart ["view", "old", "new", "versions", "edges"] (sp_is_apart K) := by
  refine T.F_is_apart.ok sc_is_apart (fun vs H Q E h => len_is_apart h) (fun cdv A outer s H vs Q E hr h => ⟨t_is_apart K, PSs.nox ?_, pure_is_apart h⟩)
  exact (pss_cons (ps_if (PW.pt (pw_or (pt_not (pt_val (pe_call (ok_is_rising T) (hr.mono (by decide)) (by rfl) T.g_is_rising T.F_is_rising.kp (b_is_rising T) .nil pass0 (pa_cons (pv 3) pa_nil)))) (pw_or (pt_not (pt_val (pe_call (ok_is_rising T) (hr.mono (by decide)) (by rfl) T.g_is_rising T.F_is_rising.kp (b_is_rising T) .nil pass0 (pa_cons (pv 4) pa_nil)))) (pw_or1 (pt_not (pt_val (pe_callB (cr_all rfl) (by rfl) T.z_all (by decide +kernel) (pa_cons (pe_lc (own := [("name", 5)]) (g := (gName 5)) (tt := tYes) (te := (tMeth (He.ga K "Holding") "holds_version" (sp_Holding_holds_version K) [] E0 (tVar 0) (tCons (tVar 5) tNil))) rfl sc_is_apart.nd (pi_tup (pv 3)) (blkOk_by (own := [("name", 5)]) (N := N_is_apart) (sc := defScope s_is_apart) (by decide +kernel)) (fun _ _ _ _ _ => (pg_name (i := 5) sc_is_apart.nd rfl (Or.inl rfl))) (fun _ _ _ _ _ => pts_nil) (fun _ _ _ _ _ => (pe_meth (pv 0) T.cl_Holding T.me_Holding_holds_version (ok_Holding_holds_version T) (hr.mono (by decide)) (b_Holding_holds_version T) .nil pass0 (pa_cons (pv 5) pa_nil)))) pa_nil)))))))) (pss_one (ps_ret pe_bl)) pss_nil)
      (pss_cons (ps_set (i := 6) sc_is_apart.nd rfl (Or.inr rfl) (pe_dc (own := [("version", 7)]) (g := (gName 7)) (tt := tYes) (tk := (tVar 7)) (tv := (tC (.bl true))) rfl sc_is_apart.nd (pi_tup (pv 3)) (blkOk_by (own := [("version", 7)]) (N := N_is_apart) (sc := defScope s_is_apart) (by decide +kernel)) (fun _ _ _ _ _ => (pg_name (i := 7) sc_is_apart.nd rfl (Or.inl rfl))) (fun _ _ _ _ _ => pts_nil) (fun _ _ _ _ _ => (pv 7)) (fun _ _ _ _ _ => pe_bl)))
      (pss_cons (ps_if (PW.pt (pw_or (pt_cmp (pc_dnotin (hu_of hr) (pv 2) (pv 6))) (pw_or1 (pt_cmp (pc_din (hu_of hr) (pv 1) (pv 6)))))) (pss_one (ps_ret pe_bl)) pss_nil)
      (pss_cons (ps_if (pt_not (pt_val (pe_callB (cr_all rfl) (by rfl) T.z_all (by decide +kernel) (pa_cons (pe_lc2 (own := [("version", 7), ("parent", 8)]) (vs1 := [8]) (g := (gName 7)) (tt := tYes) (g1 := (gName 8)) (tt1 := tYes) (te := (tDIn (tVar 8) (tVar 6))) rfl sc_is_apart.nd (pi_tup (pv 3)) (blkOk_by (own := [("version", 7), ("parent", 8)]) (N := N_is_apart) (sc := defScope s_is_apart) (by decide +kernel)) (by decide) (fun _ _ _ _ _ => (pg_name (i := 7) sc_is_apart.nd rfl (Or.inl rfl))) (fun _ _ _ _ _ => pts_nil) (fun _ _ _ _ _ => (pi_list (pe_meth (pv 0) T.cl_Holding T.me_Holding_held_parents (ok_Holding_held_parents T) (hr.mono (by decide)) (b_Holding_held_parents T) .nil pass0 (pa_cons (pv 7) pa_nil)))) (fun _ _ _ _ _ => (pg_name (i := 8) sc_is_apart.nd rfl (Or.inl rfl))) (fun _ _ _ _ _ => pts_nil) (fun _ _ _ _ _ => (pe_cmp (pc_din (hu_of hr) (pv 8) (pv 6)) rfl))) pa_nil)))) (pss_one (ps_ret pe_bl)) pss_nil)
      (pss_one (ps_ret (pe_cmpR (op_eqD hr.units) (pv 4) (pe_call (ok_edges_of T) (hr.mono (by decide)) (by rfl) T.g_edges_of T.F_edges_of.kp (b_edges_of T) .nil pass0 (pa_cons (pv 0) (pa_cons (pv 3) pa_nil))) (nomark _))))))))
theorem b_right_way (T : Tx K mg) : Binds K T.fd_right_way ["view", "old", "new", "thing"] [] := T.F_right_way.bindsN fun _ _ _ _ _ _ us hl => match us, hl with | [_, _, _, _], _ => rfl
theorem ok_right_way (T : Tx K mg) : FnOk P HasW.w K mg base CX0 8 (He.fAd K ("right_way", none)) T.fd_right_way ["view", "old", "new", "thing"] (sp_right_way K) := by
  refine T.F_right_way.ok sc_right_way (fun vs H Q E h => len_right_way h) (fun cdv A outer s H vs Q E hr h => ⟨t_right_way K, PSs.nox ?_, pure_right_way h⟩)
  exact (pss_cons (ps_if (PW.pt (pw_or (pt_not (pt_val (pe_callB call_isi (by rfl) T.z_isinstance (by decide +kernel) (pa_cons (pv 3) (pa_cons (pe_bltn (v := .ty "tuple") (by rfl) T.z_tuple (by decide +kernel) rfl) pa_nil))))) (pw_or1 (pt_cmpR op_eq (pe_callB call_len (by rfl) T.z_len PySem.boot_len (pa_cons (pv 3) pa_nil)) pe_int (nomark _))))) (pss_one (ps_ret pe_bl)) pss_nil)
      (pss_cons (ps_if (pt_cmpR op_eq (pe_ix ix_seq (pv 3) pe_int (fun _ _ => rfl)) pe_str (nomark _)) (pss_one (ps_ret (pe_and (pe_cmpR op_eq (pe_callB call_len (by rfl) T.z_len PySem.boot_len (pa_cons (pv 3) pa_nil)) pe_int (nomark _)) (pe_one (pe_call (ok_is_ahead T) (hr.mono (by decide)) (by rfl) T.g_is_ahead T.F_is_ahead.kp (b_is_ahead T) .nil pass0 (pa_cons (pv 0) (pa_cons (pv 1) (pa_cons (pv 2) (pa_cons (pe_ix ix_seq (pv 3) pe_int (fun _ _ => rfl)) pa_nil))))))))) pss_nil)
      (pss_one (ps_ret (pe_and (pe_cmpR op_eq (pe_ix ix_seq (pv 3) pe_int (fun _ _ => rfl)) pe_str (nomark _)) (pe_and (pe_cmpR op_eq (pe_callB call_len (by rfl) T.z_len PySem.boot_len (pa_cons (pv 3) pa_nil)) pe_int (nomark _)) (pe_one (pe_call (ok_is_apart T) (hr.mono (by decide)) (by rfl) T.g_is_apart T.F_is_apart.kp (b_is_apart T) .nil pass0 (pa_cons (pv 0) (pa_cons (pv 1) (pa_cons (pv 2) (pa_cons (pe_ix ix_seq (pv 3) pe_int (fun _ _ => rfl)) (pa_cons (pe_ix ix_seq (pv 3) pe_int (fun _ _ => rfl)) pa_nil)))))))))))))
theorem b_l_two_views (T : Tx K mg) : Binds K T.fd_l_two_views ["_law_things", "_law_here_here", "_law_every", "_law_view", "_law_whole", "_law_was", "_law_goes"] [] := T.F_l_two_views.bindsN fun _ _ _ _ _ _ us hl => match us, hl with | [_, _, _, _, _, _, _], _ => rfl
theorem ok_l_two_views (T : Tx K mg) : FnOk P HasW.w K mg base CX0 10 (He.fAd K ("_law_two_views", none)) T.fd_l_two_views ["_law_things", "_law_here_here", "_law_every", "_law_view", "_law_whole", "_law_was", "_law_goes"] (sp_l_two_views K) := by
  refine T.F_l_two_views.ok sc_l_two_views (fun vs H Q E h => len_l_two_views h) (fun cdv A outer s H vs Q E hr h => ⟨t_l_two_views K, PSs.nox ?_, pure_l_two_views h⟩)
  exact (pss_cons (ps_set (i := 7) sc_l_two_views.nd rfl (Or.inl rfl) (pe_call (ok_way T) (hr.mono (by decide)) (by rfl) T.g_way T.F_way.kp (b_way T) .nil pass0 (pa_cons (pv 3) (pa_cons (pv 5) (pa_cons (pv 6) pa_nil)))))
      (pss_cons (ps_if (PW.pt (pw_or (pt_not (pt_val (pe_call (ok_l_way_told T) (hr.mono (by decide)) (by rfl) T.g_l_way_told T.F_l_way_told.kp (b_l_way_told T) .nil pass0 (pa_cons (pv 0) (pa_cons (pv 1) (pa_cons (pv 5) (pa_cons (pv 6) (pa_cons (pv 7) pa_nil)))))))) (pw_or1 (pt_not (pt_val (pe_call (ok_l_same T) (hr.mono (by decide)) (by rfl) T.g_l_same T.F_l_same.kp (b_l_same T) .nil pass0 (pa_cons (pe_call (ok_right_way T) (hr.mono (by decide)) (by rfl) T.g_right_way T.F_right_way.kp (b_right_way T) .nil pass0 (pa_cons (pv 3) (pa_cons (pv 5) (pa_cons (pv 6) (pa_cons (pv 7) pa_nil))))) (pa_cons pe_bl pa_nil)))))))) (pss_one (ps_ret pe_bl)) pss_nil)
      (pss_cons (ps_set (i := 8) sc_l_two_views.nd rfl (Or.inl rfl) (pe_call (ok_way T) (hr.mono (by decide)) (by rfl) T.g_way T.F_way.kp (b_way T) .nil pass0 (pa_cons (pv 4) (pa_cons (pv 5) (pa_cons (pv 6) pa_nil)))))
      (pss_cons (ps_if (pt_not (pt_val (pe_call (ok_l_way_told T) (hr.mono (by decide)) (by rfl) T.g_l_way_told T.F_l_way_told.kp (b_l_way_told T) .nil pass0 (pa_cons (pv 0) (pa_cons (pv 2) (pa_cons (pv 5) (pa_cons (pv 6) (pa_cons (pv 8) pa_nil)))))))) (pss_one (ps_ret pe_bl)) pss_nil)
      (pss_cons (ps_if (PW.pt (pw_or (pt_cmpR op_eq (pe_ix ix_seq (pv 7) pe_int (fun _ _ => rfl)) pe_str (nomark _)) (pw_or1 (pt_cmpR op_eq (pe_callB call_len (by rfl) T.z_len PySem.boot_len (pa_cons (pe_ix ix_seq (pv 7) pe_int (fun _ _ => rfl)) pa_nil)) pe_int (nomark _))))) (pss_one (ps_ret (pe_cmpR op_eq (pe_ix ix_seq (pv 8) pe_int (fun _ _ => rfl)) (pe_ix ix_seq (pv 7) pe_int (fun _ _ => rfl)) (nomark _)))) pss_nil)
      (pss_one (ps_ret pe_bl)))))))
theorem b_law (T : Tx K mg) : Binds K T.fd_law ["_law_script"] [] := T.F_law.bindsN fun _ _ _ _ _ _ us hl => match us, hl with | [_], _ => rfl
theorem ok_law (T : Tx K mg) : FnOk P HasW.w K mg base CX0 11 (He.fAd K ("law", none)) T.fd_law ["_law_script"] (sp_law K) := by
  refine T.F_law.ok sc_law (fun vs H Q E h => len_law h) (fun cdv A outer s H vs Q E hr h => ⟨t_law K, PSs.nox ?_, pure_law T.k52 h⟩)
  exact (pss_cons (ps_set (i := 1) sc_law.nd rfl (Or.inl rfl) (pe_call (ok_l_deck T) (hr.mono (by decide)) (by rfl) T.g_l_deck T.F_l_deck.kp (b_l_deck T) .nil pass0 (pa_cons (pv 0) pa_nil)))
      (pss_cons (ps_set (i := 2) sc_law.nd rfl (Or.inl rfl) (pe_call (ok_l_draw T) (hr.mono (by decide)) (by rfl) T.g_l_draw T.F_l_draw.kp (b_l_draw T) .nil pass0 (pa_cons (pv 1) (pa_cons pe_int pa_nil))))
      (pss_cons (ps_if (pt_cmpR op_gt (pv 2) pe_int (nomark _)) (pss_one (ps_asg (pe_call (ok_l_great T) (hr.mono (by decide)) (by rfl) T.g_l_great T.F_l_great.kp (b_l_great T) .nil pass0 (pa_cons (pv 1) (pa_cons (pe_op op_sub (pv 2) pe_int) pa_nil))) (pg_tup rfl (pgs_cons (pg_name (i := 3) sc_law.nd rfl (Or.inl rfl)) (pgs_cons (pg_name (i := 4) sc_law.nd rfl (Or.inl rfl)) pgs_nil))))) (pss_one (ps_asg (pe_call (ok_l_scene T) (hr.mono (by decide)) (by rfl) T.g_l_scene T.F_l_scene.kp (b_l_scene T) .nil pass0 (pa_cons (pv 1) (pa_cons pe_int pa_nil))) (pg_tup rfl (pgs_cons (pg_name (i := 3) sc_law.nd rfl (Or.inl rfl)) (pgs_cons (pg_name (i := 4) sc_law.nd rfl (Or.inl rfl)) pgs_nil))))))
      (pss_cons (ps_set (i := 5) sc_law.nd rfl (Or.inl rfl) (pe_call (ok_l_here T) (hr.mono (by decide)) (by rfl) T.g_l_here T.F_l_here.kp (b_l_here T) .nil pass0 (pa_cons (pv 4) pa_nil)))
      (pss_cons (ps_set (i := 6) sc_law.nd rfl (Or.inl rfl) (pe_call (ok_l_here T) (hr.mono (by decide)) (by rfl) T.g_l_here T.F_l_here.kp (b_l_here T) .nil pass0 (pa_cons (pe_listRg rfl (by rfl) T.z_list (prg_1 (by rfl) T.z_range (pe_callB call_len (by rfl) T.z_len PySem.boot_len (pa_cons (pv 3) pa_nil)))) pa_nil)))
      (pss_cons (ps_set (i := 7) sc_law.nd rfl (Or.inl rfl) (pe_call (ok_l_versions T) (hr.mono (by decide)) (by rfl) T.g_l_versions T.F_l_versions.kp (b_l_versions T) .nil pass0 (pa_cons (pv 3) (pa_cons (pv 5) pa_nil))))
      (pss_cons (ps_set (i := 8) sc_law.nd rfl (Or.inl rfl) (pe_call (ok_l_book T) (hr.mono (by decide)) (by rfl) T.g_l_book T.F_l_book.kp (b_l_book T) .nil pass0 (pa_cons (pv 3) pa_nil)))
      (pss_cons (ps_set (i := 9) sc_law.nd rfl (Or.inl rfl) (pe_make T.mk_Holding (ok_Holding_inits T) (hr.mono (by decide)) (by rfl) T.gc_Holding (b_Holding_inits T) .nil pass0 (pa_cons (pv 8) (pa_cons (pv 4) pa_nil))))
      (pss_cons (ps_set (i := 10) sc_law.nd rfl (Or.inl rfl) (pe_make T.mk_Holding (ok_Holding_inits T) (hr.mono (by decide)) (by rfl) T.gc_Holding (b_Holding_inits T) .nil pass0 (pa_cons (pv 8) (pa_cons (pe_tupRg rfl (by rfl) T.z_tuple (prg_1 (by rfl) T.z_range (pe_callB call_len (by rfl) T.z_len PySem.boot_len (pa_cons (pv 3) pa_nil)))) pa_nil))))
      (pss_cons (ps_set (i := 11) sc_law.nd rfl (Or.inl rfl) (pe_lst (pa_cons (pe_tup (pa_cons (pe_ix ix_seq (pv 7) pe_int (fun _ _ => rfl)) (pa_cons (pe_ix ix_seq (pv 7) (pe_un un_neg pe_int) (fun _ _ => rfl)) pa_nil))) (pa_cons (pe_tup (pa_cons (pe_ix ix_seq (pv 7) (pe_un un_neg pe_int) (fun _ _ => rfl)) (pa_cons (pe_ix ix_seq (pv 7) pe_int (fun _ _ => rfl)) pa_nil))) pa_nil))))
      (pss_cons (ps_if (pt_cmpR op_lt (pe_callB call_len (by rfl) T.z_len PySem.boot_len (pa_cons (pv 7) pa_nil)) pe_int (nomark _)) (pss_one (ps_for PassesOwn.never rfl (pi_list (pv 7)) (pg_name (i := 12) sc_law.nd rfl (Or.inr rfl)) (pss_one (ps_expr (pe_bm PySem.F.plainAttrs_list PySem.F.slot_list_extend PySem.F.type_list_extend mt_extendA (pv 11) (pa_cons (pe_lc (own := [("_law_was", 14)]) (g := (gName 14)) (tt := tYes) (te := (tTup (tCons (tVar 14) (tCons (tVar 12) tNil)))) rfl sc_law.nd (pi_list (pv 7)) (blkOk_by (own := [("_law_was", 14)]) (N := N_law) (sc := defScope s_law) (by decide +kernel)) (fun _ _ _ _ _ => (pg_name (i := 14) sc_law.nd rfl (Or.inl rfl))) (fun _ _ _ _ _ => pts_nil) (fun _ _ _ _ _ => (pe_tup (pa_cons (pv 14) (pa_cons (pv 12) pa_nil))))) pa_nil)))))) (pss_one (ps_for PassesOwn.never rfl (pi_range1 (by rfl) T.z_range (pa_cons pe_int pa_nil)) (pg_name (i := 13) sc_law.nd rfl (Or.inl rfl)) (pss_one (ps_expr (pe_bm PySem.F.plainAttrs_list PySem.F.slot_list_append PySem.F.type_list_append mt_append (pv 11) (pa_cons (pe_tup (pa_cons (pe_ix ix_seq (pv 7) (pe_call (ok_l_draw T) (hr.mono (by decide)) (by rfl) T.g_l_draw T.F_l_draw.kp (b_l_draw T) .nil pass0 (pa_cons (pv 1) (pa_cons (pe_callB call_len (by rfl) T.z_len PySem.boot_len (pa_cons (pv 7) pa_nil)) pa_nil))) (fun _ _ => rfl)) (pa_cons (pe_ix ix_seq (pv 7) (pe_call (ok_l_draw T) (hr.mono (by decide)) (by rfl) T.g_l_draw T.F_l_draw.kp (b_l_draw T) .nil pass0 (pa_cons (pv 1) (pa_cons (pe_callB call_len (by rfl) T.z_len PySem.boot_len (pa_cons (pv 7) pa_nil)) pa_nil))) (fun _ _ => rfl)) pa_nil))) pa_nil)))))))
      (pss_cons (ps_for PassesOwn.never rfl (pi_list (pv 11)) (pg_tup rfl (pgs_cons (pg_name (i := 14) sc_law.nd rfl (Or.inl rfl)) (pgs_cons (pg_name (i := 12) sc_law.nd rfl (Or.inr rfl)) pgs_nil))) (pss_one (ps_if (pt_not (pt_val (pe_call (ok_l_two_views T) (hr.mono (by decide)) (by rfl) T.g_l_two_views T.F_l_two_views.kp (b_l_two_views T) .nil pass0 (pa_cons (pv 3) (pa_cons (pv 5) (pa_cons (pv 6) (pa_cons (pv 9) (pa_cons (pv 10) (pa_cons (pv 14) (pa_cons (pv 12) pa_nil)))))))))) (pss_one (ps_ret pe_bl)) pss_nil)))
      (pss_one (ps_ret pe_bl))))))))))))))
end
def d_l_deck : He.DefD := ⟨("_law_deck", none), "_law_deck", "_law_deck", defArgs s_l_deck, defBody s_l_deck, defScope s_l_deck, [], []⟩
def d_l_mixed : He.DefD := ⟨("_law_mixed", none), "_law_mixed", "_law_mixed", defArgs s_l_mixed, defBody s_l_mixed, defScope s_l_mixed, [], []⟩
def d_l_draw : He.DefD := ⟨("_law_draw", none), "_law_draw", "_law_draw", defArgs s_l_draw, defBody s_l_draw, defScope s_l_draw, [], []⟩
def d_l_ladder : He.DefD := ⟨("_law_ladder", none), "_law_ladder", "_law_ladder", defArgs s_l_ladder, defBody s_l_ladder, defScope s_l_ladder, [], []⟩
def d_l_line_of : He.DefD := ⟨("_law_line_of", none), "_law_line_of", "_law_line_of", defArgs s_l_line_of, defBody s_l_line_of, defScope s_l_line_of, [], []⟩
def d_l_great : He.DefD := ⟨("_law_great", none), "_law_great", "_law_great", defArgs s_l_great, defBody s_l_great, defScope s_l_great, [], []⟩
def d_l_some : He.DefD := ⟨("_law_some", none), "_law_some", "_law_some", defArgs s_l_some, defBody s_l_some, defScope s_l_some, [], []⟩
def d_l_give : He.DefD := ⟨("_law_give", none), "_law_give", "_law_give", defArgs s_l_give, defBody s_l_give, defScope s_l_give, [], []⟩
def d_l_scene : He.DefD := ⟨("_law_scene", none), "_law_scene", "_law_scene", defArgs s_l_scene, defBody s_l_scene, defScope s_l_scene, [], []⟩
def d_l_here : He.DefD := ⟨("_law_here", none), "_law_here", "_law_here", defArgs s_l_here, defBody s_l_here, defScope s_l_here, [], []⟩
def d_l_versions : He.DefD := ⟨("_law_versions", none), "_law_versions", "_law_versions", defArgs s_l_versions, defBody s_l_versions, defScope s_l_versions, [], []⟩
def d_Book_init : He.DefD := ⟨("Book", some "__init__"), "__init__", "Book.__init__", defArgs s_Book_init, defBody s_Book_init, defScope s_Book_init, [], []⟩
def d_is_sign : He.DefD := ⟨("is_sign", none), "is_sign", "is_sign", defArgs s_is_sign, defBody s_is_sign, defScope s_is_sign, [], []⟩
def d_is_text : He.DefD := ⟨("is_text", none), "is_text", "is_text", defArgs s_is_text, defBody s_is_text, defScope s_is_text, [], []⟩
def d_is_row : He.DefD := ⟨("is_row", none), "is_row", "is_row", defArgs s_is_row, defBody s_is_row, defScope s_is_row, [], []⟩
def d_is_rows : He.DefD := ⟨("is_rows", none), "is_rows", "is_rows", defArgs s_is_rows, defBody s_is_rows, defScope s_is_rows, [], []⟩
def d_is_pair : He.DefD := ⟨("is_pair", none), "is_pair", "is_pair", defArgs s_is_pair, defBody s_is_pair, defScope s_is_pair, [], []⟩
def d_is_label : He.DefD := ⟨("is_label", none), "is_label", "is_label", defArgs s_is_label, defBody s_is_label, defScope s_is_label, [], []⟩
def d_is_int : He.DefD := ⟨("is_int", none), "is_int", "is_int", defArgs s_is_int, defBody s_is_int, defScope s_is_int, [], []⟩
def d_is_entry : He.DefD := ⟨("is_entry", none), "is_entry", "is_entry", defArgs s_is_entry, defBody s_is_entry, defScope s_is_entry, [], []⟩
def d_rises : He.DefD := ⟨("rises", none), "rises", "rises", defArgs s_rises, defBody s_rises, defScope s_rises, [], []⟩
def d_is_entries : He.DefD := ⟨("is_entries", none), "is_entries", "is_entries", defArgs s_is_entries, defBody s_is_entries, defScope s_is_entries, [], []⟩
def d_is_ints : He.DefD := ⟨("is_ints", none), "is_ints", "is_ints", defArgs s_is_ints, defBody s_is_ints, defScope s_is_ints, [], []⟩
def d_is_rising : He.DefD := ⟨("is_rising", none), "is_rising", "is_rising", defArgs s_is_rising, defBody s_is_rising, defScope s_is_rising, [], []⟩
def d_is_stamp : He.DefD := ⟨("is_stamp", none), "is_stamp", "is_stamp", defArgs s_is_stamp, defBody s_is_stamp, defScope s_is_stamp, [], []⟩
def d_is_version_form : He.DefD := ⟨("is_version_form", none), "is_version_form", "is_version_form", defArgs s_is_version_form, defBody s_is_version_form, defScope s_is_version_form, [], []⟩
def d_is_content_form : He.DefD := ⟨("is_content_form", none), "is_content_form", "is_content_form", defArgs s_is_content_form, defBody s_is_content_form, defScope s_is_content_form, [], []⟩
def d_Book_is_name : He.DefD := ⟨("Book", some "is_name"), "is_name", "Book.is_name", defArgs s_Book_is_name, defBody s_Book_is_name, defScope s_Book_is_name, [], []⟩
def d_Book_has_kinds : He.DefD := ⟨("Book", some "has_kinds"), "has_kinds", "Book.has_kinds", defArgs s_Book_has_kinds, defBody s_Book_has_kinds, defScope s_Book_has_kinds, [], []⟩
def d_Book_depth : He.DefD := ⟨("Book", some "depth"), "depth", "Book.depth", defArgs s_Book_depth, defBody s_Book_depth, defScope s_Book_depth, [], []⟩
def d_Book_is_content : He.DefD := ⟨("Book", some "is_content"), "is_content", "Book.is_content", defArgs s_Book_is_content, defBody s_Book_is_content, defScope s_Book_is_content, [], []⟩
def d_Book_give_next : He.DefD := ⟨("Book", some "give_next"), "give_next", "Book.give_next", defArgs s_Book_give_next, defBody s_Book_give_next, defScope s_Book_give_next, [], []⟩
def d_Book_named : He.DefD := ⟨("Book", some "named"), "named", "Book.named", defArgs s_Book_named, defBody s_Book_named, defScope s_Book_named, [], []⟩
def d_l_book : He.DefD := ⟨("_law_book", none), "_law_book", "_law_book", defArgs s_l_book, defBody s_l_book, defScope s_l_book, [], []⟩
def d_Holding_inits : He.DefD := ⟨("Holding", some "__init__"), "__init__", "Holding.__init__", defArgs s_Holding_inits, defBody s_Holding_inits, defScope s_Holding_inits, [], []⟩
def d_Holding_holds : He.DefD := ⟨("Holding", some "holds"), "holds", "Holding.holds", defArgs s_Holding_holds, defBody s_Holding_holds, defScope s_Holding_holds, [], []⟩
def d_Book_thing : He.DefD := ⟨("Book", some "thing"), "thing", "Book.thing", defArgs s_Book_thing, defBody s_Book_thing, defScope s_Book_thing, [], []⟩
def d_Book_parents : He.DefD := ⟨("Book", some "parents"), "parents", "Book.parents", defArgs s_Book_parents, defBody s_Book_parents, defScope s_Book_parents, [], []⟩
def d_Holding_held_parents : He.DefD := ⟨("Holding", some "held_parents"), "held_parents", "Holding.held_parents", defArgs s_Holding_held_parents, defBody s_Holding_held_parents, defScope s_Holding_held_parents, [], []⟩
def d_spread : He.DefD := ⟨("spread", none), "spread", "spread", defArgs s_spread, defBody s_spread, defScope s_spread, [], []⟩
def d_followed : He.DefD := ⟨("followed", none), "followed", "followed", defArgs s_followed, defBody s_followed, defScope s_followed, [], []⟩
def d_Holding_has_parents : He.DefD := ⟨("Holding", some "has_parents"), "has_parents", "Holding.has_parents", defArgs s_Holding_has_parents, defBody s_Holding_has_parents, defScope s_Holding_has_parents, [], []⟩
def d_edges_of : He.DefD := ⟨("edges_of", none), "edges_of", "edges_of", defArgs s_edges_of, defBody s_edges_of, defScope s_edges_of, [], []⟩
def d_way : He.DefD := ⟨("way", none), "way", "way", defArgs s_way, defBody s_way, defScope s_way, [], []⟩
def d_l_parents : He.DefD := ⟨("_law_parents", none), "_law_parents", "_law_parents", defArgs s_l_parents, defBody s_l_parents, defScope s_l_parents, [], []⟩
def d_l_lower : He.DefD := ⟨("_law_lower", none), "_law_lower", "_law_lower", defArgs s_l_lower, defBody s_l_lower, defScope s_l_lower, [], []⟩
def d_l_int : He.DefD := ⟨("_law_int", none), "_law_int", "_law_int", defArgs s_l_int, defBody s_l_int, defScope s_l_int, [], []⟩
def d_l_same : He.DefD := ⟨("_law_same", none), "_law_same", "_law_same", defArgs s_l_same, defBody s_l_same, defScope s_l_same, [], []⟩
def d_l_is_walk : He.DefD := ⟨("_law_is_walk", none), "_law_is_walk", "_law_is_walk", defArgs s_l_is_walk, defBody s_l_is_walk, defScope s_l_is_walk, [], []⟩
def d_l_brims : He.DefD := ⟨("_law_brims", none), "_law_brims", "_law_brims", defArgs s_l_brims, defBody s_l_brims, defScope s_l_brims, [], []⟩
def d_l_way_told : He.DefD := ⟨("_law_way_told", none), "_law_way_told", "_law_way_told", defArgs s_l_way_told, defBody s_l_way_told, defScope s_l_way_told, [], []⟩
def d_Book_kind : He.DefD := ⟨("Book", some "kind"), "kind", "Book.kind", defArgs s_Book_kind, defBody s_Book_kind, defScope s_Book_kind, [], []⟩
def d_Holding_holds_version : He.DefD := ⟨("Holding", some "holds_version"), "holds_version", "Holding.holds_version", defArgs s_Holding_holds_version, defBody s_Holding_holds_version, defScope s_Holding_holds_version, [], []⟩
def d_is_walk_back : He.DefD := ⟨("is_walk_back", none), "is_walk_back", "is_walk_back", defArgs s_is_walk_back, defBody s_is_walk_back, defScope s_is_walk_back, [], []⟩
def d_is_ahead : He.DefD := ⟨("is_ahead", none), "is_ahead", "is_ahead", defArgs s_is_ahead, defBody s_is_ahead, defScope s_is_ahead, [], []⟩
def d_is_apart : He.DefD := ⟨("is_apart", none), "is_apart", "is_apart", defArgs s_is_apart, defBody s_is_apart, defScope s_is_apart, [], []⟩
def d_right_way : He.DefD := ⟨("right_way", none), "right_way", "right_way", defArgs s_right_way, defBody s_right_way, defScope s_right_way, [], []⟩
def d_l_two_views : He.DefD := ⟨("_law_two_views", none), "_law_two_views", "_law_two_views", defArgs s_l_two_views, defBody s_l_two_views, defScope s_l_two_views, [], []⟩
def d_law : He.DefD := ⟨("law", none), "law", "law", defArgs s_law, defBody s_law, defScope s_law, [], []⟩
def fn : List He.DefD := [d_l_deck, d_l_mixed, d_l_draw, d_l_ladder, d_l_line_of, d_l_great, d_l_some, d_l_give, d_l_scene, d_l_here, d_l_versions, d_Book_init, d_is_sign, d_is_text, d_is_row, d_is_rows, d_is_pair, d_is_label, d_is_int, d_is_entry, d_rises, d_is_entries, d_is_ints, d_is_rising, d_is_stamp, d_is_version_form, d_is_content_form, d_Book_is_name, d_Book_has_kinds, d_Book_depth, d_Book_is_content, d_Book_give_next, d_Book_named, d_l_book, d_Holding_inits, d_Holding_holds, d_Book_thing, d_Book_parents, d_Holding_held_parents, d_spread, d_followed, d_Holding_has_parents, d_edges_of, d_way, d_l_parents, d_l_lower, d_l_int, d_l_same, d_l_is_walk, d_l_brims, d_l_way_told, d_Book_kind, d_Holding_holds_version, d_is_walk_back, d_is_ahead, d_is_apart, d_right_way, d_l_two_views, d_law]
def fa : List He.Fa := [.glo "_law_deck", .glo "_law_mixed", .glo "_law_draw", .glo "_law_ladder", .glo "_law_line_of", .glo "_law_great", .glo "_law_some", .glo "_law_give", .glo "_law_scene", .glo "_law_here", .glo "_law_versions", .glo "is_sign", .glo "is_text", .glo "is_row", .glo "is_rows", .glo "is_pair", .glo "is_label", .glo "is_int", .glo "is_entry", .glo "rises", .glo "is_entries", .glo "is_ints", .glo "is_rising", .glo "is_stamp", .glo "is_version_form", .glo "is_content_form", .glo "_law_book", .glo "spread", .glo "followed", .glo "edges_of", .glo "way", .glo "_law_parents", .glo "_law_lower", .glo "_law_int", .glo "_law_same", .glo "_law_is_walk", .glo "_law_brims", .glo "_law_way_told", .glo "is_walk_back", .glo "is_ahead", .glo "is_apart", .glo "right_way", .glo "_law_two_views", .glo "law", .free "all", .free "bool", .free "dict", .free "int", .free "isinstance", .free "len", .free "list", .free "max", .free "min", .free "ord", .free "range", .free "set", .free "sorted", .free "str", .free "tuple", .free "zip", .int "ALL" 400, .int "BARRED_SIGN" 37, .int "DEEPEST" 8, .int "LAST_STAMP" 1000000000000000000, .int "LONGEST_LABEL" 8, .int "MOST" 400, .int "MOST_ENTRIES" 20, .int "MOST_PARENTS" 4, .int "MOST_ROWS" 40, .int "MOST_SIGNS" 40, .glo "Book", .glo "Holding", .cls "Book", .noat "Book" "contents", .noat "Book" "depths", .noat "Book" "given", .meth "Book" "is_name", .meth "Book" "has_kinds", .meth "Book" "depth", .meth "Book" "is_content", .meth "Book" "give_next", .meth "Book" "named", .meth "Book" "thing", .meth "Book" "parents", .meth "Book" "kind", .mkr "Book", .cls "Holding", .noat "Holding" "book", .noat "Holding" "inside", .noat "Holding" "ordered", .meth "Holding" "holds", .meth "Holding" "held_parents", .meth "Holding" "has_parents", .meth "Holding" "holds_version", .mkr "Holding"]
abbrev R : PySem.W.OpenRow := PySem.W.OpenLaw.row PySem.Challenge.rw_fewasks_k52_whole_ways
abbrev hk : PySem.W.Hook := He.hookD 4 fa fn
def ob (s : PySem.W.SharedT) : He.AlD := He.obsDG 4 fa fn (HandSHeadRun.getT s)
theorem ob_eq (s : PySem.W.SharedT) : ob s = hk.obs s.abs := He.obsDG_eq (HandSHeadRun.getT_eq s)
def loose : List Str := [("_wall" : Str), ("is_int" : Str), ("is_text" : Str), ("is_sign" : Str), ("is_label" : Str), ("is_pair" : Str), ("rises" : Str), ("is_ints" : Str), ("is_rising" : Str), ("is_row" : Str), ("is_rows" : Str), ("is_entry" : Str), ("is_entries" : Str), ("is_stamp" : Str), ("is_version_form" : Str), ("is_content_form" : Str), ("HouseError" : Str), ("NoThing" : Str), ("NoName" : Str), ("TooMany" : Str), ("followed" : Str), ("spread" : Str), ("is_walk_back" : Str), ("right_way" : Str), ("is_ahead" : Str), ("is_apart" : Str), ("edges_of" : Str), ("way" : Str), ("Book" : Str), ("Holding" : Str), ("_law_deck" : Str), ("_law_mixed" : Str), ("_law_draw" : Str), ("_law_give" : Str), ("_law_some" : Str), ("_law_book" : Str), ("_law_int" : Str), ("_law_same" : Str), ("_law_parents" : Str), ("_law_lower" : Str), ("_law_brims" : Str), ("_law_is_walk" : Str), ("_law_way_told" : Str), ("_law_here" : Str), ("_law_line_of" : Str), ("_law_ladder" : Str), ("_law_scene" : Str), ("_law_versions" : Str), ("_law_great" : Str), ("_law_two_views" : Str), ("ALL" : Str), ("BARRED_SIGN" : Str), ("DEEPEST" : Str), ("LAST_STAMP" : Str), ("LONGEST_LABEL" : Str), ("MOST" : Str), ("MOST_ENTRIES" : Str), ("MOST_PARENTS" : Str), ("MOST_ROWS" : Str), ("MOST_SIGNS" : Str)]
theorem run (w : World) : HandSHeadRun.RunEq R (PySem.W.view R.prog [68]) hk ob 9000 loose w := by
  intro os
  kernel_rfl
theorem facts {P : Program} {w : World} {K : PySem.W.Frag} {h : Heap} {mg : Str → Option Value} {f : Addr} (X : K.In h) (G : h.Ns mainGlobals mg) (hfa : mg ("law" : Str) = some (.ref f)) (c : He.SaysD fa fn K) :
    ∃ fd : FuncData, (∀ (s : Shared) (v : Value), BindsTo s fd ⟨[v], []⟩ [("_law_script", v)]) ∧ ∀ base : Heap, K.In base → base.Ns mainGlobals mg → FnOk P w K mg base CX0 11 f fd ["_law_script"] (sp_law K) := by
  obtain ⟨fd0, F0⟩ := c.def_ 0 (d := d_l_deck) rfl
  obtain ⟨fd1, F1⟩ := c.def_ 1 (d := d_l_mixed) rfl
  obtain ⟨fd2, F2⟩ := c.def_ 2 (d := d_l_draw) rfl
  obtain ⟨fd3, F3⟩ := c.def_ 3 (d := d_l_ladder) rfl
  obtain ⟨fd4, F4⟩ := c.def_ 4 (d := d_l_line_of) rfl
  obtain ⟨fd5, F5⟩ := c.def_ 5 (d := d_l_great) rfl
  obtain ⟨fd6, F6⟩ := c.def_ 6 (d := d_l_some) rfl
  obtain ⟨fd7, F7⟩ := c.def_ 7 (d := d_l_give) rfl
  obtain ⟨fd8, F8⟩ := c.def_ 8 (d := d_l_scene) rfl
  obtain ⟨fd9, F9⟩ := c.def_ 9 (d := d_l_here) rfl
  obtain ⟨fd10, F10⟩ := c.def_ 10 (d := d_l_versions) rfl
  obtain ⟨fd11, F11⟩ := c.def_ 11 (d := d_Book_init) rfl
  obtain ⟨fd12, F12⟩ := c.def_ 12 (d := d_is_sign) rfl
  obtain ⟨fd13, F13⟩ := c.def_ 13 (d := d_is_text) rfl
  obtain ⟨fd14, F14⟩ := c.def_ 14 (d := d_is_row) rfl
  obtain ⟨fd15, F15⟩ := c.def_ 15 (d := d_is_rows) rfl
  obtain ⟨fd16, F16⟩ := c.def_ 16 (d := d_is_pair) rfl
  obtain ⟨fd17, F17⟩ := c.def_ 17 (d := d_is_label) rfl
  obtain ⟨fd18, F18⟩ := c.def_ 18 (d := d_is_int) rfl
  obtain ⟨fd19, F19⟩ := c.def_ 19 (d := d_is_entry) rfl
  obtain ⟨fd20, F20⟩ := c.def_ 20 (d := d_rises) rfl
  obtain ⟨fd21, F21⟩ := c.def_ 21 (d := d_is_entries) rfl
  obtain ⟨fd22, F22⟩ := c.def_ 22 (d := d_is_ints) rfl
  obtain ⟨fd23, F23⟩ := c.def_ 23 (d := d_is_rising) rfl
  obtain ⟨fd24, F24⟩ := c.def_ 24 (d := d_is_stamp) rfl
  obtain ⟨fd25, F25⟩ := c.def_ 25 (d := d_is_version_form) rfl
  obtain ⟨fd26, F26⟩ := c.def_ 26 (d := d_is_content_form) rfl
  obtain ⟨fd27, F27⟩ := c.def_ 27 (d := d_Book_is_name) rfl
  obtain ⟨fd28, F28⟩ := c.def_ 28 (d := d_Book_has_kinds) rfl
  obtain ⟨fd29, F29⟩ := c.def_ 29 (d := d_Book_depth) rfl
  obtain ⟨fd30, F30⟩ := c.def_ 30 (d := d_Book_is_content) rfl
  obtain ⟨fd31, F31⟩ := c.def_ 31 (d := d_Book_give_next) rfl
  obtain ⟨fd32, F32⟩ := c.def_ 32 (d := d_Book_named) rfl
  obtain ⟨fd33, F33⟩ := c.def_ 33 (d := d_l_book) rfl
  obtain ⟨fd34, F34⟩ := c.def_ 34 (d := d_Holding_inits) rfl
  obtain ⟨fd35, F35⟩ := c.def_ 35 (d := d_Holding_holds) rfl
  obtain ⟨fd36, F36⟩ := c.def_ 36 (d := d_Book_thing) rfl
  obtain ⟨fd37, F37⟩ := c.def_ 37 (d := d_Book_parents) rfl
  obtain ⟨fd38, F38⟩ := c.def_ 38 (d := d_Holding_held_parents) rfl
  obtain ⟨fd39, F39⟩ := c.def_ 39 (d := d_spread) rfl
  obtain ⟨fd40, F40⟩ := c.def_ 40 (d := d_followed) rfl
  obtain ⟨fd41, F41⟩ := c.def_ 41 (d := d_Holding_has_parents) rfl
  obtain ⟨fd42, F42⟩ := c.def_ 42 (d := d_edges_of) rfl
  obtain ⟨fd43, F43⟩ := c.def_ 43 (d := d_way) rfl
  obtain ⟨fd44, F44⟩ := c.def_ 44 (d := d_l_parents) rfl
  obtain ⟨fd45, F45⟩ := c.def_ 45 (d := d_l_lower) rfl
  obtain ⟨fd46, F46⟩ := c.def_ 46 (d := d_l_int) rfl
  obtain ⟨fd47, F47⟩ := c.def_ 47 (d := d_l_same) rfl
  obtain ⟨fd48, F48⟩ := c.def_ 48 (d := d_l_is_walk) rfl
  obtain ⟨fd49, F49⟩ := c.def_ 49 (d := d_l_brims) rfl
  obtain ⟨fd50, F50⟩ := c.def_ 50 (d := d_l_way_told) rfl
  obtain ⟨fd51, F51⟩ := c.def_ 51 (d := d_Book_kind) rfl
  obtain ⟨fd52, F52⟩ := c.def_ 52 (d := d_Holding_holds_version) rfl
  obtain ⟨fd53, F53⟩ := c.def_ 53 (d := d_is_walk_back) rfl
  obtain ⟨fd54, F54⟩ := c.def_ 54 (d := d_is_ahead) rfl
  obtain ⟨fd55, F55⟩ := c.def_ 55 (d := d_is_apart) rfl
  obtain ⟨fd56, F56⟩ := c.def_ 56 (d := d_right_way) rfl
  obtain ⟨fd57, F57⟩ := c.def_ 57 (d := d_l_two_views) rfl
  obtain ⟨fd58, F58⟩ := c.def_ 58 (d := d_law) rfl
  letI : HasW := ⟨w⟩
  have e := hfa.symm.trans (He.glo_ok X G (c.fact 43 (f := .glo "law") rfl))
  cases e
  have b := FunD.bindsA (ps := ["_law_script"]) F58 fun _ _ _ _ _ _ us hl => match us, hl with | [_], _ => rfl
  exact ⟨fd58, fun s v => b s [v] rfl, fun base _ _ => ok_law (⟨fd0, F0, (He.glo_ok X G (c.fact 0 (f := .glo "_law_deck") rfl)), fd1, F1, (He.glo_ok X G (c.fact 1 (f := .glo "_law_mixed") rfl)), fd2, F2, (He.glo_ok X G (c.fact 2 (f := .glo "_law_draw") rfl)), fd3, F3, (He.glo_ok X G (c.fact 3 (f := .glo "_law_ladder") rfl)), fd4, F4, (He.glo_ok X G (c.fact 4 (f := .glo "_law_line_of") rfl)), fd5, F5, (He.glo_ok X G (c.fact 5 (f := .glo "_law_great") rfl)), fd6, F6, (He.glo_ok X G (c.fact 6 (f := .glo "_law_some") rfl)), fd7, F7, (He.glo_ok X G (c.fact 7 (f := .glo "_law_give") rfl)), fd8, F8, (He.glo_ok X G (c.fact 8 (f := .glo "_law_scene") rfl)), fd9, F9, (He.glo_ok X G (c.fact 9 (f := .glo "_law_here") rfl)), fd10, F10, (He.glo_ok X G (c.fact 10 (f := .glo "_law_versions") rfl)), fd11, F11, fd12, F12, (He.glo_ok X G (c.fact 11 (f := .glo "is_sign") rfl)), fd13, F13, (He.glo_ok X G (c.fact 12 (f := .glo "is_text") rfl)), fd14, F14, (He.glo_ok X G (c.fact 13 (f := .glo "is_row") rfl)), fd15, F15, (He.glo_ok X G (c.fact 14 (f := .glo "is_rows") rfl)), fd16, F16, (He.glo_ok X G (c.fact 15 (f := .glo "is_pair") rfl)), fd17, F17, (He.glo_ok X G (c.fact 16 (f := .glo "is_label") rfl)), fd18, F18, (He.glo_ok X G (c.fact 17 (f := .glo "is_int") rfl)), fd19, F19, (He.glo_ok X G (c.fact 18 (f := .glo "is_entry") rfl)), fd20, F20, (He.glo_ok X G (c.fact 19 (f := .glo "rises") rfl)), fd21, F21, (He.glo_ok X G (c.fact 20 (f := .glo "is_entries") rfl)), fd22, F22, (He.glo_ok X G (c.fact 21 (f := .glo "is_ints") rfl)), fd23, F23, (He.glo_ok X G (c.fact 22 (f := .glo "is_rising") rfl)), fd24, F24, (He.glo_ok X G (c.fact 23 (f := .glo "is_stamp") rfl)), fd25, F25, (He.glo_ok X G (c.fact 24 (f := .glo "is_version_form") rfl)), fd26, F26, (He.glo_ok X G (c.fact 25 (f := .glo "is_content_form") rfl)), fd27, F27, fd28, F28, fd29, F29, fd30, F30, fd31, F31, fd32, F32, fd33, F33, (He.glo_ok X G (c.fact 26 (f := .glo "_law_book") rfl)), fd34, F34, fd35, F35, fd36, F36, fd37, F37, fd38, F38, fd39, F39, (He.glo_ok X G (c.fact 27 (f := .glo "spread") rfl)), fd40, F40, (He.glo_ok X G (c.fact 28 (f := .glo "followed") rfl)), fd41, F41, fd42, F42, (He.glo_ok X G (c.fact 29 (f := .glo "edges_of") rfl)), fd43, F43, (He.glo_ok X G (c.fact 30 (f := .glo "way") rfl)), fd44, F44, (He.glo_ok X G (c.fact 31 (f := .glo "_law_parents") rfl)), fd45, F45, (He.glo_ok X G (c.fact 32 (f := .glo "_law_lower") rfl)), fd46, F46, (He.glo_ok X G (c.fact 33 (f := .glo "_law_int") rfl)), fd47, F47, (He.glo_ok X G (c.fact 34 (f := .glo "_law_same") rfl)), fd48, F48, (He.glo_ok X G (c.fact 35 (f := .glo "_law_is_walk") rfl)), fd49, F49, (He.glo_ok X G (c.fact 36 (f := .glo "_law_brims") rfl)), fd50, F50, (He.glo_ok X G (c.fact 37 (f := .glo "_law_way_told") rfl)), fd51, F51, fd52, F52, fd53, F53, (He.glo_ok X G (c.fact 38 (f := .glo "is_walk_back") rfl)), fd54, F54, (He.glo_ok X G (c.fact 39 (f := .glo "is_ahead") rfl)), fd55, F55, (He.glo_ok X G (c.fact 40 (f := .glo "is_apart") rfl)), fd56, F56, (He.glo_ok X G (c.fact 41 (f := .glo "right_way") rfl)), fd57, F57, (He.glo_ok X G (c.fact 42 (f := .glo "_law_two_views") rfl)), fd58, F58, (He.free_ok X G (c.fact 44 (f := .free "all") rfl)), (He.free_ok X G (c.fact 45 (f := .free "bool") rfl)), (He.free_ok X G (c.fact 46 (f := .free "dict") rfl)), (He.free_ok X G (c.fact 47 (f := .free "int") rfl)), (He.free_ok X G (c.fact 48 (f := .free "isinstance") rfl)), (He.free_ok X G (c.fact 49 (f := .free "len") rfl)), (He.free_ok X G (c.fact 50 (f := .free "list") rfl)), (He.free_ok X G (c.fact 51 (f := .free "max") rfl)), (He.free_ok X G (c.fact 52 (f := .free "min") rfl)), (He.free_ok X G (c.fact 53 (f := .free "ord") rfl)), (He.free_ok X G (c.fact 54 (f := .free "range") rfl)), (He.free_ok X G (c.fact 55 (f := .free "set") rfl)), (He.free_ok X G (c.fact 56 (f := .free "sorted") rfl)), (He.free_ok X G (c.fact 57 (f := .free "str") rfl)), (He.free_ok X G (c.fact 58 (f := .free "tuple") rfl)), (He.free_ok X G (c.fact 59 (f := .free "zip") rfl)), (He.int_ok X G (c.fact 60 (f := .int "ALL" 400) rfl)), (He.int_ok X G (c.fact 61 (f := .int "BARRED_SIGN" 37) rfl)), (He.int_ok X G (c.fact 62 (f := .int "DEEPEST" 8) rfl)), (He.int_ok X G (c.fact 63 (f := .int "LAST_STAMP" 1000000000000000000) rfl)), (He.int_ok X G (c.fact 64 (f := .int "LONGEST_LABEL" 8) rfl)), (He.int_ok X G (c.fact 65 (f := .int "MOST" 400) rfl)), (He.int_ok X G (c.fact 66 (f := .int "MOST_ENTRIES" 20) rfl)), (He.int_ok X G (c.fact 67 (f := .int "MOST_PARENTS" 4) rfl)), (He.int_ok X G (c.fact 68 (f := .int "MOST_ROWS" 40) rfl)), (He.int_ok X G (c.fact 69 (f := .int "MOST_SIGNS" 40) rfl)), (He.glo_ok X G (c.fact 70 (f := .glo "Book") rfl)), (He.glo_ok X G (c.fact 71 (f := .glo "Holding") rfl)), (He.cls_ok (c.fact 72 (f := .cls "Book") rfl)), (He.noat_ok (c.fact 73 (f := .noat "Book" "contents") rfl)), (He.noat_ok (c.fact 74 (f := .noat "Book" "depths") rfl)), (He.noat_ok (c.fact 75 (f := .noat "Book" "given") rfl)), (He.meth_ok (c.fact 76 (f := .meth "Book" "is_name") rfl)), (He.meth_ok (c.fact 77 (f := .meth "Book" "has_kinds") rfl)), (He.meth_ok (c.fact 78 (f := .meth "Book" "depth") rfl)), (He.meth_ok (c.fact 79 (f := .meth "Book" "is_content") rfl)), (He.meth_ok (c.fact 80 (f := .meth "Book" "give_next") rfl)), (He.meth_ok (c.fact 81 (f := .meth "Book" "named") rfl)), (He.meth_ok (c.fact 82 (f := .meth "Book" "thing") rfl)), (He.meth_ok (c.fact 83 (f := .meth "Book" "parents") rfl)), (He.meth_ok (c.fact 84 (f := .meth "Book" "kind") rfl)), (He.mkr_ok (c.fact 85 (f := .mkr "Book") rfl)), (He.cls_ok (c.fact 86 (f := .cls "Holding") rfl)), (He.noat_ok (c.fact 87 (f := .noat "Holding" "book") rfl)), (He.noat_ok (c.fact 88 (f := .noat "Holding" "inside") rfl)), (He.noat_ok (c.fact 89 (f := .noat "Holding" "ordered") rfl)), (He.meth_ok (c.fact 90 (f := .meth "Holding" "holds") rfl)), (He.meth_ok (c.fact 91 (f := .meth "Holding" "held_parents") rfl)), (He.meth_ok (c.fact 92 (f := .meth "Holding" "has_parents") rfl)), (He.meth_ok (c.fact 93 (f := .meth "Holding" "holds_version") rfl)), (He.mkr_ok (c.fact 94 (f := .mkr "Holding") rfl))⟩ : Tx K mg)⟩
end K52
open PySem PySem.W PySem.Calls PyProof.Rows
set_option maxRecDepth 100000 in
set_option maxHeartbeats 0 in
theorem PySem.Challenge.cw_fewasks_k52_whole_ways_holds : PySem.Challenge.rw_fewasks_k52_whole_ways.Holds := by
  w_on; o_law
  refine HandSHeadRun.head_any (r := OpenLaw.row PySem.Challenge.rw_fewasks_k52_whole_ways) (q := view (OpenLaw.row PySem.Challenge.rw_fewasks_k52_whole_ways).prog [68]) (H := K52.hk) (ob := K52.ob) (M := 9000) (loose := K52.loose) (d := HandSHeadRun.topDef (OpenLaw.row PySem.Challenge.rw_fewasks_k52_whole_ways).prog 68) (kwd := []) K52.ob_eq
    (by kernel_rfl) (fun s => by kernel_rfl) K52.run (by kernel_rfl) (by kernel_rfl) (by kernel_rfl) (by rfl) (by first | assumption | decide +kernel) (by decide +kernel) ⟨rfl, rfl, rfl, rfl, rfl, by decide +kernel⟩ ?hw ?hc
  case hw => w_witness2
  case hc =>
    refine L2.walk_ofE (l := PySem.Challenge.rw_fewasks_k52_whole_ways) (n := 63) (k := 11) (x := "_law_script") (CX := L2.CX0) rfl (by decide) (by kernel_rfl) ⟨rfl, by decide, by decide⟩ ?F (fun _ _ _ _ z => z)
    intro w mg fa h Y G hmg0
    obtain ⟨K, KX, c⟩ := Y
    have hmg : mg ("law" : PySem.Str) = some (.ref fa) := by
      have e : (HandSHeadRun.topDef (OpenLaw.row PySem.Challenge.rw_fewasks_k52_whole_ways).prog 68).name = ("law" : PySem.Str) := by kernel_rfl
      rw [← e]
      exact hmg0
    obtain ⟨fd, hb, hF⟩ := K52.facts (P := (PySem.Challenge.rw_fewasks_k52_whole_ways).prog) (w := w) KX G hmg c
    exact ⟨K, fd, Fw.sp_law K, KX, hb, fun H a ns hl _ hS => ⟨a, ns, rfl, hS, hl, fun _ => rfl⟩, hF⟩
