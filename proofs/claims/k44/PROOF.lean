import PyProof.Rows.All
import Wide.All
import OpenK.AllK
import Wide.FinOn
import KE.KStateDown
import HandS.ForMost
import HandS.IsInst
import HandS.Conv
import HandS.Wide
import HandS.WideBits
import HandS.SortInts
import HandS.DictComp
import HandS.Zip
import HandS.Rev
import HandS.Flow
import HandS.Steps
import HandS.Defaults
import HandS.Head0
import HandS.Head1
import HandS.Head2
import HandS.HeadEnd
import HandS.HeadHook1
import HandS.HeadHook2
import HandS.Walk
import HandS.Text
import HandS.TupAny
import KE.KeyNested
import HandS.Dict
import HandS.ExcOwn
import HandS.Call
import KE.DatumOrd
import HandS.SortKw
import HandS.DeepEq
import HandS.Strs
import HandS.TupSets
import HandS.DictTup
import KE.SortData
import HandS.Deep
import HandS.MakeKwOnly
import PySem.Challenge.RW_fewasks_k44_prices
set_option Elab.async false
set_option linter.all false
set_option maxRecDepth 100000
set_option maxHeartbeats 4000000
namespace Fw
open PySem L2 RZ RT
/-! ### readings by name -/
abbrev rAddI : R2 := rI0 fun i j => .int (i + j)
abbrev rSubI : R2 := rI0 fun i j => .int (i - j)
abbrev rMulI : R2 := rI CMul fun i j => .int (i * j)
abbrev rDivI : R2 := rI CDivW fun i j => .int (i / j)
abbrev rModI : R2 := rI (fun _ j => 0 < j) fun i j => .int (i % j)
abbrev rPowI : R2 := rI CPow fun i j => .int (i ^ j.toNat)
abbrev rLtI : R2 := rI0 fun i j => .bl (decide (i < j))
abbrev rLeI : R2 := rI0 fun i j => .bl (decide (i ≤ j))
abbrev rGtI : R2 := rI0 fun i j => .bl (decide (j < i))
abbrev rGeI : R2 := rI0 fun i j => .bl (decide (j ≤ i))
abbrev rNegI : V → Hp → VK → Prop := rU fun i => .int (-i)
abbrev fIsN : R2 := fun x y H Q => y = .non ∧ Q (.bl (decide (x = .non))) H
abbrev fNotN : R2 := fun x y H Q => y = .non ∧ Q (.bl (!decide (x = .non))) H
def fLen (K : PySem.W.Frag) : List V → Hp → VK → Prop := fun xs H Q => ∃ x n, xs = [x] ∧ LenV K x H n ∧ Q (.int n) H
def fListOf (K : PySem.W.Frag) : List V → Hp → VK → Prop := fun xs H Q => ∃ p ys, xs = [.ref p] ∧ (SqL K H p ys ∨ SqT K H p ys) ∧ ∀ l, H l = none → Q (.ref l) (upd H l (.lst ys))
def fTupleOf (K : PySem.W.Frag) : List V → Hp → VK → Prop := fun xs H Q => ∃ p ys, xs = [.ref p] ∧ ((SqL K H p ys ∧ ∀ l, H l = none → Q (.ref l) (upd H l (.tup ys))) ∨ (SqT K H p ys ∧ Q (.ref p) H))
def fMin2 : List V → Hp → VK → Prop := fun xs H Q => ∃ i j, xs = [.int i, .int j] ∧ Q (.int (if j < i then j else i)) H
def fMax2 : List V → Hp → VK → Prop := fun xs H Q => ∃ i j, xs = [.int i, .int j] ∧ Q (.int (if j > i then j else i)) H
/-! ### steps -/
section
variable {K : PySem.W.Frag} {H : Hp} {p : Addr} {xs : List V} {i : Int} {v : V} {Q : VK}
theorem ixL (h : H p = some (.lst xs)) (ha : atI xs i = some v) (q : Q v H) : rIx K (.ref p) (.int i) H Q := .inl ⟨p, xs, i, v, rfl, rfl, .inl (.inl h), ha, q⟩
theorem ixT (h : H p = some (.tup xs)) (ha : atI xs i = some v) (q : Q v H) : rIx K (.ref p) (.int i) H Q := .inr (.inl ⟨p, xs, i, v, rfl, rfl, .inl (.inl h), ha, q⟩)
theorem lenL {σ : L2.St} (h : H p = some (.lst xs)) (q : Q (.int xs.length) H) : tNil σ H fun ys H2 => fLen K (.ref p :: ys) H2 Q := ⟨_, _, rfl, .inl ⟨xs, .inl (.inl h), rfl⟩, q⟩
theorem lenT {σ : L2.St} (h : H p = some (.tup xs)) (q : Q (.int xs.length) H) : tNil σ H fun ys H2 => fLen K (.ref p :: ys) H2 Q := ⟨_, _, rfl, .inr ⟨xs, .inl (.inl h), rfl⟩, q⟩
theorem sqL (h : H p = some (.lst xs)) : SqL K H p xs := .inl (.inl h)
theorem sqT (h : H p = some (.tup xs)) : SqT K H p xs := .inl (.inl h)
end
theorem updS {H : Hp} {a : Addr} {o : HO} : upd H a o a = some o := upd_same
theorem updN {H : Hp} {a b : Addr} {o : HO} {r : Option HO} (n : b ≠ a) (h : H b = r) : upd H a o b = r := by rw [upd_ne n]; exact h
theorem small100 {m : Int} (h : m.natAbs ≤ 1000000000000000000) : m.natAbs < 2 ^ 100 := Nat.lt_of_le_of_lt h (by decide)
/-- the number in a slot, as a measure -/
def slotN (k : Nat) (σ : L2.St) : Nat := match σ[k]? with
  | some (some (V.int n)) => n.toNat
  | _ => 0
theorem getLastD_of {l : List V} (h : l ≠ []) : l.getLastD .non = l.getLast h := by
  rw [List.getLastD_eq_getLast?, List.getLast?_eq_getLast h]
  rfl
theorem pow18 : (10 : Int) ^ (18 : Int).toNat = 1000000000000000000 := by decide
/-! ### the deck of a law -/
/-- the deck at D: the cells at c, the turn at most t -/
def Dk (c D : Addr) (ns : List Int) (t : Nat) (H : Hp) : Prop := c ≠ D ∧ H c = some (.lst (ns.map V.int)) ∧ ns.length ≤ 63 ∧
  ∃ i n u : Int, H D = some (.lst [.ref c, .int i, .int n, .int u]) ∧ 0 ≤ i ∧ i ≤ ns.length ∧ 0 ≤ n ∧ 0 ≤ u ∧ u ≤ t
def sp_l_deck (K : PySem.W.Frag) : Sp := fun vs H Q _ => ∃ (a : Addr) (ns : List Int), vs = [.ref a] ∧ SqL K H a (ns.map V.int) ∧ ns.length ≤ 63 ∧
  ∀ c D H', Same H H' → H c = none → H D = none → Dk c D ns 0 H' → Q (.ref D) H'
def sp_l_mixed (_ : PySem.W.Frag) : Sp := fun vs H Q _ => ∃ (c t : Int), vs = [.int c, .int t] ∧ 0 ≤ t ∧ t ≤ 1000000000 ∧ ∀ v : Int, Q (.int v) H
def sp_l_draw (_ : PySem.W.Frag) : Sp := fun vs H Q _ => ∃ (c D : Addr) (ns : List Int) (t : Nat) (m : Int), vs = [.ref D, .int m] ∧ Dk c D ns t H ∧ t < 1000000000 ∧ 0 < m ∧ m.natAbs < 2 ^ 100 ∧
  ∀ (v : Int) (H' : Hp), 0 ≤ v → v < m → Dk c D ns (t + 1) H' → (∀ b, b ≠ D → H' b = H b) → Q (.int v) H'
def sp_l_int (_ : PySem.W.Frag) : Sp := fun vs H Q _ => ∃ i : Int, vs = [.int i] ∧ Q (.bl true) H
abbrev N_l_deck : List Str := ["_law_script"]
def t_l_deck (K : PySem.W.Frag) : TS := (tRet (tLst (tCons (tCB (fListOf K) (tCons (tVar 0) tNil)) (tCons (tC (.int 0)) (tCons (tC (.int 0)) (tCons (tC (.int 0)) tNil))))))
abbrev N_l_mixed : List Str := ["_law_cell", "_law_turn"]
def t_l_mixed (K : PySem.W.Frag) : TS := (tRet (tOp rModI (tOp rPowI (tOp rAddI (tOp rAddI (tOp rModI (tVar 0) (tC (.int 2147483629))) (tOp rMulI (tVar 1) (tC (.int 1000003)))) (tC (.int 17))) (tC (.int 5))) (tC (.int 2147483647))))
abbrev N_l_draw : List Str := ["_law_deck_here", "_law_many", "_law_cells", "_law_found", "_law_number"]
def t_l_draw_in (K : PySem.W.Frag) : TS := (tSeq (tIfS (tTest (tOp rLtI (tOp (rIx K) (tVar 2) (tOp rSubI (tOp (rIx K) (tVar 0) (tC (.int 1))) (tC (.int 1)))) (tOp rPowI (tC (.int 10)) (tC (.int 18))))) (tRet (tOp rModI (tCall (sp_l_mixed K) [] E0 (tCons (tOp (rIx K) (tVar 2) (tOp rSubI (tOp (rIx K) (tVar 0) (tC (.int 1))) (tC (.int 1)))) (tCons (tOp (rIx K) (tVar 0) (tC (.int 3))) tNil))) (tVar 1))) tNext)
    (tAsg (tOp (rIx K) (tVar 2) (tOp rSubI (tOp (rIx K) (tVar 0) (tC (.int 1))) (tC (.int 1)))) (gSub (tVar 0) (tC (.int 2)) rSetL)))
def t_l_draw_last (K : PySem.W.Frag) : TS := (tRet (tOp rModI (tCall (sp_l_mixed K) [] E0 (tCons (tVar 4) (tCons (tOp (rIx K) (tVar 0) (tC (.int 3))) tNil))) (tVar 1)))
def t_l_draw_rest (K : PySem.W.Frag) : TS := (tSeq (tIfS (tTest (tOp rGtI (tOp (rIx K) (tVar 0) (tC (.int 2))) (tC (.int 0)))) (tSeq (tAsg (tOp rModI (tOp (rIx K) (tVar 0) (tC (.int 2))) (tVar 1)) (gName 3))
    (tSeq (tAsg (tOp rDivI (tOp (rIx K) (tVar 0) (tC (.int 2))) (tVar 1)) (gSub (tVar 0) (tC (.int 2)) rSetL))
    (tRet (tVar 3)))) tNext)
    (tSeq (tAsg (tOp rMulI (tOp (rIx K) (tVar 0) (tC (.int 3))) (tC (.int 48271))) (gName 4))
    (tSeq (tIfS (tTest (tOp rGtI (tCB (fLen K) (tCons (tVar 2) tNil)) (tC (.int 0)))) (tAsg (tOp rAddI (tVar 4) (tOp rModI (tOp (rIx K) (tVar 2) (tOp rModI (tOp rMulI (tOp (rIx K) (tVar 0) (tC (.int 3))) (tC (.int 7))) (tCB (fLen K) (tCons (tVar 2) tNil)))) (tC (.int 2147483629)))) (gName 4)) tNext)
    (t_l_draw_last K))))
def t_l_draw_mid (K : PySem.W.Frag) : TS := (tSeq (tIfS (tAnd (tTest (tOp rEq (tOp (rIx K) (tVar 0) (tC (.int 2))) (tC (.int 0)))) (tTest (tOp rLtI (tOp (rIx K) (tVar 0) (tC (.int 1))) (tCB (fLen K) (tCons (tVar 2) tNil))))) (tSeq (tAsg (tOp rAddI (tOp (rIx K) (tVar 0) (tC (.int 1))) (tC (.int 1))) (gSub (tVar 0) (tC (.int 1)) rSetL))
    (t_l_draw_in K)) tNext)
    (t_l_draw_rest K))
def t_l_draw (K : PySem.W.Frag) : TS := (tSeq (tAsg (tOp (rIx K) (tVar 0) (tC (.int 0))) (gName 2))
    (tSeq (tAsg (tOp rAddI (tOp (rIx K) (tVar 0) (tC (.int 3))) (tC (.int 1))) (gSub (tVar 0) (tC (.int 3)) rSetL))
    (t_l_draw_mid K)))
abbrev N_l_int : List Str := ["_law_thing"]
def t_l_int (K : PySem.W.Frag) : TS := (tRet (tAndV (tCB (rIsi K) (tCons (tVar 0) (tCons (tC (.ty "int")) tNil))) (tNotV (tCB (rIsi K) (tCons (tVar 0) (tCons (tC (.ty "bool")) tNil))))))
theorem pure_l_deck {K : PySem.W.Frag} {vs : List V} {H : Hp} {Q : VK} {E : XK} (h : sp_l_deck K vs H Q E) : t_l_deck K { nx := fun _ H' => Q .non H', rt := Q } (start N_l_deck vs) H := by
  obtain ⟨a, ns, rfl, hS, hl, k⟩ := h
  refine ⟨_, rfl, a, _, rfl, .inl hS, fun c nc => ⟨by show (4 : Nat) ≤ sizeLine; decide, fun D nD => ?_⟩⟩
  have ncD : c ≠ D := fun e => by rw [← e, updS] at nD; cases nD
  have nD0 : H D = none := by rw [upd_ne ncD.symm] at nD; exact nD
  refine k c D _ (fun b o e => updN (ne_of_none e nD0) (updN (ne_of_none e nc) e)) nc nD0 ⟨ncD, updN ncD updS, hl, 0, 0, 0, updS, Int.le_refl _, by omega, Int.le_refl _, Int.le_refl _, Int.le_refl _⟩
theorem pure_l_mixed {K : PySem.W.Frag} {vs : List V} {H : Hp} {Q : VK} {E : XK} (h : sp_l_mixed K vs H Q E) : t_l_mixed K { nx := fun _ H' => Q .non H', rt := Q } (start N_l_mixed vs) H := by
  obtain ⟨c, t, rfl, h0, h1, k⟩ := h
  refine ⟨_, rfl, _, _, rfl, rfl, (by show (0 : Int) < 2147483629; decide), _, rfl, _, _, rfl, rfl, .inr ⟨by decide, by decide⟩, _, _, rfl, rfl, _, _, rfl, rfl, _, _, rfl, rfl, ⟨by decide, by decide, ?_⟩, _, _, rfl, rfl, (by show (0 : Int) < 2147483647; decide), k _⟩
  have := Int.emod_nonneg c (show (2147483629 : Int) ≠ 0 by decide)
  have := Int.emod_lt_of_pos c (show (0 : Int) < 2147483629 by decide)
  omega
theorem pure_l_int {K : PySem.W.Frag} {vs : List V} {H : Hp} {Q : VK} {E : XK} (h : sp_l_int K vs H Q E) : t_l_int K { nx := fun _ H' => Q .non H', rt := Q } (start N_l_int vs) H := by
  obtain ⟨i, rfl, k⟩ := h
  refine ⟨_, rfl, _, _, _, _, true, rfl, .ty _, .base (.int i), kit_ty (by decide +kernel), _, rfl, iteT ?_⟩
  refine ⟨_, rfl, _, _, _, _, false, rfl, .ty _, .base (.int i), kit_ty (by decide +kernel), _, rfl, k⟩
theorem pure_l_draw {K : PySem.W.Frag} {vs : List V} {H : Hp} {Q : VK} {E : XK} (h : sp_l_draw K vs H Q E) : t_l_draw K { nx := fun _ H' => Q .non H', rt := Q } (start N_l_draw vs) H := by
  obtain ⟨c, D, ns, t, m, rfl, ⟨ncD, hc, hl, i, n, u, hD, i0, i1, n0, u0, u1⟩, ht, m0, m1, k⟩ := h
  have cells : ∀ {j : Int}, 0 ≤ j → j < ns.length → ∃ z : Int, atI (ns.map V.int) j = some (.int z) := fun {j} h0 h1 => by
    obtain ⟨q, rfl⟩ := Int.eq_ofNat_of_zero_le h0
    have hq : q < ns.length := by omega
    exact ⟨ns[q], atI_nat (by rw [List.getElem?_map, List.getElem?_eq_getElem hq]; rfl)⟩
  -- the rest, from any i and n
  have rest : ∀ (i n : Int) (H2 : Hp) (z3 z4 : Option V), 0 ≤ i → i ≤ ns.length → 0 ≤ n → H2 D = some (.lst [.ref c, .int i, .int n, .int (u + 1)]) → H2 c = some (.lst (ns.map V.int)) → (∀ b, b ≠ D → H2 b = H b) →
      t_l_draw_rest K { nx := fun _ H' => Q .non H', rt := Q } [some (.ref D), some (.int m), some (.ref c), z3, z4] H2 := by
    intro i n H2 z3 z4 i0 i1 n0 hD2 hc2 fr2
    have mod0 : ∀ x : Int, 0 ≤ x % m := fun x => Int.emod_nonneg x (by omega)
    have mod1 : ∀ x : Int, x % m < m := fun x => Int.emod_lt_of_pos x m0
    refine ⟨_, rfl, ixL hD2 rfl ⟨_, _, rfl, rfl, _, rfl, ite2 (fun e => ?_) (fun e => ?_)⟩⟩
    · have hn : 0 < n := of_decide_eq_true e
      refine ⟨_, rfl, ixL hD2 rfl ⟨_, rfl, _, _, rfl, rfl, m0, ?_⟩⟩
      refine ⟨_, rfl, ixL hD2 rfl ⟨_, rfl, _, _, rfl, rfl, wide_div m0 m1 (by decide) (by decide), _, rfl, D, _, _, 2, rfl, rfl, hD2, rfl, ?_⟩⟩
      refine ⟨_, rfl, k _ _ (mod0 n) (mod1 n) ⟨ncD, updN ncD hc2, hl, i, n / m, u + 1, updS, i0, i1, Int.ediv_nonneg n0 (by omega), by omega, by omega⟩ fun b nb => (upd_ne nb).trans (fr2 b nb)⟩
    · refine ⟨_, rfl, ixL hD2 rfl ⟨_, _, rfl, rfl, .inr ⟨by decide, by decide⟩, ?_⟩⟩
      have last : ∀ (y : Int), t_l_draw_last K { nx := fun _ H' => Q .non H', rt := Q } [some (.ref D), some (.int m), some (.ref c), z3, some (.int y)] H2 := fun y => by
        refine ⟨_, rfl, _, rfl, ixL hD2 rfl ⟨y, u + 1, rfl, by omega, by omega, fun v => ?_⟩⟩
        refine ⟨_, rfl, _, _, rfl, rfl, m0, k _ _ (mod0 v) (mod1 v) ⟨ncD, hc2, hl, i, n, u + 1, hD2, i0, i1, n0, by omega, by omega⟩ fr2⟩
      refine ⟨_, rfl, lenL hc2 ⟨_, _, rfl, rfl, _, rfl, ite2 (fun e => ?_) (fun e => ?_)⟩⟩
      · have hn : 0 < ns.length := by
          have q : (0 : Int) < (ns.map V.int).length := of_decide_eq_true e
          rw [List.length_map] at q
          omega
        have hlen : ((ns.map V.int).length : Int) = ns.length := by rw [List.length_map]
        obtain ⟨z, hz⟩ := cells (j := (u + 1) * 7 % ((ns.map V.int).length : Int)) (Int.emod_nonneg _ (by omega)) (by rw [hlen]; exact Int.emod_lt_of_pos _ (by omega))
        refine ⟨_, rfl, _, rfl, _, rfl, ixL hD2 rfl ⟨_, _, rfl, rfl, .inr ⟨by decide, by decide⟩, _, rfl, lenL hc2 ⟨_, _, rfl, rfl, (by show (0 : Int) < ((ns.map V.int).length : Int); omega), ixL hc2 hz ⟨_, _, rfl, rfl, (by show (0 : Int) < 2147483629; decide), _, _, rfl, rfl, ?_⟩⟩⟩⟩
        exact last _
      · exact last _
  have mid : ∀ (H1 : Hp) (z3 z4 : Option V), H1 D = some (.lst [.ref c, .int i, .int n, .int (u + 1)]) → H1 c = some (.lst (ns.map V.int)) → (∀ b, b ≠ D → H1 b = H b) →
      t_l_draw_mid K { nx := fun _ H' => Q .non H', rt := Q } [some (.ref D), some (.int m), some (.ref c), z3, z4] H1 := by
    intro H1 z3 z4 hD1 hc1 fr1
    refine ⟨_, rfl, ixL hD1 rfl ⟨rfl, _, rfl, ?_⟩⟩
    refine ite2 (fun e => ?_) (fun e => iteF (rest i n H1 _ _ i0 i1 n0 hD1 hc1 fr1))
    refine ⟨_, rfl, ixL hD1 rfl ⟨_, rfl, lenL hc1 ⟨_, _, rfl, rfl, _, rfl, ite2 (fun e2 => ?_) (fun e2 => rest i n H1 _ _ i0 i1 n0 hD1 hc1 fr1)⟩⟩⟩
    have hi : i < ns.length := by
      have q : i < ((ns.map V.int).length : Int) := of_decide_eq_true e2
      rw [List.length_map] at q
      exact q
    obtain ⟨z, hz⟩ := cells i0 hi
    have ei : i + 1 - 1 = i := by omega
    have inn : ∀ (H2 : Hp), H2 D = some (.lst [.ref c, .int (i + 1), .int n, .int (u + 1)]) → H2 c = some (.lst (ns.map V.int)) → (∀ b, b ≠ D → H2 b = H b) →
        t_l_draw_in K { nx := t_l_draw_rest K { nx := fun _ H' => Q .non H', rt := Q }, rt := Q } [some (.ref D), some (.int m), some (.ref c), z3, z4] H2 := by
      intro H2 hD2 hc2 fr2
      refine ⟨_, rfl, _, rfl, ixL hD2 rfl ⟨_, _, rfl, rfl, ixL hc2 (by rw [ei]; exact hz) ⟨_, _, rfl, rfl, ⟨by decide, by decide, by decide⟩, _, _, rfl, rfl, _, rfl, ite2 (fun e3 => ?_) (fun e3 => ?_)⟩⟩⟩
      · refine ⟨_, rfl, _, rfl, ixL hD2 rfl ⟨_, _, rfl, rfl, ixL hc2 (by rw [ei]; exact hz) ⟨_, rfl, ixL hD2 rfl ⟨z, u + 1, rfl, by omega, by omega, fun v => ?_⟩⟩⟩⟩
        refine ⟨_, rfl, _, _, rfl, rfl, m0, k _ _ (Int.emod_nonneg v (by omega)) (Int.emod_lt_of_pos v m0) ⟨ncD, hc2, hl, i + 1, n, u + 1, hD2, by omega, by omega, n0, by omega, by omega⟩ fr2⟩
      · have hz0 : ¬ z < 1000000000000000000 := fun q => e3 (decide_eq_true (by rw [pow18]; exact q))
        refine ⟨_, rfl, _, rfl, ixL hD2 rfl ⟨_, _, rfl, rfl, ixL hc2 (by rw [ei]; exact hz) ⟨_, rfl, D, _, _, 2, rfl, rfl, hD2, rfl, ?_⟩⟩⟩
        exact rest (i + 1) z _ _ _ (by omega) (by omega) (by omega) updS (updN ncD hc2) fun b nb => updN nb (fr2 b nb)
    refine ⟨_, rfl, ixL hD1 rfl ⟨_, _, rfl, rfl, _, rfl, D, _, _, 1, rfl, rfl, hD1, rfl, ?_⟩⟩
    exact inn _ updS (updN ncD hc1) fun b nb => updN nb (fr1 b nb)
  -- cells = deck[0]; deck[3] = deck[3] + 1
  refine ⟨_, rfl, ixL hD rfl ?_⟩
  refine ⟨_, rfl, ixL hD rfl ⟨_, _, rfl, rfl, _, rfl, D, _, _, 3, rfl, rfl, hD, rfl, ?_⟩⟩
  exact mid _ _ _ updS (updN ncD hc) fun b nb => upd_ne nb
/-! ### the same data, kind for kind -/
/-- two values of the same data, at most n deep -/
def SameV (H : Hp) : Nat → V → V → Prop
  | 0, _, _ => False
  | n + 1, x, y => (x = y ∧ (x = .non ∨ (∃ i, x = .int i) ∨ (∃ b, x = .bl b) ∨ ∃ z, x = .str z)) ∨
    ∃ p q xs ys, x = .ref p ∧ y = .ref q ∧ ((H p = some (.lst xs) ∧ H q = some (.lst ys)) ∨ (H p = some (.tup xs) ∧ H q = some (.tup ys))) ∧ xs.length = ys.length ∧ xs.length ≤ 100000 ∧
      ∀ (i : Nat) (a b : V), xs[i]? = some a → ys[i]? = some b → SameV H n a b
theorem SameV.int {H : Hp} {n : Nat} {i j : Int} (e : i = j) : SameV H (n + 1) (.int i) (.int j) := Or.inl ⟨by rw [e], .inr (.inl ⟨i, rfl⟩)⟩
theorem SameV.bl {H : Hp} {n : Nat} {i j : Bool} (e : i = j) : SameV H (n + 1) (.bl i) (.bl j) := Or.inl ⟨by rw [e], .inr (.inr (.inl ⟨i, rfl⟩))⟩
theorem SameV.tup {H : Hp} {n : Nat} {p q : Addr} {xs ys : List V} (h1 : H p = some (.tup xs)) (h2 : H q = some (.tup ys)) (hl : xs.length = ys.length) (hz : xs.length ≤ 100000) (h : ∀ (i : Nat) (a b : V), xs[i]? = some a → ys[i]? = some b → SameV H n a b) : SameV H (n + 1) (.ref p) (.ref q) :=
  Or.inr ⟨p, q, xs, ys, rfl, rfl, .inr ⟨h1, h2⟩, hl, hz, h⟩
theorem SameV.lst {H : Hp} {n : Nat} {p q : Addr} {xs ys : List V} (h1 : H p = some (.lst xs)) (h2 : H q = some (.lst ys)) (hl : xs.length = ys.length) (hz : xs.length ≤ 100000) (h : ∀ (i : Nat) (a b : V), xs[i]? = some a → ys[i]? = some b → SameV H n a b) : SameV H (n + 1) (.ref p) (.ref q) :=
  Or.inr ⟨p, q, xs, ys, rfl, rfl, .inl ⟨h1, h2⟩, hl, hz, h⟩
theorem SameV.ints {H : Hp} {n : Nat} {ns : List Int} : ∀ (i : Nat) (a b : V), (ns.map V.int)[i]? = some a → (ns.map V.int)[i]? = some b → SameV H (n + 1) a b := fun i a b h1 h2 => by
  have e : a = b := Option.some.inj (h1.symm.trans h2)
  rw [List.getElem?_map] at h1
  cases q : ns[i]? with
  | none => rw [q] at h1; cases h1
  | some z => rw [q] at h1; exact Or.inl ⟨e, .inr (.inl ⟨z, (Option.some.inj h1).symm⟩)⟩
def sp_sameN (_ : PySem.W.Frag) (n : Nat) : Sp := fun vs H Q _ => ∃ x y, vs = [x, y] ∧ SameV H n x y ∧ Q (.bl true) H
abbrev sp_l_same (K : PySem.W.Frag) : Sp := sp_sameN K 6
abbrev N_l_same : List Str := ["_law_found", "_law_due", "_law_k"]
def t_l_same_loop (K : PySem.W.Frag) (n : Nat) : TS := (tSeq (tIfS (tTest (tOp rNe (tCB (fLen K) (tCons (tVar 0) tNil)) (tCB (fLen K) (tCons (tVar 1) tNil)))) (tRet (tC (.bl false))) tNext)
    (tSeq (tFor (iRng1 (tCons (tCB (fLen K) (tCons (tVar 1) tNil)) tNil)) (gName 2) (tIfS (tNot (tB (tCall (sp_sameN K n) [] E0 (tCons (tOp (rIx K) (tVar 0) (tVar 2)) (tCons (tOp (rIx K) (tVar 1) (tVar 2)) tNil))))) (tRet (tC (.bl false))) tNext))
    (tRet (tC (.bl true)))))
def t_l_same_tail (K : PySem.W.Frag) (n : Nat) : TS := (tSeq (tIfS (tB (tCB (rIsi K) (tCons (tVar 1) (tCons (tC (.ty "bool")) tNil)))) (tRet (tAndV (tCB (rIsi K) (tCons (tVar 0) (tCons (tC (.ty "bool")) tNil))) (tOp rEq (tVar 0) (tVar 1)))) tNext)
    (tSeq (tIfS (tB (tCB (rIsi K) (tCons (tVar 1) (tCons (tC (.ty "int")) tNil)))) (tRet (tAndV (tCall (sp_l_int K) [] E0 (tCons (tVar 0) tNil)) (tOp rEq (tVar 0) (tVar 1)))) tNext)
    (tSeq (tIfS (tB (tCB (rIsi K) (tCons (tVar 1) (tCons (tC (.ty "str")) tNil)))) (tRet (tAndV (tCB (rIsi K) (tCons (tVar 0) (tCons (tC (.ty "str")) tNil))) (tOp rEq (tVar 0) (tVar 1)))) tNext)
    (tRet (tAndV (tOp fIsN (tVar 1) (tC .non)) (tOp fIsN (tVar 0) (tC .non)))))))
def t_l_same (K : PySem.W.Frag) (n : Nat) : TS := (tSeq (tIfS (tOr (tB (tCB (rIsi K) (tCons (tVar 1) (tCons (tC (.ty "tuple")) tNil)))) (tB (tCB (rIsi K) (tCons (tVar 1) (tCons (tC (.ty "list")) tNil))))) (tSeq (tIfS (tOr (tTest (tOp rNe (tCB (rIsi K) (tCons (tVar 1) (tCons (tC (.ty "tuple")) tNil))) (tCB (rIsi K) (tCons (tVar 0) (tCons (tC (.ty "tuple")) tNil))))) (tTest (tOp rNe (tCB (rIsi K) (tCons (tVar 1) (tCons (tC (.ty "list")) tNil))) (tCB (rIsi K) (tCons (tVar 0) (tCons (tC (.ty "list")) tNil)))))) (tRet (tC (.bl false))) tNext)
    (t_l_same_loop K n)) tNext)
    (t_l_same_tail K n))
section
variable {K : PySem.W.Frag} {H : Hp} {x : V} {Q : VK} {σ : L2.St} {c t : String} {b : Bool}
theorem isi (ty : TyX K H x (.type t)) (k : kitB t c = some b) (q : Q (.bl b) H) : tCons (tC (.ty c)) tNil σ H fun ys H2 => rIsi K (x :: ys) H2 Q := ⟨_, _, _, _, b, rfl, .ty _, ty, kit_ty k, q⟩
end
theorem k_it : kitB "int" "tuple" = some false := by decide +kernel
theorem k_il : kitB "int" "list" = some false := by decide +kernel
theorem k_ib : kitB "int" "bool" = some false := by decide +kernel
theorem k_ii : kitB "int" "int" = some true := by decide +kernel
theorem k_bt : kitB "bool" "tuple" = some false := by decide +kernel
theorem k_bl : kitB "bool" "list" = some false := by decide +kernel
theorem k_bb : kitB "bool" "bool" = some true := by decide +kernel
theorem k_bi : kitB "bool" "int" = some true := by decide +kernel
theorem k_st : kitB "str" "tuple" = some false := by decide +kernel
theorem k_sl : kitB "str" "list" = some false := by decide +kernel
theorem k_sb : kitB "str" "bool" = some false := by decide +kernel
theorem k_si : kitB "str" "int" = some false := by decide +kernel
theorem k_ss : kitB "str" "str" = some true := by decide +kernel
theorem k_nt : kitB "NoneType" "tuple" = some false := by decide +kernel
theorem k_nl : kitB "NoneType" "list" = some false := by decide +kernel
theorem k_nb : kitB "NoneType" "bool" = some false := by decide +kernel
theorem k_ni : kitB "NoneType" "int" = some false := by decide +kernel
theorem k_ns : kitB "NoneType" "str" = some false := by decide +kernel
theorem k_tt : kitB "tuple" "tuple" = some true := by decide +kernel
theorem k_tl : kitB "tuple" "list" = some false := by decide +kernel
theorem k_ti : kitB "tuple" "int" = some false := by decide +kernel
theorem k_tb : kitB "tuple" "bool" = some false := by decide +kernel
theorem k_lt : kitB "list" "tuple" = some false := by decide +kernel
theorem k_ll : kitB "list" "list" = some true := by decide +kernel
theorem k_li : kitB "list" "int" = some false := by decide +kernel
theorem k_lb : kitB "list" "bool" = some false := by decide +kernel
theorem len_le {n : Nat} (h : n ≤ 100000) : -(2 ^ 62 : Int) ≤ (n : Int) ∧ (n : Int) < 2 ^ 62 := by
  have e : (2 : Int) ^ 62 = 4611686018427387904 := by decide
  rw [e]
  omega
theorem pure_l_same {K : PySem.W.Frag} {n : Nat} {vs : List V} {H : Hp} {Q : VK} {E : XK} (h : sp_sameN K (n + 1) vs H Q E) : t_l_same K n { nx := fun _ H' => Q .non H', rt := Q } (start N_l_same vs) H := by
  obtain ⟨x, y, rfl, h, k⟩ := h
  rcases h with ⟨rfl, h⟩ | ⟨p, q, xs, ys, rfl, rfl, h, hl, hz, hs⟩
  · rcases h with rfl | ⟨i, rfl⟩ | ⟨b, rfl⟩ | ⟨z, rfl⟩
    · refine ⟨_, rfl, isi (.base .non) k_nt ⟨_, rfl, iteF ⟨_, rfl, isi (.base .non) k_nl ⟨_, rfl, iteF ?_⟩⟩⟩⟩
      refine ⟨_, rfl, isi (.base .non) k_nb ⟨_, rfl, iteF ?_⟩⟩
      refine ⟨_, rfl, isi (.base .non) k_ni ⟨_, rfl, iteF ?_⟩⟩
      refine ⟨_, rfl, isi (.base .non) k_ns ⟨_, rfl, iteF ?_⟩⟩
      exact ⟨_, rfl, rfl, _, rfl, iteT ⟨_, rfl, rfl, k⟩⟩
    · refine ⟨_, rfl, isi (.base (.int i)) k_it ⟨_, rfl, iteF ⟨_, rfl, isi (.base (.int i)) k_il ⟨_, rfl, iteF ?_⟩⟩⟩⟩
      refine ⟨_, rfl, isi (.base (.int i)) k_ib ⟨_, rfl, iteF ?_⟩⟩
      refine ⟨_, rfl, isi (.base (.int i)) k_ii ⟨_, rfl, iteT ?_⟩⟩
      refine ⟨_, rfl, i, rfl, _, rfl, iteT ⟨_, rfl, _, rfl, rfl, ?_⟩⟩
      rw [decide_eq_true rfl]
      exact k
    · refine ⟨_, rfl, isi (.base (.bl b)) k_bt ⟨_, rfl, iteF ⟨_, rfl, isi (.base (.bl b)) k_bl ⟨_, rfl, iteF ?_⟩⟩⟩⟩
      refine ⟨_, rfl, isi (.base (.bl b)) k_bb ⟨_, rfl, iteT ?_⟩⟩
      refine ⟨_, rfl, isi (.base (.bl b)) k_bb ⟨_, rfl, iteT ⟨_, rfl, _, rfl, rfl, ?_⟩⟩⟩
      rw [decide_eq_true rfl]
      exact k
    · refine ⟨_, rfl, isi (.base (.str z)) k_st ⟨_, rfl, iteF ⟨_, rfl, isi (.base (.str z)) k_sl ⟨_, rfl, iteF ?_⟩⟩⟩⟩
      refine ⟨_, rfl, isi (.base (.str z)) k_sb ⟨_, rfl, iteF ?_⟩⟩
      refine ⟨_, rfl, isi (.base (.str z)) k_si ⟨_, rfl, iteF ?_⟩⟩
      refine ⟨_, rfl, isi (.base (.str z)) k_ss ⟨_, rfl, iteT ?_⟩⟩
      refine ⟨_, rfl, isi (.base (.str z)) k_ss ⟨_, rfl, iteT ⟨_, rfl, _, rfl, rfl, ?_⟩⟩⟩
      rw [decide_eq_true rfl]
      exact k
  · -- the loop over both
    have loop : (∃ o, (H p = some o ∧ (o = .lst xs ∨ o = .tup xs))) → (∃ o, (H q = some o ∧ (o = .lst ys ∨ o = .tup ys))) → ∀ z2 : Option V,
        t_l_same_loop K n { nx := t_l_same_tail K n { nx := fun _ H' => Q .non H', rt := Q }, rt := Q } [some (.ref p), some (.ref q), z2] H := by
      intro hp hq z2
      have hlen : ∀ {r : Addr} {zs : List V} {R : VK} {σ : L2.St}, (∃ o, (H r = some o ∧ (o = .lst zs ∨ o = .tup zs))) → R (.int zs.length) H → tNil σ H fun ws H2 => fLen K (.ref r :: ws) H2 R := by
        rintro r zs R σ ⟨o, h1, rfl | rfl⟩ h2
        · exact lenL h1 h2
        · exact lenT h1 h2
      have hix : ∀ {r : Addr} {zs : List V} {R : VK} {i : Int} {v : V}, (∃ o, (H r = some o ∧ (o = .lst zs ∨ o = .tup zs))) → atI zs i = some v → R v H → rIx K (.ref r) (.int i) H R := by
        rintro r zs R i v ⟨o, h1, rfl | rfl⟩ h2 h3
        · exact ixL h1 h2 h3
        · exact ixT h1 h2 h3
      refine ⟨_, rfl, hlen hp ⟨_, rfl, hlen hq ⟨rfl, _, rfl, ?_⟩⟩⟩
      rw [decide_eq_true (show V.int (xs.length : Int) = V.int (ys.length : Int) by rw [hl])]
      refine iteF ?_
      refine ⟨_, rfl, hlen hq ⟨_, rfl, (len_le (by omega)).1, (len_le (by omega)).2, for_range (lo := 0) (n := ((ys.length : Int)).toNat) (fun i σ H' => H' = H ∧ ∃ z, σ = [some (.ref p), some (.ref q), z]) ⟨rfl, _, rfl⟩ ?_ ?_⟩⟩
      · rintro i σ H' hi ⟨rfl, z, rfl⟩
        have hi1 : i < ys.length := by omega
        have hi2 : i < xs.length := by omega
        have e1 : atI xs (0 + (i : Int)) = some xs[i] := by rw [Int.zero_add]; exact atI_nat (List.getElem?_eq_getElem hi2)
        have e2 : atI ys (0 + (i : Int)) = some ys[i] := by rw [Int.zero_add]; exact atI_nat (List.getElem?_eq_getElem hi1)
        refine ⟨_, rfl, _, rfl, hix hp e1 ⟨_, rfl, _, rfl, hix hq e2 ⟨_, _, rfl, hs i _ _ (List.getElem?_eq_getElem hi2) (List.getElem?_eq_getElem hi1), _, rfl, iteF ?_⟩⟩⟩
        exact ⟨rfl, _, rfl⟩
      · rintro σ H' ⟨rfl, z, rfl⟩
        exact k
    rcases h with ⟨h1, h2⟩ | ⟨h1, h2⟩
    · have t1 : TyX K H (.ref p) (.type "list") := .base (.lst h1)
      have t2 : TyX K H (.ref q) (.type "list") := .base (.lst h2)
      refine ⟨_, rfl, isi t2 k_lt ⟨_, rfl, iteF ⟨_, rfl, isi t2 k_ll ⟨_, rfl, iteT ?_⟩⟩⟩⟩
      refine ⟨_, rfl, isi t2 k_lt ⟨_, rfl, isi t1 k_lt ⟨rfl, _, rfl, iteF ⟨_, rfl, isi t2 k_ll ⟨_, rfl, isi t1 k_ll ⟨rfl, _, rfl, iteF ?_⟩⟩⟩⟩⟩⟩
      exact loop ⟨_, h1, .inl rfl⟩ ⟨_, h2, .inl rfl⟩ _
    · have t1 : TyX K H (.ref p) (.type "tuple") := .base (.tup h1)
      have t2 : TyX K H (.ref q) (.type "tuple") := .base (.tup h2)
      refine ⟨_, rfl, isi t2 k_tt ⟨_, rfl, iteT ?_⟩⟩
      refine ⟨_, rfl, isi t2 k_tt ⟨_, rfl, isi t1 k_tt ⟨rfl, _, rfl, iteF ⟨_, rfl, isi t2 k_tl ⟨_, rfl, isi t1 k_tl ⟨rfl, _, rfl, iteF ?_⟩⟩⟩⟩⟩⟩
      exact loop ⟨_, h1, .inr rfl⟩ ⟨_, h2, .inr rfl⟩ _
def sp_law (K : PySem.W.Frag) : Sp := fun vs H Q _ => ∃ (a : Addr) (ns : List Int), vs = [.ref a] ∧ SqL K H a (ns.map V.int) ∧ ns.length ≤ 63 ∧ ∀ H', Q (.bl true) H'
section
variable {K : PySem.W.Frag} {vs : List V} {H : Hp} {Q : VK} {E : XK}
theorem len_law (h : sp_law K vs H Q E) : vs.length = 1 := by
  obtain ⟨_, _, rfl, _⟩ := h
  rfl
theorem len_l_deck (h : sp_l_deck K vs H Q E) : vs.length = 1 := by
  obtain ⟨_, _, rfl, _⟩ := h
  rfl
theorem len_l_mixed (h : sp_l_mixed K vs H Q E) : vs.length = 2 := by
  obtain ⟨_, _, rfl, _⟩ := h
  rfl
theorem len_l_draw (h : sp_l_draw K vs H Q E) : vs.length = 2 := by
  obtain ⟨_, _, _, _, _, rfl, _⟩ := h
  rfl
theorem len_l_int (h : sp_l_int K vs H Q E) : vs.length = 1 := by
  obtain ⟨_, rfl, _⟩ := h
  rfl
theorem len_sameN {n : Nat} (h : sp_sameN K n vs H Q E) : vs.length = 2 := by
  obtain ⟨_, _, rfl, _⟩ := h
  rfl
end
/-! ### comprehensions whose elements change nothing -/
section
variable {K : PySem.W.Frag} {a : Addr} {xs ys : List V} {g : TG} {tt : TT} {te : TE} {vs : List Nat} {σ : L2.St} {H1 : Hp} {D : Addr} {Qd : Hp → Prop}
/-- [e for x in xs], xs a tuple, ys the values in order -/
theorem lc_mapT (hq : ∀ acc, SqT K (upd H1 D (.lst acc)) a xs) (hl : ys.length = xs.length) (hz : xs.length ≤ 100000)
    (hs : ∀ (i : Nat) (x y : V) (acc : List V) (R : VK), xs[i]? = some x → ys[i]? = some y → R y (upd H1 D (.lst acc)) → g x (wipe σ vs) (upd H1 D (.lst acc)) fun σ2 H2 => wipe σ2 vs = wipe σ vs ∧ tt σ2 H2 fun b H3 => if b = true then te σ2 H3 R else False)
    (hd : Qd (upd H1 D (.lst ys))) (mt : ∀ σ H P P', (∀ b H1, P b H1 → P' b H1) → tt σ H P → tt σ H P') (mg : ∀ v σ H P P', (∀ σ1 H1, P σ1 H1 → P' σ1 H1) → g v σ H P → g v σ H P') :
    ∃ W : Nat → Nat → Hp → Prop, (∃ m, W 0 m (upd H1 D (.lst []))) ∧ ∀ i m H, W i m H →
      ((Itt K a).stop i H ∧ Qd H) ∨ ((Itt K a).go i H ∧ ∃ Nx : Hp → Prop, (∀ H', Nx H' → ∃ m', m' < m ∧ W (i + 1) m' H') ∧ ∀ x H', (Itt K a).yld i H x H' → g x (wipe σ vs) H' fun σ2 H2 => wipe σ2 vs = wipe σ vs ∧ tt σ2 H2 fun b H3 =>
        if b = true then te σ2 H3 fun y H4 => ∃ acc, H4 D = some (.lst acc) ∧ acc.length < sizeLine ∧ Nx (upd H4 D (.lst (acc ++ [y]))) else Nx H3) := by
  refine lc_tup (K := K) (a := a) (xs := xs) (fun i H => H = upd H1 D (.lst (ys.take i))) (by rw [List.take_zero]) (fun i H _ e => by rw [e]; exact hq _) (fun i x H hx e => ?_) (fun H e => by
    rw [e, List.take_of_length_le (by omega)]
    exact hd)
  subst e
  have hi : i < ys.length := by
    have := (List.getElem?_eq_some_iff.mp hx).1
    omega
  refine mg _ _ _ _ _ (fun σ1 H2 q => ⟨q.1, mt _ _ _ _ (fun b H3 q2 => ?_) q.2⟩) (hs i x ys[i] (ys.take i) (fun y H4 => ∃ acc, H4 D = some (.lst acc) ∧ acc.length < sizeLine ∧ upd H4 D (.lst (acc ++ [y])) = upd H1 D (.lst (ys.take (i + 1)))) hx (List.getElem?_eq_getElem hi) ⟨ys.take i, upd_same, Nat.lt_of_le_of_lt (by rw [List.length_take]; omega : (ys.take i).length ≤ 100000) (by decide), by rw [upd_upd, List.take_add_one, List.getElem?_eq_getElem hi]; rfl⟩)
  cases b with
  | true => exact q2
  | false => exact q2.elim
theorem lc_mapL (hq : ∀ acc, SqL K (upd H1 D (.lst acc)) a xs) (hl : ys.length = xs.length) (hz : xs.length ≤ 100000)
    (hs : ∀ (i : Nat) (x y : V) (acc : List V) (R : VK), xs[i]? = some x → ys[i]? = some y → R y (upd H1 D (.lst acc)) → g x (wipe σ vs) (upd H1 D (.lst acc)) fun σ2 H2 => wipe σ2 vs = wipe σ vs ∧ tt σ2 H2 fun b H3 => if b = true then te σ2 H3 R else False)
    (hd : Qd (upd H1 D (.lst ys))) (mt : ∀ σ H P P', (∀ b H1, P b H1 → P' b H1) → tt σ H P → tt σ H P') (mg : ∀ v σ H P P', (∀ σ1 H1, P σ1 H1 → P' σ1 H1) → g v σ H P → g v σ H P') :
    ∃ W : Nat → Nat → Hp → Prop, (∃ m, W 0 m (upd H1 D (.lst []))) ∧ ∀ i m H, W i m H →
      ((Itl K a).stop i H ∧ Qd H) ∨ ((Itl K a).go i H ∧ ∃ Nx : Hp → Prop, (∀ H', Nx H' → ∃ m', m' < m ∧ W (i + 1) m' H') ∧ ∀ x H', (Itl K a).yld i H x H' → g x (wipe σ vs) H' fun σ2 H2 => wipe σ2 vs = wipe σ vs ∧ tt σ2 H2 fun b H3 =>
        if b = true then te σ2 H3 fun y H4 => ∃ acc, H4 D = some (.lst acc) ∧ acc.length < sizeLine ∧ Nx (upd H4 D (.lst (acc ++ [y]))) else Nx H3) := by
  refine lc_list (K := K) (a := a) (xs := xs) (fun i H => H = upd H1 D (.lst (ys.take i))) (by rw [List.take_zero]) (fun i H _ e => by rw [e]; exact hq _) (fun i x H hx e => ?_) (fun H e => by
    rw [e, List.take_of_length_le (by omega)]
    exact hd)
  subst e
  have hi : i < ys.length := by
    have := (List.getElem?_eq_some_iff.mp hx).1
    omega
  refine mg _ _ _ _ _ (fun σ1 H2 q => ⟨q.1, mt _ _ _ _ (fun b H3 q2 => ?_) q.2⟩) (hs i x ys[i] (ys.take i) (fun y H4 => ∃ acc, H4 D = some (.lst acc) ∧ acc.length < sizeLine ∧ upd H4 D (.lst (acc ++ [y])) = upd H1 D (.lst (ys.take (i + 1)))) hx (List.getElem?_eq_getElem hi) ⟨ys.take i, upd_same, Nat.lt_of_le_of_lt (by rw [List.length_take]; omega : (ys.take i).length ≤ 100000) (by decide), by rw [upd_upd, List.take_add_one, List.getElem?_eq_getElem hi]; rfl⟩)
  cases b with
  | true => exact q2
  | false => exact q2.elim
theorem mono_yes : ∀ (σ : L2.St) (H : Hp) (P P' : Bool → Hp → Prop), (∀ b H1, P b H1 → P' b H1) → tYes σ H P → tYes σ H P' := fun _ _ _ _ f h => f _ _ h
theorem mono_gName {k : Nat} : ∀ (v : V) (σ : L2.St) (H : Hp) (P P' : L2.St → Hp → Prop), (∀ σ1 H1, P σ1 H1 → P' σ1 H1) → gName k v σ H P → gName k v σ H P' := fun _ _ _ _ _ f h => f _ _ h
end
end Fw

set_option Elab.async false
set_option linter.all false
set_option maxRecDepth 100000
set_option maxHeartbeats 4000000
namespace Fw
open PySem PySem.Spec PyProof.Rows L2
theorem meets_ext (l b : Addr) (xs ys : Array Value) (n m : Nat) (od : Option Addr) (sl : Array (Option Value)) (short : ¬(!xs.isEmpty && Builtin.List.listTooLong (xs.size + ys.size)) = true) (z1 : xs.size ≤ sizeLine) (z2 : xs.size + ys.size ≤ sizeLine + 1) :
    Meets (Builtin.«list.extend» ⟨[.ref l, .ref b], []⟩) (fun _ R s => s.heap.get? l = some ⟨.type "list", none, .seq xs n, #[]⟩ ∧ s.heap.get? b = some ⟨.type "tuple", od, .seq ys m, sl⟩ ∧ R (.ok (.ret Value.none)) { s with heap := s.heap.update l (Obj.mapSeq fun x => x ++ ys), toks := s.toks }) :=
  .of_wp fun prog w A R s h => by
    obtain ⟨hp, g, d, tk, os⟩ := s
    obtain ⟨hl, hb, h⟩ := h
    have f1 := AutoSeq1.idx_int
    have f2 := AutoSeq1.sub_tuple_tuple
    have f3 := AutoSeq1.sub_list_list
    have f4 := AutoSeq1.sub_tuple_list
    have f5 := AutoSeq1.sub_list_tuple
    have hz' : (xs ++ ys).size ≤ sizeLine + 1 := by rw [Array.size_append]; exact z2
    wp_walk using (wpAny_updateSeq hl rfl (hz := z1) (_hz' := hz')), AutoSeq1.wpAny_loadPart' hl, AutoSeq1.wpAny_loadPart' hb
    exact ⟨_, rfl, h⟩
/-- l.extend(b): b another list, or a tuple -/
def rExtendA (K : PySem.W.Frag) : V → List V → Hp → VK → Prop := fun x vs H Q => ∃ (l b : Addr) (xs ys : List V), x = .ref l ∧ vs = [.ref b] ∧ H l = some (.lst xs) ∧ (H b = some (.lst ys) ∨ H b = some (.tup ys)) ∧ xs.length + ys.length ≤ 100000 ∧ Q .non (upd H l (.lst (xs ++ ys)))
theorem mt_extendA {X : Cx} : MtM X "list.extend" (rExtendA X.K) := by
  intro pins s σ H x vs v us Q inv rx rs rd
  obtain ⟨l, b, xs, ys, rfl, rfl, hl, hb, few, q⟩ := rd
  have few2 : xs.length + ys.length ≤ sizeLine := Nat.le_trans few (by decide)
  rcases hb with hb | hb
  · exact mt_extend pins s σ H _ _ v us Q inv rx rs ⟨l, b, xs, ys, rfl, rfl, hl, hb, few2, q⟩
  · cases rx
    obtain ⟨u, rfl, ru⟩ := rs.one
    cases ru
    obtain ⟨_, its, n, r, e0, e⟩ := inv.lstM hl
    obtain ⟨_, its2, r2, o, e2, c2, m, d2⟩ := (show ObjOk X.prog X.w H s.heap b (.tup ys) from inv.hok b _ hb)
    obtain ⟨oc, od, dt, sl⟩ := o
    simp only at c2 d2
    subst c2 d2
    have l2 := r2.length
    have sz : its.toArray.size + its2.toArray.size ≤ sizeLine := by rw [List.size_toArray, List.size_toArray]; omega
    have lng : ¬ (!its.toArray.isEmpty && Builtin.List.listTooLong (its.toArray.size + its2.toArray.size)) = true := by
      rw [notLongL sz, Bool.and_false]
      exact Bool.false_ne_true
    refine call_meets F.slot_list_extend ⟨_, e, rfl⟩ F.entry_list_extend (F.args_list_extend_2 _ _) (meets_ext l b its.toArray its2.toArray n m od sl lng (by rw [List.size_toArray]; omega) (by omega)) ⟨e, e2, ?_⟩
    refine ⟨.non, _, inv.lset (its' := its ++ its2) hl e (by simp) (r.append r2) ?_, rfl, q⟩
    rw [List.length_append]
    omega
end Fw

set_option Elab.async false
set_option linter.all false
set_option maxRecDepth 100000
set_option maxHeartbeats 4000000
namespace Fw
open PySem L2 RZ RT
theorem Dk.upd {c D q : Addr} {ns : List Int} {t : Nat} {H : Hp} {o : HO} (d : Dk c D ns t H) (h1 : q ≠ c) (h2 : q ≠ D) : Dk c D ns t (L2.upd H q o) := by
  obtain ⟨a, b, e, i, n, u, h, r⟩ := d
  exact ⟨a, updN h1.symm b, e, i, n, u, updN h2.symm h, r⟩
theorem Dk.le {c D : Addr} {ns : List Int} {t t' : Nat} {H : Hp} (d : Dk c D ns t H) (h : t ≤ t') : Dk c D ns t' H := by
  obtain ⟨a, b, e, i, n, u, hh, r1, r2, r3, r4, r5⟩ := d
  exact ⟨a, b, e, i, n, u, hh, r1, r2, r3, r4, by omega⟩
theorem Dk.someD {c D : Addr} {ns : List Int} {t : Nat} {H : Hp} (d : Dk c D ns t H) : ∃ xs, H D = some (.lst xs) := by
  obtain ⟨_, _, _, _, _, _, h, _⟩ := d
  exact ⟨_, h⟩
theorem Dk.someC {c D : Addr} {ns : List Int} {t : Nat} {H : Hp} (d : Dk c D ns t H) : ∃ xs, H c = some (.lst xs) := ⟨_, d.2.1⟩
theorem Dk.neD {c D q : Addr} {ns : List Int} {t : Nat} {H : Hp} (d : Dk c D ns t H) (h : H q = none) : q ≠ D := by
  obtain ⟨xs, e⟩ := d.someD
  exact (ne_of_none e h).symm
theorem Dk.neC {c D q : Addr} {ns : List Int} {t : Nat} {H : Hp} (d : Dk c D ns t H) (h : H q = none) : q ≠ c := by
  obtain ⟨xs, e⟩ := d.someC
  exact (ne_of_none e h).symm
/-- all but the deck stands -/
def Kp (D : Addr) (H H' : Hp) : Prop := ∀ b o, H b = some o → b ≠ D → H' b = some o
theorem Kp.refl (D : Addr) (H : Hp) : Kp D H H := fun _ _ e _ => e
theorem Kp.trans {D : Addr} {H H1 H2 : Hp} (a : Kp D H H1) (b : Kp D H1 H2) : Kp D H H2 := fun x o e n => b x o (a x o e n) n
theorem Kp.fr {D : Addr} {H H' : Hp} (f : ∀ b, b ≠ D → H' b = H b) : Kp D H H' := fun b o e n => by rw [f b n]; exact e
theorem Kp.new {D q : Addr} {H : Hp} {o : HO} (n : H q = none) : Kp D H (L2.upd H q o) := fun b u e _ => updN (ne_of_none e n) e
theorem Kp.of_same {D : Addr} {H H' : Hp} (s : Same H H') : Kp D H H' := fun b o e _ => s b o e
theorem Kp.tup {D : Addr} {H H' : Hp} {c : Addr} {ns : List Int} {t : Nat} (k : Kp D H H') (d : Dk c D ns t H) (a : Addr) (xs : List V) (h : H a = some (.tup xs)) : H' a = some (.tup xs) := by
  obtain ⟨ys, e⟩ := d.someD
  exact k a _ h (ne_of h e (by intro z; cases z))
/-- what was free at first, behind what keeps -/
theorem Kp.free {D q : Addr} {H H' : Hp} (k : Kp D H H') (h : H' q = none) (n : q ≠ D) : H q = none := by
  cases e : H q with
  | none => rfl
  | some o => rw [k q o e n] at h; cases h
end Fw

set_option Elab.async false
set_option linter.all false
set_option maxRecDepth 100000
set_option maxHeartbeats 4000000
namespace Fw
open PySem L2 RZ RT
abbrev rLeS : R2 := fun x y H Q => ∃ i j, x = .str i ∧ y = .str j ∧ Q (.bl (!decide (j.cps.toList < i.cps.toList))) H
abbrev rLtS : R2 := fun x y H Q => ∃ i j, x = .str i ∧ y = .str j ∧ Q (.bl (decide (i.cps.toList < j.cps.toList))) H
def fOrd : List V → Hp → VK → Prop := fun xs H Q => ∃ x, xs = [.str x] ∧ x.length = 1 ∧ Q (.int (x.cps.getD 0 0 : Nat)) H
def fJoin (K : PySem.W.Frag) : V → List V → Hp → VK → Prop := fun x xs H Q => ∃ a p, ∃ ys : List Str, x = .str a ∧ xs = [.ref p] ∧ (SqL K H p (ys.map V.str) ∨ SqT K H p (ys.map V.str)) ∧ (ys.map (·.length)).sum + ys.length * a.length ≤ 16777216 ∧ Q (.str (Txt.join a ys)) H
theorem ixS {K : PySem.W.Frag} {H : Hp} {z : Str} {i : Int} {c : Nat} {Q : VK} (hz : z.length ≤ 1000) (ha : atI z.cps.toList i = some c) (q : Q (.str ⟨#[c]⟩) H) : rIx K (.str z) (.int i) H Q := .inr (.inr ⟨z, i, c, rfl, rfl, Nat.le_trans hz (by decide), ha, q⟩)
theorem lenS {K : PySem.W.Frag} {H : Hp} {z : Str} {Q : VK} {σ : L2.St} (hz : z.length ≤ 1000) (q : Q (.int z.length) H) : tNil σ H fun ys H2 => fLen K (.str z :: ys) H2 Q := ⟨_, _, rfl, ⟨Nat.le_trans hz (by decide), rfl⟩, q⟩
theorem Same.upd {H : Hp} {p : Addr} {o : HO} (n : H p = none) : Same H (upd H p o) := fun b u e => updN (ne_of_none e n) e
theorem Same.updI {H H' : Hp} {p : Addr} {o : HO} (s : Same H H') (n : H p = none) : Same H (L2.upd H' p o) := fun b u e => updN (ne_of_none e n) (s b u e)
/-- a comprehension whose elements may make new things, nothing else -/
theorem lc_grow {J : It} {n : Nat} {G : Hp → Prop} {Y : Nat → Hp → V → Hp → Prop} (w : Walk J n G Y) (hY : ∀ i H x H', Y i H x H' → H' = H) {k : Nat} {te : TE} {vs : List Nat} {σ : L2.St} {H1 : Hp} {D : Addr} {Qd : Hp → Prop} {ys : List V}
    (hD : H1 D = none) (hl : ys.length = n) (hz : n ≤ 100000) (hG : ∀ H', Same H1 H' → G H')
    (hs : ∀ (i : Nat) (x y : V) (H' : Hp) (R : VK), i < n → Y i H' x H' → ys[i]? = some y → Same H1 H' → (∀ H'', Same H' H'' → R y H'') → wipe ((wipe σ vs).set k (some x)) vs = wipe σ vs ∧ te ((wipe σ vs).set k (some x)) H' R)
    (hd : ∀ H', Same H1 H' → H' D = some (.lst ys) → Qd H') :
    ∃ W : Nat → Nat → Hp → Prop, (∃ m, W 0 m (L2.upd H1 D (.lst []))) ∧ ∀ i m H, W i m H →
      (J.stop i H ∧ Qd H) ∨ (J.go i H ∧ ∃ Nx : Hp → Prop, (∀ H', Nx H' → ∃ m', m' < m ∧ W (i + 1) m' H') ∧ ∀ x H', J.yld i H x H' → gName k x (wipe σ vs) H' fun σ2 H2 => wipe σ2 vs = wipe σ vs ∧ tYes σ2 H2 fun b H3 =>
        if b = true then te σ2 H3 fun y H4 => ∃ acc, H4 D = some (.lst acc) ∧ acc.length < sizeLine ∧ Nx (L2.upd H4 D (.lst (acc ++ [y]))) else Nx H3) := by
  refine lc_it w (fun i H => Same H1 H ∧ H D = some (.lst (ys.take i))) ⟨Same.upd hD, updS⟩ (fun i H _ p => hG H p.1) (fun i x H H' hi p hy => ?_) (fun H p => hd H p.1 (by rw [p.2, List.take_of_length_le (by omega)]))
  have e := hY i H x H' hy
  subst e
  have hi2 : i < ys.length := by omega
  obtain ⟨q1, q2⟩ := hs i x ys[i] H' (fun y H4 => ∃ acc, H4 D = some (.lst acc) ∧ acc.length < sizeLine ∧ (Same H1 (L2.upd H4 D (.lst (acc ++ [y]))) ∧ L2.upd H4 D (.lst (acc ++ [y])) D = some (.lst (ys.take (i + 1))))) hi hy (List.getElem?_eq_getElem hi2) p.1 (fun H'' s => ⟨_, s _ _ p.2, Nat.lt_of_le_of_lt (by rw [List.length_take]; omega : (ys.take i).length ≤ 100000) (by decide), Same.updI (Same.trans p.1 s) hD, by rw [updS, List.take_add_one, List.getElem?_eq_getElem hi2]; rfl⟩)
  exact ⟨q1, q2⟩
/-- the same where each element draws: what it gives keeps P -/
theorem lc_deck {J : It} {n : Nat} {Y : Nat → Hp → V → Hp → Prop} (w : Walk J n (fun _ => True) Y) (hY : ∀ i H x H', Y i H x H' → H' = H) {α : Type} (f : α → V) (P : α → Prop) (st : Nat) {k : Nat} {te : TE} {vs : List Nat} {σ : L2.St} {H1 : Hp} {L : Addr} {Qd : Hp → Prop} {c D : Addr} {ns : List Int} {t : Nat}
    (hL : H1 L = none) (dk : Dk c D ns t H1) (hz : n ≤ 100000)
    (hs : ∀ (i : Nat) (x : V) (H' : Hp) (R : VK), i < n → Kp D H1 H' → Dk c D ns (t + st * i) H' → (∀ y H'', P y → Kp D H' H'' → Dk c D ns (t + st * i + st) H'' → R (f y) H'') → wipe ((wipe σ vs).set k (some x)) vs = wipe σ vs ∧ te ((wipe σ vs).set k (some x)) H' R)
    (hd : ∀ (ys : List α) (H' : Hp), ys.length = n → (∀ y ∈ ys, P y) → Kp D H1 H' → Dk c D ns (t + st * n) H' → H' L = some (.lst (ys.map f)) → Qd H') :
    ∃ W : Nat → Nat → Hp → Prop, (∃ m, W 0 m (L2.upd H1 L (.lst []))) ∧ ∀ i m H, W i m H →
      (J.stop i H ∧ Qd H) ∨ (J.go i H ∧ ∃ Nx : Hp → Prop, (∀ H', Nx H' → ∃ m', m' < m ∧ W (i + 1) m' H') ∧ ∀ x H', J.yld i H x H' → gName k x (wipe σ vs) H' fun σ2 H2 => wipe σ2 vs = wipe σ vs ∧ tYes σ2 H2 fun b H3 =>
        if b = true then te σ2 H3 fun y H4 => ∃ acc, H4 L = some (.lst acc) ∧ acc.length < sizeLine ∧ Nx (L2.upd H4 L (.lst (acc ++ [y]))) else Nx H3) := by
  have nLD : L ≠ D := dk.neD hL
  have nLC : L ≠ c := dk.neC hL
  refine lc_it w (fun i H => ∃ ys : List α, ys.length = i ∧ (∀ y ∈ ys, P y) ∧ Kp D H1 H ∧ Dk c D ns (t + st * i) H ∧ H L = some (.lst (ys.map f))) ⟨[], rfl, (fun _ h => by cases h), .new hL, dk.upd nLC nLD, updS⟩ (fun _ _ _ _ => True.intro) ?_ ?_
  · rintro i x H H' hi ⟨ys, hl, hp, kp, dk2, hLs⟩ hy
    have e := hY i H x H' hy
    subst e
    obtain ⟨q1, q2⟩ := hs i x H' (fun y H4 => ∃ acc, H4 L = some (.lst acc) ∧ acc.length < sizeLine ∧ ∃ ys : List α, ys.length = i + 1 ∧ (∀ y ∈ ys, P y) ∧ Kp D H1 (L2.upd H4 L (.lst (acc ++ [y]))) ∧ Dk c D ns (t + st * (i + 1)) (L2.upd H4 L (.lst (acc ++ [y]))) ∧ L2.upd H4 L (.lst (acc ++ [y])) L = some (.lst (ys.map f))) hi kp dk2 (fun y H'' py k2 d2 => by
      refine ⟨_, k2 _ _ hLs nLD, Nat.lt_of_le_of_lt (by rw [List.length_map]; omega : (ys.map f).length ≤ 100000) (by decide), ys ++ [y], by rw [List.length_append, hl]; rfl, fun z hz2 => ?_, fun b o e n => updN (ne_of_none e hL) ((kp.trans k2) b o e n), ?_, by rw [updS, List.map_append]; rfl⟩
      · rcases List.mem_append.mp hz2 with h | h
        · exact hp z h
        · cases List.mem_singleton.mp h
          exact py
      · have e2 : t + st * (i + 1) = t + st * i + st := by rw [Nat.mul_add, Nat.mul_one, Nat.add_assoc]
        rw [e2]
        exact d2.upd nLC nLD)
    exact ⟨q1, q2⟩
  · rintro H ⟨ys, hl, hp, kp, dk2, hLs⟩
    exact hd ys H hl hp kp dk2 hLs
/-! ### the same data, where looking makes new things -/
theorem SameV.mono {H H' : Hp} (s : Same H H') : ∀ {n : Nat} {x y : V}, SameV H n x y → SameV H' n x y
  | 0, _, _, h => h
  | n + 1, x, y, h => by
    rcases h with h | ⟨p, q, xs, ys, rfl, rfl, h, hl, hz, hs⟩
    · exact .inl h
    · refine .inr ⟨p, q, xs, ys, rfl, rfl, h.imp (fun h => ⟨s _ _ h.1, s _ _ h.2⟩) (fun h => ⟨s _ _ h.1, s _ _ h.2⟩), hl, hz, fun i a b h1 h2 => (hs i a b h1 h2).mono s⟩
theorem SameV.strs {H : Hp} {n : Nat} {zs : List Str} : ∀ (i : Nat) (a b : V), (zs.map V.str)[i]? = some a → (zs.map V.str)[i]? = some b → SameV H (n + 1) a b := fun i a b h1 h2 => by
  have e : a = b := Option.some.inj (h1.symm.trans h2)
  rw [List.getElem?_map] at h1
  cases q : zs[i]? with
  | none => rw [q] at h1; cases h1
  | some z => rw [q] at h1; exact Or.inl ⟨e, .inr (.inr (.inr ⟨z, (Option.some.inj h1).symm⟩))⟩
def sp_same2N (_ : PySem.W.Frag) (n : Nat) : Sp := fun vs H Q _ => ∃ x y, vs = [x, y] ∧ SameV H n x y ∧ ∀ H', Same H H' → Q (.bl true) H'
abbrev sp_l_same2 (K : PySem.W.Frag) : Sp := sp_same2N K 6
theorem len_same2N {K : PySem.W.Frag} {vs : List V} {H : Hp} {Q : VK} {E : XK} {n : Nat} (h : sp_same2N K n vs H Q E) : vs.length = 2 := by
  obtain ⟨_, _, rfl, _⟩ := h
  rfl
def t_l_same2_loop (K : PySem.W.Frag) (n : Nat) : TS := (tSeq (tIfS (tTest (tOp rNe (tCB (fLen K) (tCons (tVar 0) tNil)) (tCB (fLen K) (tCons (tVar 1) tNil)))) (tRet (tC (.bl false))) tNext)
    (tSeq (tFor (iRng1 (tCons (tCB (fLen K) (tCons (tVar 1) tNil)) tNil)) (gName 2) (tIfS (tNot (tB (tCall (sp_same2N K n) [] E0 (tCons (tOp (rIx K) (tVar 0) (tVar 2)) (tCons (tOp (rIx K) (tVar 1) (tVar 2)) tNil))))) (tRet (tC (.bl false))) tNext))
    (tRet (tC (.bl true)))))
def t_l_same2_tail (K : PySem.W.Frag) (n : Nat) : TS := (tSeq (tIfS (tB (tCB (rIsi K) (tCons (tVar 1) (tCons (tC (.ty "dict")) tNil)))) tNever tNext)
    (tSeq (tIfS (tB (tCB (rIsi K) (tCons (tVar 1) (tCons (tC (.ty "bool")) tNil)))) (tRet (tAndV (tCB (rIsi K) (tCons (tVar 0) (tCons (tC (.ty "bool")) tNil))) (tOp rEq (tVar 0) (tVar 1)))) tNext)
    (tSeq (tIfS (tB (tCB (rIsi K) (tCons (tVar 1) (tCons (tC (.ty "int")) tNil)))) (tRet (tAndV (tCall (sp_l_int K) [] E0 (tCons (tVar 0) tNil)) (tOp rEq (tVar 0) (tVar 1)))) tNext)
    (tSeq (tIfS (tB (tCB (rIsi K) (tCons (tVar 1) (tCons (tC (.ty "str")) tNil)))) (tRet (tAndV (tCB (rIsi K) (tCons (tVar 0) (tCons (tC (.ty "str")) tNil))) (tOp rEq (tVar 0) (tVar 1)))) tNext)
    (tRet (tAndV (tOp fIsN (tVar 1) (tC .non)) (tOp fIsN (tVar 0) (tC .non))))))))
def t_l_same2 (K : PySem.W.Frag) (n : Nat) : TS := (tSeq (tIfS (tB (tCB (rIsiT K) (tCons (tVar 1) (tCons (tTup (tCons (tC (.ty "tuple")) (tCons (tC (.ty "list")) tNil))) tNil)))) (tSeq (tIfS (tOr (tTest (tOp rNe (tCB (rIsi K) (tCons (tVar 1) (tCons (tC (.ty "tuple")) tNil))) (tCB (rIsi K) (tCons (tVar 0) (tCons (tC (.ty "tuple")) tNil))))) (tTest (tOp rNe (tCB (rIsi K) (tCons (tVar 1) (tCons (tC (.ty "list")) tNil))) (tCB (rIsi K) (tCons (tVar 0) (tCons (tC (.ty "list")) tNil)))))) (tRet (tC (.bl false))) tNext)
    (t_l_same2_loop K n)) tNext)
    (t_l_same2_tail K n))
section
variable {K : PySem.W.Frag} {H : Hp} {x : V} {Q : VK} {σ : L2.St} {t : String} {b : Bool}
/-- isinstance(x, (tuple, list)) -/
theorem isi2 (ty : ∀ H', Same H H' → TyX K H' x (.type t)) {b1 b2 : Bool} (k1 : kitB t "tuple" = some b1) (k2 : kitB t "list" = some b2) (q : ∀ T, H T = none → Q (.bl (b1 || b2)) (upd H T (.tup [.ty "tuple", .ty "list"]))) :
    tCons (tTup (tCons (tC (.ty "tuple")) (tCons (tC (.ty "list")) tNil))) tNil σ H fun ys H2 => rIsiT K (x :: ys) H2 Q := by
  refine ⟨by show (2 : Nat) ≤ sizeLine; decide, fun T nT => ⟨x, T, _, _, [.type "tuple", .type "list"], (b1 || b2), rfl, updS, .cons (.ty _) (.cons (.ty _) .nil), ty _ (Same.upd nT), ?_, q T nT⟩⟩
  refine kitAny_cons (kit_ty k1) (fun e => ?_) (fun e => by rw [e]; rfl)
  subst e
  exact kitAny_cons (kit_ty k2) (fun e => by subst e; exact kitAny_nil) (fun e => by rw [e]; rfl)
end
theorem k_id : kitB "int" "dict" = some false := by decide +kernel
theorem k_bd : kitB "bool" "dict" = some false := by decide +kernel
theorem k_sd : kitB "str" "dict" = some false := by decide +kernel
theorem k_nd : kitB "NoneType" "dict" = some false := by decide +kernel
theorem pure_l_same2 {K : PySem.W.Frag} {n : Nat} {vs : List V} {H : Hp} {Q : VK} {E : XK} (h : sp_same2N K (n + 1) vs H Q E) : t_l_same2 K n { nx := fun _ H' => Q .non H', rt := Q } (start N_l_same vs) H := by
  obtain ⟨x, y, rfl, h, k⟩ := h
  rcases h with ⟨rfl, h⟩ | ⟨p, q, xs, ys, rfl, rfl, h, hl, hz, hs⟩
  · rcases h with rfl | ⟨i, rfl⟩ | ⟨b, rfl⟩ | ⟨z, rfl⟩
    · refine ⟨_, rfl, isi2 (fun _ _ => .base .non) k_nt k_nl fun T nT => ⟨_, rfl, iteF ?_⟩⟩
      refine ⟨_, rfl, isi (.base .non) k_nd ⟨_, rfl, iteF ?_⟩⟩
      refine ⟨_, rfl, isi (.base .non) k_nb ⟨_, rfl, iteF ?_⟩⟩
      refine ⟨_, rfl, isi (.base .non) k_ni ⟨_, rfl, iteF ?_⟩⟩
      refine ⟨_, rfl, isi (.base .non) k_ns ⟨_, rfl, iteF ?_⟩⟩
      exact ⟨_, rfl, rfl, _, rfl, iteT ⟨_, rfl, rfl, k _ (Same.upd nT)⟩⟩
    · refine ⟨_, rfl, isi2 (fun _ _ => .base (.int i)) k_it k_il fun T nT => ⟨_, rfl, iteF ?_⟩⟩
      refine ⟨_, rfl, isi (.base (.int i)) k_id ⟨_, rfl, iteF ?_⟩⟩
      refine ⟨_, rfl, isi (.base (.int i)) k_ib ⟨_, rfl, iteF ?_⟩⟩
      refine ⟨_, rfl, isi (.base (.int i)) k_ii ⟨_, rfl, iteT ?_⟩⟩
      refine ⟨_, rfl, i, rfl, _, rfl, iteT ⟨_, rfl, _, rfl, rfl, ?_⟩⟩
      rw [decide_eq_true rfl]
      exact k _ (Same.upd nT)
    · refine ⟨_, rfl, isi2 (fun _ _ => .base (.bl b)) k_bt k_bl fun T nT => ⟨_, rfl, iteF ?_⟩⟩
      refine ⟨_, rfl, isi (.base (.bl b)) k_bd ⟨_, rfl, iteF ?_⟩⟩
      refine ⟨_, rfl, isi (.base (.bl b)) k_bb ⟨_, rfl, iteT ?_⟩⟩
      refine ⟨_, rfl, isi (.base (.bl b)) k_bb ⟨_, rfl, iteT ⟨_, rfl, _, rfl, rfl, ?_⟩⟩⟩
      rw [decide_eq_true rfl]
      exact k _ (Same.upd nT)
    · refine ⟨_, rfl, isi2 (fun _ _ => .base (.str z)) k_st k_sl fun T nT => ⟨_, rfl, iteF ?_⟩⟩
      refine ⟨_, rfl, isi (.base (.str z)) k_sd ⟨_, rfl, iteF ?_⟩⟩
      refine ⟨_, rfl, isi (.base (.str z)) k_sb ⟨_, rfl, iteF ?_⟩⟩
      refine ⟨_, rfl, isi (.base (.str z)) k_si ⟨_, rfl, iteF ?_⟩⟩
      refine ⟨_, rfl, isi (.base (.str z)) k_ss ⟨_, rfl, iteT ?_⟩⟩
      refine ⟨_, rfl, isi (.base (.str z)) k_ss ⟨_, rfl, iteT ⟨_, rfl, _, rfl, rfl, ?_⟩⟩⟩
      rw [decide_eq_true rfl]
      exact k _ (Same.upd nT)
  · have loop : ∀ H0 : Hp, Same H H0 → (∃ o, (H p = some o ∧ (o = .lst xs ∨ o = .tup xs))) → (∃ o, (H q = some o ∧ (o = .lst ys ∨ o = .tup ys))) → ∀ z2 : Option V,
        t_l_same2_loop K n { nx := t_l_same2_tail K n { nx := fun _ H' => Q .non H', rt := Q }, rt := Q } [some (.ref p), some (.ref q), z2] H0 := by
      intro H0 s0 hp hq z2
      have hlen : ∀ {r : Addr} {zs : List V} {R : VK} {σ : L2.St} {H1 : Hp}, (∃ o, (H r = some o ∧ (o = .lst zs ∨ o = .tup zs))) → Same H H1 → R (.int zs.length) H1 → tNil σ H1 fun ws H2 => fLen K (.ref r :: ws) H2 R := by
        rintro r zs R σ H1 ⟨o, h1, rfl | rfl⟩ s h2
        · exact lenL (s _ _ h1) h2
        · exact lenT (s _ _ h1) h2
      have hix : ∀ {r : Addr} {zs : List V} {R : VK} {i : Int} {v : V} {H1 : Hp}, (∃ o, (H r = some o ∧ (o = .lst zs ∨ o = .tup zs))) → Same H H1 → atI zs i = some v → R v H1 → rIx K (.ref r) (.int i) H1 R := by
        rintro r zs R i v H1 ⟨o, h1, rfl | rfl⟩ s h2 h3
        · exact ixL (s _ _ h1) h2 h3
        · exact ixT (s _ _ h1) h2 h3
      refine ⟨_, rfl, hlen hp s0 ⟨_, rfl, hlen hq s0 ⟨rfl, _, rfl, ?_⟩⟩⟩
      rw [decide_eq_true (show V.int (xs.length : Int) = V.int (ys.length : Int) by rw [hl])]
      refine iteF ?_
      refine ⟨_, rfl, hlen hq s0 ⟨_, rfl, (len_le (by omega)).1, (len_le (by omega)).2, for_range (lo := 0) (n := ((ys.length : Int)).toNat) (fun i σ H' => Same H H' ∧ ∃ z, σ = [some (.ref p), some (.ref q), z]) ⟨s0, _, rfl⟩ ?_ ?_⟩⟩
      · rintro i σ H' hi ⟨s1, z, rfl⟩
        have hi1 : i < ys.length := by omega
        have hi2 : i < xs.length := by omega
        have e1 : atI xs (0 + (i : Int)) = some xs[i] := by rw [Int.zero_add]; exact atI_nat (List.getElem?_eq_getElem hi2)
        have e2 : atI ys (0 + (i : Int)) = some ys[i] := by rw [Int.zero_add]; exact atI_nat (List.getElem?_eq_getElem hi1)
        refine ⟨_, rfl, _, rfl, hix hp s1 e1 ⟨_, rfl, _, rfl, hix hq s1 e2 ⟨_, _, rfl, (hs i _ _ (List.getElem?_eq_getElem hi2) (List.getElem?_eq_getElem hi1)).mono s1, fun H2 s2 => ⟨_, rfl, iteF ?_⟩⟩⟩⟩
        exact ⟨s1.trans s2, _, rfl⟩
      · rintro σ H' ⟨s1, z, rfl⟩
        exact k _ s1
    rcases h with ⟨h1, h2⟩ | ⟨h1, h2⟩
    · have t1 : ∀ H', Same H H' → TyX K H' (.ref p) (.type "list") := fun H' s => .base (.lst (s _ _ h1))
      have t2 : ∀ H', Same H H' → TyX K H' (.ref q) (.type "list") := fun H' s => .base (.lst (s _ _ h2))
      refine ⟨_, rfl, isi2 t2 k_lt k_ll fun T nT => ⟨_, rfl, iteT ?_⟩⟩
      have s0 : Same H (upd H T (.tup [.ty "tuple", .ty "list"])) := Same.upd nT
      refine ⟨_, rfl, isi (t2 _ s0) k_lt ⟨_, rfl, isi (t1 _ s0) k_lt ⟨rfl, _, rfl, iteF ⟨_, rfl, isi (t2 _ s0) k_ll ⟨_, rfl, isi (t1 _ s0) k_ll ⟨rfl, _, rfl, iteF ?_⟩⟩⟩⟩⟩⟩
      exact loop _ s0 ⟨_, h1, .inl rfl⟩ ⟨_, h2, .inl rfl⟩ _
    · have t1 : ∀ H', Same H H' → TyX K H' (.ref p) (.type "tuple") := fun H' s => .base (.tup (s _ _ h1))
      have t2 : ∀ H', Same H H' → TyX K H' (.ref q) (.type "tuple") := fun H' s => .base (.tup (s _ _ h2))
      refine ⟨_, rfl, isi2 t2 k_tt k_tl fun T nT => ⟨_, rfl, iteT ?_⟩⟩
      have s0 : Same H (upd H T (.tup [.ty "tuple", .ty "list"])) := Same.upd nT
      refine ⟨_, rfl, isi (t2 _ s0) k_tt ⟨_, rfl, isi (t1 _ s0) k_tt ⟨rfl, _, rfl, iteF ⟨_, rfl, isi (t2 _ s0) k_tl ⟨_, rfl, isi (t1 _ s0) k_tl ⟨rfl, _, rfl, iteF ?_⟩⟩⟩⟩⟩⟩
      exact loop _ s0 ⟨_, h1, .inr rfl⟩ ⟨_, h2, .inr rfl⟩ _
end Fw

set_option Elab.async false
set_option linter.all false
set_option maxRecDepth 100000
set_option maxHeartbeats 4000000
namespace Fw
open PySem L2 RZ RT
/-! ### rows, pieces, scripts -/
def OkC (c : Nat) : Prop := 32 ≤ c ∧ c ≤ 126 ∧ c ≠ 37
def OkS (z : Str) : Prop := z.cps.size ≤ 40 ∧ ∀ c ∈ z.cps.toList, OkC c
inductive Pc where
  | take (b m : Nat)
  | put (rs : List Str)
def Pc.n : Pc → Nat
  | .take _ m => m
  | .put rs => rs.length
def Pc.ok : Pc → Prop
  | .take _ m => 1 ≤ m
  | .put rs => rs ≠ [] ∧ ∀ z ∈ rs, OkS z
def Pc.fits (L : Nat) : Pc → Prop
  | .take b m => b + m ≤ L
  | .put _ => True
def Pc.mk (bs : List Str) : Pc → List Str
  | .take b m => (bs.drop b).take m
  | .put rs => rs
def Pc.cost (t p : Int) : Pc → Int
  | .take _ _ => t
  | .put rs => p * (rs.length : Int)
def total (ps : List Pc) : Nat := (ps.map Pc.n).sum
def makes (bs : List Str) (ps : List Pc) : List Str := (ps.map (Pc.mk bs)).flatten
def cost (t p : Int) (ps : List Pc) : Int := (ps.map (Pc.cost t p)).sum
structure ScOk (ps : List Pc) : Prop where
  ok : ∀ p ∈ ps, p.ok
  few : total ps ≤ 40
theorem Pc.one {p : Pc} (h : p.ok) : 1 ≤ p.n := by
  cases p with
  | take b m => exact h
  | put rs => exact List.length_pos_iff.mpr h.1
theorem len_le_total : ∀ {ps : List Pc}, (∀ p ∈ ps, p.ok) → ps.length ≤ total ps
  | [], _ => Nat.le_refl _
  | p :: ps, h => by
    have a := len_le_total (ps := ps) fun q hq => h q (List.mem_cons_of_mem _ hq)
    have b := Pc.one (h p (List.mem_cons_self ..))
    show ps.length + 1 ≤ p.n + (ps.map Pc.n).sum
    have e : total ps = (ps.map Pc.n).sum := rfl
    omega
theorem ScOk.len {ps : List Pc} (h : ScOk ps) : ps.length ≤ 40 := Nat.le_trans (len_le_total h.ok) h.few
theorem n_le_total : ∀ {ps : List Pc} {p : Pc}, p ∈ ps → p.n ≤ total ps
  | q :: ps, p, h => by
    have e : total (q :: ps) = q.n + total ps := rfl
    rcases List.mem_cons.mp h with h | h
    · rw [h, e]; omega
    · have := n_le_total h
      omega
theorem mk_len {bs : List Str} {p : Pc} (h : p.fits bs.length) : (p.mk bs).length = p.n := by
  cases p with
  | take b m =>
    show ((bs.drop b).take m).length = m
    have h : b + m ≤ bs.length := h
    rw [List.length_take, List.length_drop]
    omega
  | put rs => rfl
theorem makes_len {bs : List Str} : ∀ {ps : List Pc}, (∀ p ∈ ps, p.fits bs.length) → (makes bs ps).length = total ps
  | [], _ => rfl
  | p :: ps, h => by
    show (p.mk bs ++ makes bs ps).length = p.n + total ps
    rw [List.length_append, mk_len (h p (List.mem_cons_self ..)), makes_len fun q hq => h q (List.mem_cons_of_mem _ hq)]
/-! ### as they stand in the heap -/
def TM (H H' : Hp) : Prop := ∀ (a : Addr) (xs : List V), H a = some (.tup xs) → H' a = some (.tup xs)
theorem TM.of {H H' : Hp} (s : Same H H') : TM H H' := fun a xs h => s _ _ h
theorem TM.trans {H H1 H2 : Hp} (a : TM H H1) (b : TM H1 H2) : TM H H2 := fun x xs h => b _ _ (a _ _ h)
theorem Kp.tm {D : Addr} {H H' : Hp} {c : Addr} {ns : List Int} {t : Nat} (k : Kp D H H') (d : Dk c D ns t H) : TM H H' := fun a xs h => k.tup d a xs h
def RwAt (H : Hp) (a : Addr) (rs : List Str) : Prop := H a = some (.tup (rs.map V.str))
def PcAt (H : Hp) (a : Addr) : Pc → Prop
  | .take b m => H a = some (.tup [.str "take", .int (b : Int), .int (m : Int)])
  | .put rs => ∃ r, H a = some (.tup [.str "put", .ref r]) ∧ RwAt H r rs
theorem PcAt.mono {H H' : Hp} {a : Addr} {p : Pc} (h : PcAt H a p) (s : TM H H') : PcAt H' a p := by
  cases p with
  | take b m => exact s _ _ h
  | put rs =>
    obtain ⟨r, h1, h2⟩ := h
    exact ⟨r, s _ _ h1, s _ _ h2⟩
/-- the pieces at these addresses -/
def PsAt (H : Hp) (as : List Addr) (ps : List Pc) : Prop := as.length = ps.length ∧ ∀ (i : Nat) (a : Addr) (p : Pc), as[i]? = some a → ps[i]? = some p → PcAt H a p
theorem PsAt.mono {H H' : Hp} {as : List Addr} {ps : List Pc} (h : PsAt H as ps) (s : TM H H') : PsAt H' as ps := ⟨h.1, fun i a p h1 h2 => (h.2 i a p h1 h2).mono s⟩
theorem PsAt.nil {H : Hp} : PsAt H [] [] := ⟨rfl, fun i a p h => by cases h⟩
theorem PsAt.snoc {H : Hp} {as : List Addr} {ps : List Pc} {T : Addr} {p : Pc} (h : PsAt H as ps) (hT : PcAt H T p) : PsAt H (as ++ [T]) (ps ++ [p]) := by
  refine ⟨by rw [List.length_append, List.length_append, h.1]; rfl, fun i a m h1 h2 => ?_⟩
  by_cases hi : i < as.length
  · rw [List.getElem?_append_left hi] at h1
    rw [List.getElem?_append_left (by rw [← h.1]; exact hi)] at h2
    exact h.2 i a m h1 h2
  · have hi2 : i < (as ++ [T]).length := (List.getElem?_eq_some_iff.mp h1).1
    rw [List.length_append, List.length_singleton] at hi2
    have e : i = as.length := by omega
    rw [List.getElem?_append_right (by omega), e, Nat.sub_self] at h1
    rw [List.getElem?_append_right (by rw [← h.1]; omega), e, h.1, Nat.sub_self] at h2
    cases Option.some.inj h1
    cases Option.some.inj h2
    exact hT
def ScAt (H : Hp) (s : Addr) (ps : List Pc) : Prop := ∃ as : List Addr, H s = some (.tup (as.map V.ref)) ∧ PsAt H as ps
theorem ScAt.mono {H H' : Hp} {s : Addr} {ps : List Pc} (h : ScAt H s ps) (m : TM H H') : ScAt H' s ps := by
  obtain ⟨as, h1, h2⟩ := h
  exact ⟨as, m _ _ h1, h2.mono m⟩
/-- the i-th value of a script's tuple -/
theorem sc_get {as : List Addr} {ps : List Pc} {H : Hp} {i : Nat} {x : V} (h : PsAt H as ps) (hx : (as.map V.ref)[i]? = some x) : ∃ a p, x = .ref a ∧ as[i]? = some a ∧ ps[i]? = some p ∧ PcAt H a p := by
  rw [List.getElem?_map] at hx
  cases q : as[i]? with
  | none => rw [q] at hx; cases hx
  | some a =>
    rw [q] at hx
    have hi : i < ps.length := by rw [← h.1]; exact (List.getElem?_eq_some_iff.mp q).1
    exact ⟨a, ps[i], (Option.some.inj hx).symm, rfl, List.getElem?_eq_getElem hi, h.2 i a _ q (List.getElem?_eq_getElem hi)⟩
theorem put_take : decide (V.str "put" = V.str "take") = false := decide_eq_false (by intro h; injection h with h; exact absurd h (by decide +kernel))
theorem take_put : decide (V.str "take" = V.str "put") = false := decide_eq_false (by intro h; injection h with h; exact absurd h (by decide +kernel))
/-- the word of a piece, its other parts -/
theorem PcAt.word {K : PySem.W.Frag} {H : Hp} {a : Addr} {p : Pc} {Q : VK} (h : PcAt H a p) (ht : ∀ b m, p = .take b m → Q (.str "take") H) (hp : ∀ rs, p = .put rs → Q (.str "put") H) : rIx K (.ref a) (.int 0) H Q := by
  cases p with
  | take b m => exact ixT h rfl (ht b m rfl)
  | put rs => obtain ⟨r, h1, h2⟩ := h; exact ixT h1 rfl (hp rs rfl)
/-! ### forms of texts -/
def sp_is_sign (_ : PySem.W.Frag) : Sp := fun vs H Q _ => ∃ c : Nat, vs = [.str ⟨#[c]⟩] ∧ OkC c ∧ Q (.bl true) H
def sp_is_text (_ : PySem.W.Frag) : Sp := fun vs H Q _ => ∃ z : Str, vs = [.str z] ∧ OkS z ∧ ∀ H', Same H H' → Q (.bl true) H'
def sp_is_row (_ : PySem.W.Frag) : Sp := fun vs H Q _ => ∃ z : Str, vs = [.str z] ∧ OkS z ∧ ∀ H', Same H H' → Q (.bl true) H'
def sp_is_intI (_ : PySem.W.Frag) : Sp := fun vs H Q _ => ∃ i : Int, vs = [.int i] ∧ Q (.bl true) H
def sp_is_pairT (_ : PySem.W.Frag) : Sp := fun vs H Q _ => ∃ (a : Addr) (x y : V), vs = [.ref a] ∧ H a = some (.tup [x, y]) ∧ Q (.bl true) H
def sp_are_put (_ : PySem.W.Frag) : Sp := fun vs H Q _ => ∃ (a : Addr) (rs : List Str), vs = [.ref a] ∧ RwAt H a rs ∧ rs ≠ [] ∧ rs.length ≤ 1000 ∧ (∀ z ∈ rs, OkS z) ∧ ∀ H', Same H H' → Q (.bl true) H'
def sp_rows_in (_ : PySem.W.Frag) : Sp := fun vs H Q _ => ∃ (a : Addr) (p : Pc), vs = [.ref a] ∧ PcAt H a p ∧ Q (.int (p.n : Int)) H
def sp_is_piece (_ : PySem.W.Frag) : Sp := fun vs H Q _ => ∃ (a : Addr) (p : Pc), vs = [.ref a] ∧ PcAt H a p ∧ p.ok ∧ p.n ≤ 1000 ∧ ∀ H', Same H H' → Q (.bl true) H'
def sp_is_script (_ : PySem.W.Frag) : Sp := fun vs H Q _ => ∃ (a : Addr) (ps : List Pc), vs = [.ref a] ∧ ScAt H a ps ∧ ScOk ps ∧ ∀ H', Same H H' → Q (.bl true) H'
def sp_is_right_over (_ : PySem.W.Frag) : Sp := fun vs H Q _ => ∃ (B a : Addr) (bs : List Str) (ps : List Pc), vs = [.ref B, .ref a] ∧ RwAt H B bs ∧ ScAt H a ps ∧ ScOk ps ∧ (∀ p ∈ ps, p.fits bs.length) ∧ ∀ H', Same H H' → Q (.bl true) H'
def sp_refuse_wrong (_ : PySem.W.Frag) : Sp := fun vs H Q _ => ∃ (B a : Addr) (bs : List Str) (ps : List Pc), vs = [.ref B, .ref a] ∧ RwAt H B bs ∧ ScAt H a ps ∧ ScOk ps ∧ (∀ p ∈ ps, p.fits bs.length) ∧ ∀ H', Same H H' → Q .non H'
def sp_made (_ : PySem.W.Frag) : Sp := fun vs H Q _ => ∃ (B a : Addr) (bs : List Str) (ps : List Pc), vs = [.ref B, .ref a] ∧ RwAt H B bs ∧ ScAt H a ps ∧ ScOk ps ∧ (∀ p ∈ ps, p.fits bs.length) ∧ ∀ (r : Addr) (H' : Hp), Same H H' → RwAt H' r (makes bs ps) → Q (.ref r) H'
abbrev sp_done (K : PySem.W.Frag) : Sp := sp_made K
abbrev sp_l_made (K : PySem.W.Frag) : Sp := sp_made K
def sp_price (_ : PySem.W.Frag) : Sp := fun vs H Q _ => ∃ (a : Addr) (ps : List Pc) (t p : Int), vs = [.ref a, .int t, .int p] ∧ ScAt H a ps ∧ ScOk ps ∧ 0 ≤ t ∧ t ≤ 10000000 ∧ 0 ≤ p ∧ p ≤ 10000000 ∧ ∀ H', Same H H' → Q (.int (cost t p ps)) H'
def sp_l_cost (_ : PySem.W.Frag) : Sp := fun vs H Q _ => ∃ (a : Addr) (ps : List Pc) (t p : Int), vs = [.ref a, .int t, .int p] ∧ ScAt H a ps ∧ ScOk ps ∧ 0 ≤ t ∧ t ≤ 10000000 ∧ 0 ≤ p ∧ p ≤ 10000000 ∧ Q (.int (cost t p ps)) H
section
variable {K : PySem.W.Frag} {vs : List V} {H : Hp} {Q : VK} {E : XK}
theorem len_is_sign (h : sp_is_sign K vs H Q E) : vs.length = 1 := by obtain ⟨_, rfl, _⟩ := h; rfl
theorem len_is_text (h : sp_is_text K vs H Q E) : vs.length = 1 := by obtain ⟨_, rfl, _⟩ := h; rfl
theorem len_is_row (h : sp_is_row K vs H Q E) : vs.length = 1 := by obtain ⟨_, rfl, _⟩ := h; rfl
theorem len_is_intI (h : sp_is_intI K vs H Q E) : vs.length = 1 := by obtain ⟨_, rfl, _⟩ := h; rfl
theorem len_is_pairT (h : sp_is_pairT K vs H Q E) : vs.length = 1 := by obtain ⟨_, _, _, rfl, _⟩ := h; rfl
theorem len_are_put (h : sp_are_put K vs H Q E) : vs.length = 1 := by obtain ⟨_, _, rfl, _⟩ := h; rfl
theorem len_rows_in (h : sp_rows_in K vs H Q E) : vs.length = 1 := by obtain ⟨_, _, rfl, _⟩ := h; rfl
theorem len_is_piece (h : sp_is_piece K vs H Q E) : vs.length = 1 := by obtain ⟨_, _, rfl, _⟩ := h; rfl
theorem len_is_script (h : sp_is_script K vs H Q E) : vs.length = 1 := by obtain ⟨_, _, rfl, _⟩ := h; rfl
theorem len_is_right_over (h : sp_is_right_over K vs H Q E) : vs.length = 2 := by obtain ⟨_, _, _, _, rfl, _⟩ := h; rfl
theorem len_refuse_wrong (h : sp_refuse_wrong K vs H Q E) : vs.length = 2 := by obtain ⟨_, _, _, _, rfl, _⟩ := h; rfl
theorem len_made (h : sp_made K vs H Q E) : vs.length = 2 := by obtain ⟨_, _, _, _, rfl, _⟩ := h; rfl
theorem len_done (h : sp_done K vs H Q E) : vs.length = 2 := len_made h
theorem len_l_made (h : sp_l_made K vs H Q E) : vs.length = 2 := len_made h
theorem len_price (h : sp_price K vs H Q E) : vs.length = 3 := by obtain ⟨_, _, _, _, rfl, _⟩ := h; rfl
theorem len_l_cost (h : sp_l_cost K vs H Q E) : vs.length = 3 := by obtain ⟨_, _, _, _, rfl, _⟩ := h; rfl
end
abbrev N_is_int : List Str := ["thing"]
def t_is_int (K : PySem.W.Frag) : TS := (tRet (tAndV (tCB (rIsi K) (tCons (tVar 0) (tCons (tC (.ty "int")) tNil))) (tNotV (tCB (rIsi K) (tCons (tVar 0) (tCons (tC (.ty "bool")) tNil))))))
abbrev N_is_text : List Str := ["thing", "sign"]
def t_is_text (K : PySem.W.Frag) : TS := (tRet (tAndV (tCB (rIsi K) (tCons (tVar 0) (tCons (tC (.ty "str")) tNil))) (tCB (rAll K) (tCons (tLc (iStr (tVar 0)) (gName 1) tYes (tCall (sp_is_sign K) [] E0 (tCons (tVar 1) tNil)) [1]) tNil))))
abbrev N_is_sign : List Str := ["sign"]
def t_is_sign (K : PySem.W.Frag) : TS := (tRet (tAndV (tChain rLeS rLeS (tC (.str " ")) (tVar 0) (tC (.str "~"))) (tOp rNe (tCB fOrd (tCons (tVar 0) tNil)) (tC (.int 37)))))
abbrev N_is_pair : List Str := ["thing"]
def t_is_pair (K : PySem.W.Frag) : TS := (tRet (tAndV (tCB (rIsi K) (tCons (tVar 0) (tCons (tC (.ty "tuple")) tNil))) (tOp rEq (tCB (fLen K) (tCons (tVar 0) tNil)) (tC (.int 2)))))
abbrev N_is_row : List Str := ["thing"]
def t_is_row (K : PySem.W.Frag) : TS := (tRet (tAndV (tCall (sp_is_text K) [] E0 (tCons (tVar 0) tNil)) (tOp rLeI (tCB (fLen K) (tCons (tVar 0) tNil)) (tC (.int 40)))))
abbrev N_is_script : List Str := ["thing", "piece"]
def t_is_script (K : PySem.W.Frag) : TS := (tSeq (tIfS (tOr (tNot (tB (tCB (rIsi K) (tCons (tVar 0) (tCons (tC (.ty "tuple")) tNil))))) (tNot (tB (tCB (rAll K) (tCons (tLc (iTup K (tVar 0)) (gName 1) tYes (tCall (sp_is_piece K) [] E0 (tCons (tVar 1) tNil)) [1]) tNil))))) (tRet (tC (.bl false))) tNext)
    (tRet (tOp rLeI (tCB (rSum K) (tCons (tLc (iTup K (tVar 0)) (gName 1) tYes (tCall (sp_rows_in K) [] E0 (tCons (tVar 1) tNil)) [1]) tNil)) (tC (.int 40)))))
abbrev N_is_piece : List Str := ["thing"]
def t_is_piece (K : PySem.W.Frag) : TS := (tSeq (tIfS (tOr (tNot (tB (tCB (rIsi K) (tCons (tVar 0) (tCons (tC (.ty "tuple")) tNil))))) (tTest (tOp rEq (tCB (fLen K) (tCons (tVar 0) tNil)) (tC (.int 0))))) (tRet (tC (.bl false))) tNext)
    (tSeq (tIfS (tTest (tOp rEq (tOp (rIx K) (tVar 0) (tC (.int 0))) (tC (.str "take")))) (tRet (tAndV (tOp rEq (tCB (fLen K) (tCons (tVar 0) tNil)) (tC (.int 3))) (tAndV (tCall (sp_is_intI K) [] E0 (tCons (tOp (rIx K) (tVar 0) (tC (.int 1))) tNil)) (tAndV (tCall (sp_is_intI K) [] E0 (tCons (tOp (rIx K) (tVar 0) (tC (.int 2))) tNil)) (tAndV (tOp rGeI (tOp (rIx K) (tVar 0) (tC (.int 1))) (tC (.int 0))) (tOp rGeI (tOp (rIx K) (tVar 0) (tC (.int 2))) (tC (.int 1)))))))) tNext)
    (tRet (tAndV (tOp rEq (tOp (rIx K) (tVar 0) (tC (.int 0))) (tC (.str "put"))) (tAndV (tCall (sp_is_pairT K) [] E0 (tCons (tVar 0) tNil)) (tCall (sp_are_put K) [] E0 (tCons (tOp (rIx K) (tVar 0) (tC (.int 1))) tNil)))))))
abbrev N_are_put : List Str := ["thing", "row"]
def t_are_put (K : PySem.W.Frag) : TS := (tRet (tAndV (tCB (rIsi K) (tCons (tVar 0) (tCons (tC (.ty "tuple")) tNil))) (tAndV (tOp rGtI (tCB (fLen K) (tCons (tVar 0) tNil)) (tC (.int 0))) (tCB (rAll K) (tCons (tLc (iTup K (tVar 0)) (gName 1) tYes (tCall (sp_is_row K) [] E0 (tCons (tVar 1) tNil)) [1]) tNil)))))
abbrev N_rows_in : List Str := ["piece"]
def t_rows_in (K : PySem.W.Frag) : TS := (tRet (tIf (tTest (tOp rEq (tOp (rIx K) (tVar 0) (tC (.int 0))) (tC (.str "put")))) (tCB (fLen K) (tCons (tOp (rIx K) (tVar 0) (tC (.int 1))) tNil)) (tOp (rIx K) (tVar 0) (tC (.int 2)))))
abbrev N_is_right_over : List Str := ["base", "thing", "piece"]
def t_is_right_over (K : PySem.W.Frag) : TS := (tSeq (tIfS (tNot (tB (tCall (sp_is_script K) [] E0 (tCons (tVar 1) tNil)))) (tRet (tC (.bl false))) tNext)
    (tRet (tCB (rAll K) (tCons (tLc (iTup K (tVar 1)) (gName 2) tYes (tOrV (tOp rEq (tOp (rIx K) (tVar 2) (tC (.int 0))) (tC (.str "put"))) (tOp rLeI (tOp rAddI (tOp (rIx K) (tVar 2) (tC (.int 1))) (tOp (rIx K) (tVar 2) (tC (.int 2)))) (tCB (fLen K) (tCons (tVar 0) tNil)))) [2]) tNil))))
abbrev N_refuse_wrong : List Str := ["base", "thing"]
def t_refuse_wrong (K : PySem.W.Frag) : TS := (tIfS (tNot (tB (tCall (sp_is_right_over K) [] E0 (tCons (tVar 0) (tCons (tVar 1) tNil))))) tNever tNext)
abbrev N_done : List Str := ["base", "script"]
def t_done (K : PySem.W.Frag) : TS := (tSeq (tDrop (tCall (sp_refuse_wrong K) [] E0 (tCons (tVar 0) (tCons (tVar 1) tNil))))
    (tRet (tCall (sp_made K) [] E0 (tCons (tVar 0) (tCons (tVar 1) tNil)))))
abbrev N_made : List Str := ["base", "script", "rows", "piece"]
def t_made (K : PySem.W.Frag) : TS := (tSeq (tAsg (tLst tNil) (gName 2))
    (tSeq (tFor (iTup K (tVar 1)) (gName 3) (tDrop (tBM K "list" (rExtendA K) (tVar 2) (tCons (tIf (tTest (tOp rEq (tOp (rIx K) (tVar 3) (tC (.int 0))) (tC (.str "put")))) (tOp (rIx K) (tVar 3) (tC (.int 1))) (tSl (rSlA K) (tVar 0) (tPart (tOp (rIx K) (tVar 3) (tC (.int 1)))) (tPart (tOp rAddI (tOp (rIx K) (tVar 3) (tC (.int 1))) (tOp (rIx K) (tVar 3) (tC (.int 2))))))) tNil))))
    (tRet (tCB (fTupleOf K) (tCons (tVar 2) tNil)))))
abbrev N_price : List Str := ["script", "take", "put", "piece"]
def t_price (K : PySem.W.Frag) : TS := (tSeq (tIfS (tNot (tB (tCall (sp_is_script K) [] E0 (tCons (tVar 0) tNil)))) tNever tNext)
    (tRet (tCB (rSum K) (tCons (tLc (iTup K (tVar 0)) (gName 3) tYes (tIf (tTest (tOp rEq (tOp (rIx K) (tVar 3) (tC (.int 0))) (tC (.str "put")))) (tOp rMulI (tVar 2) (tCall (sp_rows_in K) [] E0 (tCons (tVar 3) tNil))) (tVar 1)) [3]) tNil))))
abbrev N_l_made : List Str := ["_law_base", "_law_pieces", "_law_made_here", "_law_piece", "_law_k", "_law_line"]
def t_l_made (K : PySem.W.Frag) : TS := (tSeq (tAsg (tLst tNil) (gName 2))
    (tSeq (tFor (iTup K (tVar 1)) (gName 3) (tIfS (tTest (tOp rEq (tOp (rIx K) (tVar 3) (tC (.int 0))) (tC (.str "take")))) (tFor (iRng1 (tCons (tOp (rIx K) (tVar 3) (tC (.int 2))) tNil)) (gName 4) (tDrop (tBM K "list" rAppend (tVar 2) (tCons (tOp (rIx K) (tVar 0) (tOp rAddI (tOp (rIx K) (tVar 3) (tC (.int 1))) (tVar 4))) tNil)))) (tFor (iTup K (tOp (rIx K) (tVar 3) (tC (.int 1)))) (gName 5) (tDrop (tBM K "list" rAppend (tVar 2) (tCons (tVar 5) tNil))))))
    (tRet (tCB (fTupleOf K) (tCons (tVar 2) tNil)))))
abbrev N_l_cost : List Str := ["_law_pieces", "_law_by_take", "_law_by_put", "_law_total", "_law_piece"]
def t_l_cost (K : PySem.W.Frag) : TS := (tSeq (tAsg (tC (.int 0)) (gName 3))
    (tSeq (tFor (iTup K (tVar 0)) (gName 4) (tIfS (tTest (tOp rEq (tOp (rIx K) (tVar 4) (tC (.int 0))) (tC (.str "take")))) (tAsg (tOp rAddI (tVar 3) (tVar 1)) (gName 3)) (tAsg (tOp rAddI (tVar 3) (tOp rMulI (tVar 2) (tCB (fLen K) (tCons (tOp (rIx K) (tVar 4) (tC (.int 1))) tNil)))) (gName 3))))
    (tRet (tVar 3))))
theorem blT {p : Prop} [Decidable p] {Q : VK} {H : Hp} (h : p) (q : Q (.bl true) H) : Q (.bl (decide p)) H := by rw [decide_eq_true h]; exact q
theorem blF {p : Prop} [Decidable p] {Q : VK} {H : Hp} (h : ¬ p) (q : Q (.bl false) H) : Q (.bl (decide p)) H := by rw [decide_eq_false h]; exact q
theorem rep_get {n i : Nat} {y : V} {x : V} (h : (List.replicate n x)[i]? = some y) : y = x := by
  obtain ⟨_, e⟩ := List.getElem?_eq_some_iff.mp h
  rw [← e, List.getElem_replicate]
theorem all_rep (n : Nat) : (List.replicate n true).all id = true := by
  rw [List.all_eq_true]
  intro x hx
  rw [List.eq_of_mem_replicate hx]
  rfl
theorem yStr {z : Str} : ∀ (i : Nat) (H : Hp) (x : V) (H' : Hp), (H' = H ∧ ∃ c, z.cps[i]? = some c ∧ x = .str ⟨#[c]⟩) → H' = H := fun _ _ _ _ h => h.1
theorem yAt {xs : List V} : ∀ (i : Nat) (H : Hp) (x : V) (H' : Hp), YAt xs i H x H' → H' = H := fun _ _ _ _ h => h.1
theorem yFn {f : Nat → V} : ∀ (i : Nat) (H : Hp) (x : V) (H' : Hp), YFn f i H x H' → H' = H := fun _ _ _ _ h => h.1
theorem blank_le {c : Nat} (h : 32 ≤ c) : (!decide ((⟨#[c]⟩ : Str).cps.toList < (" " : Str).cps.toList)) = true := by
  have e : (" " : Str).cps.toList = [32] := by decide +kernel
  rw [e]
  show (!decide ([c] < [32])) = true
  rw [decide_eq_false]
  · rfl
  · intro h2
    rcases List.cons_lt_cons_iff.mp h2 with h3 | h3
    · omega
    · exact absurd h3.2 (by decide)
theorem le_tilde {c : Nat} (h : c ≤ 126) : (!decide (("~" : Str).cps.toList < (⟨#[c]⟩ : Str).cps.toList)) = true := by
  have e : ("~" : Str).cps.toList = [126] := by decide +kernel
  rw [e]
  show (!decide ([126] < [c])) = true
  rw [decide_eq_false]
  · rfl
  · intro h2
    rcases List.cons_lt_cons_iff.mp h2 with h3 | h3
    · omega
    · exact absurd h3.2 (by decide)
section
variable {K : PySem.W.Frag} {vs : List V} {H : Hp} {Q : VK} {E : XK}
theorem pure_is_intI (h : sp_is_intI K vs H Q E) : t_is_int K { nx := fun _ H' => Q .non H', rt := Q } (start N_is_int vs) H := by
  obtain ⟨i, rfl, k⟩ := h
  exact ⟨_, rfl, isi (.base (.int i)) k_ii ⟨_, rfl, iteT ⟨_, rfl, isi (.base (.int i)) k_ib ⟨_, rfl, k⟩⟩⟩⟩
theorem pure_is_pairT (h : sp_is_pairT K vs H Q E) : t_is_pair K { nx := fun _ H' => Q .non H', rt := Q } (start N_is_pair vs) H := by
  obtain ⟨a, x, y, rfl, ha, k⟩ := h
  exact ⟨_, rfl, isi (.base (.tup ha)) k_tt ⟨_, rfl, iteT ⟨_, rfl, lenT ha ⟨rfl, k⟩⟩⟩⟩
theorem pure_is_sign (h : sp_is_sign K vs H Q E) : t_is_sign K { nx := fun _ H' => Q .non H', rt := Q } (start N_is_sign vs) H := by
  obtain ⟨c, rfl, ⟨h1, h2, h3⟩, k⟩ := h
  refine ⟨_, rfl, _, _, rfl, rfl, _, rfl, ?_⟩
  rw [blank_le h1]
  refine iteT ⟨_, _, rfl, rfl, _, rfl, ?_⟩
  rw [le_tilde h2]
  refine iteT ⟨_, rfl, _, rfl, rfl, rfl, ?_⟩
  have e : decide (V.int (((⟨#[c]⟩ : Str).cps.getD 0 0 : Nat) : Int) = V.int 37) = false := decide_eq_false (by
    intro h
    injection h with h
    have h : (c : Int) = 37 := h
    omega)
  rw [e]
  exact k
theorem pure_is_text (h : sp_is_text K vs H Q E) : t_is_text K { nx := fun _ H' => Q .non H', rt := Q } (start N_is_text vs) H := by
  obtain ⟨z, rfl, ⟨h1, h2⟩, k⟩ := h
  refine ⟨_, rfl, isi (.base (.str z)) k_ss ⟨_, rfl, iteT ⟨_, rfl, z, rfl, fun L nL => ?_⟩⟩⟩
  refine lc_grow walk_str yStr (ys := List.replicate z.cps.size (.bl true)) nL List.length_replicate (by omega) (fun _ _ => True.intro) ?_ ?_
  · rintro i x y H' R hi ⟨_, c, hc, rfl⟩ hy s r
    refine ⟨rfl, ⟨_, rfl, c, rfl, ?_, ?_⟩⟩
    · exact h2 c (by obtain ⟨q1, q2⟩ := Array.getElem?_eq_some_iff.mp hc; rw [← q2]; exact Array.getElem_mem_toList q1)
    · rw [← rep_get hy]
      exact r _ (Same.refl _)
  · intro H' s hL
    refine ⟨L, List.replicate z.cps.size true, rfl, sqL (by rw [hL, List.map_replicate]), ?_⟩
    rw [all_rep]
    exact k _ s
theorem pure_is_row (h : sp_is_row K vs H Q E) : t_is_row K { nx := fun _ H' => Q .non H', rt := Q } (start N_is_row vs) H := by
  obtain ⟨z, rfl, o, k⟩ := h
  refine ⟨_, rfl, z, rfl, o, fun H' s => ⟨_, rfl, iteT ⟨_, rfl, lenS (Nat.le_trans o.1 (by decide)) ⟨_, _, rfl, rfl, ?_⟩⟩⟩⟩
  exact blT (Q := Q) (show ((z.length : Nat) : Int) ≤ 40 by have := o.1; show ((z.cps.size : Nat) : Int) ≤ 40; omega) (k _ s)
theorem pure_are_put (h : sp_are_put K vs H Q E) : t_are_put K { nx := fun _ H' => Q .non H', rt := Q } (start N_are_put vs) H := by
  obtain ⟨a, rs, rfl, ha, h0, hz, ho, k⟩ := h
  refine ⟨_, rfl, isi (.base (.tup ha)) k_tt ⟨_, rfl, iteT ⟨_, rfl, lenT ha ⟨_, _, rfl, rfl, _, rfl, ?_⟩⟩⟩⟩
  have hl : 0 < rs.length := List.length_pos_iff.mpr h0
  rw [decide_eq_true (show (0 : Int) < ((rs.map V.str).length : Int) by rw [List.length_map]; omega)]
  refine iteT ⟨_, rfl, a, rfl, ⟨_, sqT ha⟩, fun L nL => ?_⟩
  refine lc_grow (walk_tup (xs := rs.map V.str)) yAt (ys := List.replicate (rs.map V.str).length (.bl true)) nL List.length_replicate (by rw [List.length_map]; omega) (fun H' s => sqT (s _ _ ha)) ?_ ?_
  · rintro i x y H' R hi ⟨_, hx⟩ hy s r
    rw [List.getElem?_map] at hx
    cases q : rs[i]? with
    | none => rw [q] at hx; cases hx
    | some z =>
      rw [q] at hx
      cases Option.some.inj hx
      refine ⟨rfl, ⟨_, rfl, z, rfl, ho z (List.mem_of_getElem? q), ?_⟩⟩
      rw [rep_get hy] at r
      exact r
  · intro H' s hL
    refine ⟨L, List.replicate (rs.map V.str).length true, rfl, sqL (by rw [hL, List.map_replicate]), ?_⟩
    rw [all_rep]
    exact k _ s
theorem pure_rows_in (h : sp_rows_in K vs H Q E) : t_rows_in K { nx := fun _ H' => Q .non H', rt := Q } (start N_rows_in vs) H := by
  obtain ⟨a, p, rfl, ha, k⟩ := h
  cases p with
  | take b m =>
    refine ⟨_, rfl, ixT ha rfl ⟨rfl, _, rfl, ?_⟩⟩
    rw [take_put]
    exact iteF ⟨_, rfl, ixT ha rfl k⟩
  | put rs =>
    obtain ⟨r, h1, h2⟩ := ha
    refine ⟨_, rfl, ixT h1 rfl ⟨rfl, _, rfl, ?_⟩⟩
    rw [decide_eq_true rfl]
    refine iteT ⟨_, rfl, ixT h1 rfl (lenT h2 ?_)⟩
    rw [List.length_map]
    exact k
theorem pure_is_piece (h : sp_is_piece K vs H Q E) : t_is_piece K { nx := fun _ H' => Q .non H', rt := Q } (start N_is_piece vs) H := by
  obtain ⟨a, p, rfl, ha, ok, hz, k⟩ := h
  cases p with
  | take b m =>
    have ok : 1 ≤ m := ok
    refine ⟨_, rfl, isi (.base (.tup ha)) k_tt ⟨_, rfl, iteF ⟨_, rfl, lenT ha ⟨rfl, _, rfl, ?_⟩⟩⟩⟩
    refine iteF ⟨_, rfl, ixT ha rfl ⟨rfl, _, rfl, ?_⟩⟩
    rw [decide_eq_true rfl]
    refine iteT ⟨_, rfl, lenT ha ⟨rfl, _, rfl, iteT ?_⟩⟩
    refine ⟨_, rfl, ixT ha rfl ⟨_, rfl, _, rfl, iteT ⟨_, rfl, ixT ha rfl ⟨_, rfl, _, rfl, iteT ?_⟩⟩⟩⟩
    refine ⟨_, rfl, ixT ha rfl ⟨_, _, rfl, rfl, _, rfl, ?_⟩⟩
    rw [decide_eq_true (show (0 : Int) ≤ (b : Int) by omega)]
    refine iteT ⟨_, rfl, ixT ha rfl ⟨_, _, rfl, rfl, ?_⟩⟩
    exact blT (Q := Q) (show (1 : Int) ≤ (m : Int) by omega) (k _ (Same.refl _))
  | put rs =>
    obtain ⟨r, h1, h2⟩ := ha
    refine ⟨_, rfl, isi (.base (.tup h1)) k_tt ⟨_, rfl, iteF ⟨_, rfl, lenT h1 ⟨rfl, _, rfl, ?_⟩⟩⟩⟩
    refine iteF ⟨_, rfl, ixT h1 rfl ⟨rfl, _, rfl, ?_⟩⟩
    rw [put_take]
    refine iteF ⟨_, rfl, ixT h1 rfl ⟨rfl, _, rfl, ?_⟩⟩
    rw [decide_eq_true rfl]
    refine iteT ⟨_, rfl, a, _, _, rfl, h1, _, rfl, iteT ⟨_, rfl, ixT h1 rfl ⟨r, rs, rfl, h2, ok.1, hz, ok.2, k⟩⟩⟩
theorem pure_is_script (h : sp_is_script K vs H Q E) : t_is_script K { nx := fun _ H' => Q .non H', rt := Q } (start N_is_script vs) H := by
  obtain ⟨a, ps, rfl, ⟨as, ha, hp⟩, ok, k⟩ := h
  have hl : (as.map V.ref).length = ps.length := by rw [List.length_map, hp.1]
  have hz := ok.len
  refine ⟨_, rfl, isi (.base (.tup ha)) k_tt ⟨_, rfl, iteF ⟨_, rfl, a, rfl, ⟨_, sqT ha⟩, fun L nL => ?_⟩⟩⟩
  refine lc_grow (walk_tup (xs := as.map V.ref)) yAt (ys := List.replicate (as.map V.ref).length (.bl true)) nL List.length_replicate (by omega) (fun H' s => sqT (s _ _ ha)) ?_ ?_
  · rintro i x y H' R hi ⟨_, hx⟩ hy s r
    obtain ⟨b, p, rfl, h1, h2, h3⟩ := sc_get (hp.mono (.of s)) hx
    refine ⟨rfl, ⟨_, rfl, b, p, rfl, h3, ok.ok p (List.mem_of_getElem? h2), ?_, ?_⟩⟩
    · have := n_le_total (List.mem_of_getElem? h2)
      have := ok.few
      omega
    · rw [rep_get hy] at r
      exact r
  · intro H1 s1 hL
    refine ⟨L, List.replicate (as.map V.ref).length true, rfl, sqL (by rw [hL, List.map_replicate]), ?_⟩
    rw [all_rep]
    refine ⟨_, rfl, iteF ⟨_, rfl, a, rfl, ⟨_, sqT (s1 _ _ ha)⟩, fun L2 nL2 => ?_⟩⟩
    refine lc_grow (walk_tup (xs := as.map V.ref)) yAt (ys := (ps.map fun p => (p.n : Int)).map V.int) nL2 (by rw [List.length_map, List.length_map, hl]) (by omega) (fun H' s => sqT (s _ _ (s1 _ _ ha))) ?_ ?_
    · rintro i x y H' R hi ⟨_, hx⟩ hy s r
      obtain ⟨b, p, rfl, h1, h2, h3⟩ := sc_get (hp.mono (.of (s1.trans s))) hx
      rw [List.getElem?_map, List.getElem?_map, h2] at hy
      cases Option.some.inj hy
      exact ⟨rfl, ⟨_, rfl, b, p, rfl, h3, r _ (Same.refl _)⟩⟩
    · intro H2 s2 hL2
      refine ⟨L2, _, rfl, sqL hL2, _, _, rfl, rfl, ?_⟩
      have e : (ps.map fun p => (p.n : Int)).sum = ((total ps : Nat) : Int) := by
        unfold total
        clear hp ha hl hz k ok s1 s2 hL hL2
        induction ps with
        | nil => rfl
        | cons p ps ih =>
          rw [List.map_cons, List.map_cons, List.sum_cons, List.sum_cons, ih]
          omega
      rw [e]
      exact blT (Q := Q) (show ((total ps : Nat) : Int) ≤ 40 by have := ok.few; omega) (k _ (s1.trans s2))
theorem pure_is_right_over (h : sp_is_right_over K vs H Q E) : t_is_right_over K { nx := fun _ H' => Q .non H', rt := Q } (start N_is_right_over vs) H := by
  obtain ⟨B, a, bs, ps, rfl, hB, sc, ok, fit, k⟩ := h
  refine ⟨_, rfl, a, ps, rfl, sc, ok, fun H1 s1 => ⟨_, rfl, iteF ?_⟩⟩
  obtain ⟨as, ha, hp⟩ := sc.mono (.of s1)
  have hB1 : H1 B = some (.tup (bs.map V.str)) := s1 _ _ hB
  have hl : (as.map V.ref).length = ps.length := by rw [List.length_map, hp.1]
  have hz := ok.len
  refine ⟨_, rfl, a, rfl, ⟨_, sqT ha⟩, fun L nL => ?_⟩
  refine lc_grow (walk_tup (xs := as.map V.ref)) yAt (ys := List.replicate (as.map V.ref).length (.bl true)) nL List.length_replicate (by omega) (fun H' s => sqT (s _ _ ha)) ?_ ?_
  · rintro i x y H' R hi ⟨_, hx⟩ hy s r
    obtain ⟨b, p, rfl, h1, h2, h3⟩ := sc_get (hp.mono (.of s)) hx
    have f := fit p (List.mem_of_getElem? h2)
    rw [rep_get hy] at r
    refine ⟨rfl, ?_⟩
    cases p with
    | take c m =>
      have f : c + m ≤ bs.length := f
      refine ⟨_, rfl, ixT h3 rfl ⟨rfl, _, rfl, ?_⟩⟩
      rw [take_put]
      refine iteF ⟨_, rfl, ixT h3 rfl ⟨_, rfl, ixT h3 rfl ⟨_, _, rfl, rfl, _, rfl, lenT (s _ _ hB1) ⟨_, _, rfl, rfl, ?_⟩⟩⟩⟩
      exact blT (Q := R) (show (c : Int) + (m : Int) ≤ ((bs.map V.str).length : Int) by rw [List.length_map]; omega) (r _ (Same.refl _))
    | put rs =>
      obtain ⟨q, h4, h5⟩ := h3
      refine ⟨_, rfl, ixT h4 rfl ⟨rfl, _, rfl, ?_⟩⟩
      rw [decide_eq_true rfl]
      exact iteT (r _ (Same.refl _))
  · intro H2 s2 hL
    refine ⟨L, List.replicate (as.map V.ref).length true, rfl, sqL (by rw [hL, List.map_replicate]), ?_⟩
    rw [all_rep]
    exact k _ (s1.trans s2)
theorem pure_refuse_wrong (h : sp_refuse_wrong K vs H Q E) : t_refuse_wrong K { nx := fun _ H' => Q .non H', rt := Q } (start N_refuse_wrong vs) H := by
  obtain ⟨B, a, bs, ps, rfl, hB, sc, ok, fit, k⟩ := h
  exact ⟨_, rfl, _, rfl, B, a, bs, ps, rfl, hB, sc, ok, fit, fun H1 s1 => ⟨_, rfl, iteF (k _ s1)⟩⟩
theorem pure_done (h : sp_done K vs H Q E) : t_done K { nx := fun _ H' => Q .non H', rt := Q } (start N_done vs) H := by
  obtain ⟨B, a, bs, ps, rfl, hB, sc, ok, fit, k⟩ := h
  refine ⟨_, rfl, _, rfl, B, a, bs, ps, rfl, hB, sc, ok, fit, fun H1 s1 => ?_⟩
  exact ⟨_, rfl, _, rfl, B, a, bs, ps, rfl, s1 _ _ hB, sc.mono (.of s1), ok, fit, fun r H2 s2 => k r H2 (s1.trans s2)⟩
theorem total_take_le {ps : List Pc} (i : Nat) : total (ps.take i) ≤ total ps := by
  have e : total ps = total (ps.take i) + total (ps.drop i) := by
    unfold total
    rw [← List.sum_append, ← List.map_append, List.take_append_drop]
  omega
theorem makes_snoc {bs : List Str} {ps : List Pc} {p : Pc} {i : Nat} (h : ps[i]? = some p) : makes bs (ps.take (i + 1)) = makes bs (ps.take i) ++ p.mk bs := by
  unfold makes
  rw [List.take_add_one, h, List.map_append, List.flatten_append]
  show _ ++ (p.mk bs ++ []) = _
  rw [List.append_nil]
theorem fits_take {ps : List Pc} {L : Nat} (fit : ∀ p ∈ ps, p.fits L) (i : Nat) : ∀ p ∈ ps.take i, p.fits L := fun p hp => fit p (List.mem_of_mem_take hp)
/-- a stretch of a tuple of texts, as a slice tells it -/
theorem slA {B : Addr} {bs : List Str} {b m : Nat} (hB : H B = some (.tup (bs.map V.str))) (f : b + m ≤ bs.length) (q : ∀ (r : Addr) (H' : Hp), Same H H' → RwAt H' r ((bs.drop b).take m) → Q (.ref r) H') : rSlA K (.ref B) (some (b : Int)) (some ((b : Int) + (m : Int))) H Q := by
  have e1 : HT.sIx (bs.map V.str).length 0 (some (b : Int)) = b := by rw [HT.sIx_nat, List.length_map]; omega
  have e2 : HT.sIx (bs.map V.str).length (bs.map V.str).length (some ((b : Int) + (m : Int))) = b + m := by
    rw [show ((b : Int) + (m : Int)) = ((b + m : Nat) : Int) by omega, HT.sIx_nat, List.length_map]
    omega
  refine ⟨B, _, rfl, sqT hB, fun e => ?_, fun e r nr => ?_⟩
  · rw [e1, e2, List.length_map] at e
    obtain ⟨rfl, e⟩ := e
    refine q B H (Same.refl _) ?_
    show H B = _
    rw [hB, List.drop_zero, List.take_of_length_le (by omega)]
  · refine q r _ (Same.upd nr) ?_
    show upd H r _ r = _
    rw [updS]
    unfold cutV
    rw [e1, e2, Nat.add_sub_cancel_left, ← List.map_drop, ← List.map_take]
theorem pure_made (h : sp_made K vs H Q E) : t_made K { nx := fun _ H' => Q .non H', rt := Q } (start N_made vs) H := by
  obtain ⟨B, a, bs, ps, rfl, hB, ⟨as, ha, hp⟩, ok, fit, k⟩ := h
  refine ⟨Nat.zero_le _, fun L nL => ⟨_, rfl, a, rfl, ⟨_, sqT (updN (ne_of_none ha nL) ha)⟩, ?_⟩⟩
  refine for_tup (K := K) (a := a) (xs := as.map V.ref) (fun i σ H' => Same H H' ∧ H' L = some (.lst ((makes bs (ps.take i)).map V.str)) ∧ ∃ z, σ = [some (.ref B), some (.ref a), some (.ref L), z]) ⟨Same.upd nL, updS, none, rfl⟩ (fun i σ H' _ p => sqT (p.1 _ _ ha)) ?_ ?_
  · rintro i x σ H' hx ⟨s, hL, z, rfl⟩
    obtain ⟨c, p, rfl, h1, h2, h3⟩ := sc_get (hp.mono (.of s)) hx
    have f := fit p (List.mem_of_getElem? h2)
    have ok1 := ok.few
    have l1 := makes_len (bs := bs) (fits_take fit i)
    have l2 := total_take_le (ps := ps) i
    have l3 := mk_len f
    have l4 := n_le_total (List.mem_of_getElem? h2)
    have go : ∀ (r : Addr) (H2 : Hp), Same H' H2 → RwAt H2 r (p.mk bs) → rExtendA K (.ref L) [.ref r] H2 fun _ H3 => Same H H3 ∧ H3 L = some (.lst ((makes bs (ps.take (i + 1))).map V.str)) ∧ ∃ z, ([some (.ref B), some (.ref a), some (.ref L), some (.ref c)] : L2.St) = [some (.ref B), some (.ref a), some (.ref L), z] := by
      intro r H2 s2 hr
      refine ⟨L, r, _, _, rfl, rfl, s2 _ _ hL, .inr hr, by rw [List.length_map, List.length_map]; omega, Same.updI (s.trans s2) nL, ?_, _, rfl⟩
      rw [updS, makes_snoc h2, List.map_append]
    refine ⟨_, rfl, .inl ⟨rfl, _, sqL hL⟩, ?_⟩
    cases p with
    | take b m =>
      refine ⟨_, rfl, ixT h3 rfl ⟨rfl, _, rfl, ?_⟩⟩
      rw [take_put]
      refine iteF ⟨_, rfl, _, rfl, ixT h3 rfl ⟨_, rfl, _, rfl, ixT h3 rfl ⟨_, rfl, ixT h3 rfl ⟨_, _, rfl, rfl, _, rfl, ?_⟩⟩⟩⟩
      exact slA (s _ _ hB) f go
    | put rs =>
      obtain ⟨q, h4, h5⟩ := h3
      refine ⟨_, rfl, ixT h4 rfl ⟨rfl, _, rfl, ?_⟩⟩
      rw [decide_eq_true rfl]
      refine iteT ⟨_, rfl, ixT h4 rfl ?_⟩
      exact go q _ (Same.refl _) h5
  · rintro σ H' ⟨s, hL, z, rfl⟩
    rw [List.length_map, hp.1, List.take_of_length_le (Nat.le_refl _)] at hL
    exact ⟨_, rfl, L, _, rfl, .inl ⟨sqL hL, fun r nr => k r _ (s.trans (Same.upd nr)) updS⟩⟩
theorem pure_price (h : sp_price K vs H Q E) : t_price K { nx := fun _ H' => Q .non H', rt := Q } (start N_price vs) H := by
  obtain ⟨a, ps, t, p, rfl, sc, ok, t0, t1, p0, p1, k⟩ := h
  refine ⟨_, rfl, a, ps, rfl, sc, ok, fun H1 s1 => ⟨_, rfl, iteF ?_⟩⟩
  obtain ⟨as, ha, hp⟩ := sc.mono (.of s1)
  have hl : (as.map V.ref).length = ps.length := by rw [List.length_map, hp.1]
  have hz := ok.len
  refine ⟨_, rfl, a, rfl, ⟨_, sqT ha⟩, fun L nL => ?_⟩
  refine lc_grow (walk_tup (xs := as.map V.ref)) yAt (ys := (ps.map (Pc.cost t p)).map V.int) nL (by rw [List.length_map, List.length_map, hl]) (by omega) (fun H' s => sqT (s _ _ ha)) ?_ ?_
  · rintro i x y H' R hi ⟨_, hx⟩ hy s r
    obtain ⟨b, q, rfl, h1, h2, h3⟩ := sc_get (hp.mono (.of s)) hx
    rw [List.getElem?_map, List.getElem?_map, h2] at hy
    cases Option.some.inj hy
    refine ⟨rfl, ?_⟩
    cases q with
    | take c m =>
      refine ⟨_, rfl, ixT h3 rfl ⟨rfl, _, rfl, ?_⟩⟩
      rw [take_put]
      exact iteF ⟨_, rfl, r _ (Same.refl _)⟩
    | put rs =>
      have h30 := h3
      obtain ⟨q, h4, h5⟩ := h3
      refine ⟨_, rfl, ixT h4 rfl ⟨rfl, _, rfl, ?_⟩⟩
      rw [decide_eq_true rfl]
      exact iteT ⟨_, rfl, _, rfl, b, .put rs, rfl, h30, _, _, rfl, rfl, .inl ⟨by omega, by omega⟩, r _ (Same.refl _)⟩
  · intro H2 s2 hL
    exact ⟨L, _, rfl, sqL hL, k _ (s1.trans s2)⟩
theorem cost_snoc {t p : Int} {ps : List Pc} {q : Pc} {i : Nat} (h : ps[i]? = some q) : cost t p (ps.take (i + 1)) = cost t p (ps.take i) + q.cost t p := by
  unfold cost
  rw [List.take_add_one, h, List.map_append, List.sum_append]
  show _ + (q.cost t p + 0) = _
  omega
theorem pure_l_cost (h : sp_l_cost K vs H Q E) : t_l_cost K { nx := fun _ H' => Q .non H', rt := Q } (start N_l_cost vs) H := by
  obtain ⟨a, ps, t, p, rfl, ⟨as, ha, hp⟩, ok, t0, t1, p0, p1, k⟩ := h
  refine ⟨_, rfl, a, rfl, ⟨_, sqT ha⟩, ?_⟩
  refine for_tup (K := K) (a := a) (xs := as.map V.ref) (fun i σ H' => H' = H ∧ ∃ z, σ = [some (.ref a), some (.int t), some (.int p), some (.int (cost t p (ps.take i))), z]) ⟨rfl, none, rfl⟩ (fun i σ H' _ p => by rw [p.1]; exact sqT ha) ?_ ?_
  · rintro i x σ H' hx ⟨rfl, z, rfl⟩
    obtain ⟨b, q, rfl, h1, h2, h3⟩ := sc_get hp hx
    cases q with
    | take c m =>
      refine ⟨_, rfl, ixT h3 rfl ⟨rfl, _, rfl, ?_⟩⟩
      rw [decide_eq_true rfl]
      refine iteT ⟨_, rfl, _, rfl, _, _, rfl, rfl, rfl, some (.ref b), ?_⟩
      rw [cost_snoc h2]
      rfl
    | put rs =>
      obtain ⟨q, h4, h5⟩ := h3
      refine ⟨_, rfl, ixT h4 rfl ⟨rfl, _, rfl, ?_⟩⟩
      rw [put_take]
      refine iteF ⟨_, rfl, _, rfl, _, rfl, ixT h4 rfl (lenT h5 ⟨_, _, rfl, rfl, .inl ⟨by omega, by omega⟩, _, _, rfl, rfl, rfl, some (.ref b), ?_⟩)⟩
      rw [cost_snoc h2, List.length_map]
      rfl
  · rintro σ H' ⟨rfl, z, rfl⟩
    rw [List.length_map, hp.1, List.take_of_length_le (Nat.le_refl _)]
    exact ⟨_, rfl, k⟩
theorem pure_l_made (h : sp_l_made K vs H Q E) : t_l_made K { nx := fun _ H' => Q .non H', rt := Q } (start N_l_made vs) H := by
  obtain ⟨B, a, bs, ps, rfl, hB, ⟨as, ha, hp⟩, ok, fit, k⟩ := h
  refine ⟨Nat.zero_le _, fun L nL => ⟨_, rfl, a, rfl, ⟨_, sqT (updN (ne_of_none ha nL) ha)⟩, ?_⟩⟩
  refine for_tup (K := K) (a := a) (xs := as.map V.ref) (fun i σ H' => Same H H' ∧ H' L = some (.lst ((makes bs (ps.take i)).map V.str)) ∧ ∃ z3 z4 z5, σ = [some (.ref B), some (.ref a), some (.ref L), z3, z4, z5]) ⟨Same.upd nL, updS, none, none, none, rfl⟩ (fun i σ H' _ p => sqT (p.1 _ _ ha)) ?_ ?_
  · rintro i x σ H' hx ⟨s, hL, z3, z4, z5, rfl⟩
    obtain ⟨c, p, rfl, h1, h2, h3⟩ := sc_get (hp.mono (.of s)) hx
    have f := fit p (List.mem_of_getElem? h2)
    have ok1 := ok.few
    have l1 := makes_len (bs := bs) (fits_take fit i)
    have l2 := total_take_le (ps := ps) i
    have l3 := mk_len f
    have l4 := n_le_total (List.mem_of_getElem? h2)
    have nLm : ∀ (H2 : Hp) (ws : List V), Same H H2 → Same H (upd H2 L (.lst ws)) := fun H2 ws s2 => Same.updI s2 nL
    cases p with
    | take b m =>
      have f : b + m ≤ bs.length := f
      have l4 : m ≤ total ps := l4
      refine ⟨_, rfl, ixT h3 rfl ⟨rfl, _, rfl, ?_⟩⟩
      rw [decide_eq_true rfl]
      refine iteT ⟨_, rfl, ixT h3 rfl ⟨_, rfl, (len_le (by omega)).1, (len_le (by omega)).2, ?_⟩⟩
      refine for_range (lo := 0) (n := ((m : Nat) : Int).toNat) (fun j σ H2 => Same H H2 ∧ H2 L = some (.lst ((makes bs (ps.take i) ++ (bs.drop b).take j).map V.str)) ∧ ∃ z4, σ = [some (.ref B), some (.ref a), some (.ref L), some (.ref c), z4, z5]) ⟨s, by rw [hL, List.take_zero, List.append_nil], _, rfl⟩ ?_ ?_
      · rintro j σ H2 hj ⟨s2, hL2, z4, rfl⟩
        have hj2 : b + j < bs.length := by omega
        have g : atI (bs.map V.str) ((b : Int) + (0 + (j : Int))) = some (.str bs[b + j]) := by
          rw [show (b : Int) + (0 + (j : Int)) = ((b + j : Nat) : Int) by omega]
          exact atI_nat (by rw [List.getElem?_map, List.getElem?_eq_getElem hj2]; rfl)
        have h32 : H2 c = some (.tup [.str "take", .int (b : Int), .int (m : Int)]) := by
          have := (hp.mono (.of s2)).2 i c _ h1 h2
          exact this
        refine ⟨_, rfl, .inl ⟨rfl, _, sqL hL2⟩, _, rfl, _, rfl, ixT h32 rfl ⟨_, rfl, _, _, rfl, rfl, ixT (s2 _ _ hB) g ⟨L, _, _, rfl, rfl, hL2, ?_, ?_⟩⟩⟩
        · rw [List.length_map, List.length_append, List.length_take, List.length_drop]
          exact Nat.lt_of_le_of_lt (show _ ≤ 1000 by omega) (by decide)
        · refine ⟨nLm _ _ s2, ?_, _, rfl⟩
          rw [updS, List.take_add_one, List.getElem?_drop, List.getElem?_eq_getElem hj2]
          simp only [List.map_append, List.append_assoc]
          rfl
      · rintro σ H2 ⟨s2, hL2, z4, rfl⟩
        refine ⟨s2, ?_, _, _, _, rfl⟩
        rw [hL2, makes_snoc h2, show ((m : Nat) : Int).toNat = m by omega]
        rfl
    | put rs =>
      obtain ⟨q, h4, h5⟩ := h3
      refine ⟨_, rfl, ixT h4 rfl ⟨rfl, _, rfl, ?_⟩⟩
      rw [put_take]
      have l4 : rs.length ≤ total ps := l4
      refine iteF ⟨_, rfl, ixT h4 rfl ⟨q, rfl, ⟨_, sqT h5⟩, ?_⟩⟩
      have nLq : q ≠ L := ne_of h5 hL (by intro z; cases z)
      refine for_tup (K := K) (a := q) (xs := rs.map V.str) (fun j σ H2 => Same H H2 ∧ H2 q = some (.tup (rs.map V.str)) ∧ H2 L = some (.lst ((makes bs (ps.take i) ++ rs.take j).map V.str)) ∧ ∃ z5, σ = [some (.ref B), some (.ref a), some (.ref L), some (.ref c), z4, z5]) ⟨s, h5, by rw [hL, List.take_zero, List.append_nil], _, rfl⟩ (fun j σ H2 _ p => sqT p.2.1) ?_ ?_
      · rintro j x σ H2 hx2 ⟨s2, hq2, hL2, z5, rfl⟩
        rw [List.getElem?_map] at hx2
        cases e : rs[j]? with
        | none => rw [e] at hx2; cases hx2
        | some z =>
          rw [e] at hx2
          cases Option.some.inj hx2
          have hj := (List.getElem?_eq_some_iff.mp e).1
          refine ⟨_, rfl, .inl ⟨rfl, _, sqL hL2⟩, _, rfl, L, _, _, rfl, rfl, hL2, ?_, ?_⟩
          · rw [List.length_map, List.length_append, List.length_take]
            exact Nat.lt_of_le_of_lt (show _ ≤ 1000 by omega) (by decide)
          · refine ⟨nLm _ _ s2, updN nLq hq2, ?_, _, rfl⟩
            rw [updS, List.take_add_one, e]
            simp only [List.map_append, List.append_assoc]
            rfl
      · rintro σ H2 ⟨s2, hq2, hL2, z5, rfl⟩
        refine ⟨s2, ?_, _, _, _, rfl⟩
        rw [hL2, makes_snoc h2, List.length_map, List.take_of_length_le (Nat.le_refl _)]
        rfl
  · rintro σ H' ⟨s, hL, z3, z4, z5, rfl⟩
    rw [List.length_map, hp.1, List.take_of_length_le (Nat.le_refl _)] at hL
    exact ⟨_, rfl, L, _, rfl, .inl ⟨sqL hL, fun r nr => k r _ (s.trans (Same.upd nr)) updS⟩⟩
end
end Fw

set_option Elab.async false
set_option linter.all false
set_option maxRecDepth 100000
set_option maxHeartbeats 4000000
namespace Fw
open PySem L2 RZ RT
def StAt (H : Hp) (S : Addr) (st : List Str) : Prop := H S = some (.lst (st.map V.str)) ∧ 0 < st.length ∧ st.length ≤ 5 ∧ ∀ z ∈ st, OkS z
theorem StAt.kp {D : Addr} {H H' : Hp} {S : Addr} {st : List Str} (h : StAt H S st) (k : Kp D H H') (n : S ≠ D) : StAt H' S st := ⟨k _ _ h.1 n, h.2⟩
theorem StAt.same {H H' : Hp} {S : Addr} {st : List Str} (h : StAt H S st) (k : Same H H') : StAt H' S st := ⟨k _ _ h.1, h.2⟩
theorem Dk.same {c D : Addr} {ns : List Int} {t : Nat} {H H' : Hp} (d : Dk c D ns t H) (s : Same H H') : Dk c D ns t H' := by
  obtain ⟨a, b, e, i, n, u, h, r⟩ := d
  exact ⟨a, s _ _ b, e, i, n, u, s _ _ h, r⟩
def sp_l_text (_ : PySem.W.Frag) : Sp := fun vs H Q _ => ∃ (c D : Addr) (ns : List Int) (t : Nat) (size : Int), vs = [.ref D, .int size] ∧ Dk c D ns t H ∧ 0 ≤ size ∧ size ≤ 40 ∧ t + 50 < 1000000000 ∧
  ∀ (z : Str) (H' : Hp), OkS z → Kp D H H' → Dk c D ns (t + 50) H' → Q (.str z) H'
def sp_l_stock (_ : PySem.W.Frag) : Sp := fun vs H Q _ => ∃ (c D : Addr) (ns : List Int) (t : Nat), vs = [.ref D] ∧ Dk c D ns t H ∧ t + 300 < 1000000000 ∧
  ∀ (S : Addr) (st : List Str) (H' : Hp), StAt H' S st → H S = none → Kp D H H' → Dk c D ns (t + 300) H' → Q (.ref S) H'
def sp_l_lines (_ : PySem.W.Frag) : Sp := fun vs H Q _ => ∃ (c D S : Addr) (ns : List Int) (t : Nat) (st : List Str) (most : Int), vs = [.ref D, .ref S, .int most] ∧ Dk c D ns t H ∧ StAt H S st ∧ S ≠ D ∧ 0 ≤ most ∧ most ≤ 40 ∧ t + 50 < 1000000000 ∧
  ∀ (a : Addr) (bs : List Str) (H' : Hp), RwAt H' a bs → (∀ z ∈ bs, z ∈ st) → (bs.length : Int) ≤ most → Kp D H H' → Dk c D ns (t + 50) H' → Q (.ref a) H'
def sp_l_most (_ : PySem.W.Frag) : Sp := fun vs H Q _ => ∃ (c D : Addr) (ns : List Int) (t : Nat), vs = [.ref D] ∧ Dk c D ns t H ∧ t + 1 < 1000000000 ∧
  ∀ (m : Int) (H' : Hp), 0 ≤ m → m ≤ 40 → Kp D H H' → Dk c D ns (t + 1) H' → Q (.int m) H'
def sp_l_script (_ : PySem.W.Frag) : Sp := fun vs H Q _ => ∃ (c D B S : Addr) (ns : List Int) (t : Nat) (bs st : List Str) (most : Int), vs = [.ref D, .ref B, .ref S, .int most] ∧ Dk c D ns t H ∧ RwAt H B bs ∧ bs.length ≤ 1000 ∧ StAt H S st ∧ S ≠ D ∧ 0 ≤ most ∧ most ≤ 40 ∧ t + 300 < 1000000000 ∧
  ∀ (a : Addr) (ps : List Pc) (H' : Hp), ScAt H' a ps → ScOk ps → (∀ p ∈ ps, p.fits bs.length) → (total ps : Int) ≤ most → (∀ p ∈ ps, ∀ rs, p = .put rs → ∀ z ∈ rs, z ∈ st) → Kp D H H' → Dk c D ns (t + 300) H' → Q (.ref a) H'
section
variable {K : PySem.W.Frag} {vs : List V} {H : Hp} {Q : VK} {E : XK}
theorem len_l_text (h : sp_l_text K vs H Q E) : vs.length = 2 := by obtain ⟨_, _, _, _, _, rfl, _⟩ := h; rfl
theorem len_l_stock (h : sp_l_stock K vs H Q E) : vs.length = 1 := by obtain ⟨_, _, _, _, rfl, _⟩ := h; rfl
theorem len_l_lines (h : sp_l_lines K vs H Q E) : vs.length = 3 := by obtain ⟨_, _, _, _, _, _, _, rfl, _⟩ := h; rfl
theorem len_l_most (h : sp_l_most K vs H Q E) : vs.length = 1 := by obtain ⟨_, _, _, _, rfl, _⟩ := h; rfl
theorem len_l_script (h : sp_l_script K vs H Q E) : vs.length = 4 := by obtain ⟨_, _, _, _, _, _, _, _, _, rfl, _⟩ := h; rfl
end
abbrev N_l_text : List Str := ["_law_deck_here", "_law_size", "_law_signs", "_law_k"]
def t_l_text_rest (K : PySem.W.Frag) : TS := (tRet (tM1 (fJoin K) (tC (.str "")) (tLc (iRng1 (tCons (tCall (sp_l_draw K) [] E0 (tCons (tVar 0) (tCons (tOp rAddI (tVar 1) (tC (.int 1))) tNil))) tNil)) (gName 3) tYes (tOp (rIx K) (tVar 2) (tCall (sp_l_draw K) [] E0 (tCons (tVar 0) (tCons (tCB (fLen K) (tCons (tVar 2) tNil)) tNil)))) [3])))
def t_l_text (K : PySem.W.Frag) : TS := (tSeq (tAsg (tC (.str " !\"#$&'()*+,-./0123456789:;<=>?@ABCDEFGHIJKLMNOPQRSTUVWXYZ[\\]^_`abcdefghijklmnopqrstuvwxyz{|}~")) (gName 2))
    (tSeq (tIfS (tTest (tOp rEq (tCall (sp_l_draw K) [] E0 (tCons (tVar 0) (tCons (tC (.int 2)) tNil))) (tC (.int 0)))) (tAsg (tC (.str "ab")) (gName 2)) tNext)
    (t_l_text_rest K)))
abbrev N_l_stock : List Str := ["_law_deck_here", "_law_longest", "_law_k"]
def t_l_stock_rest (K : PySem.W.Frag) : TS := (tRet (tLc (iRng1 (tCons (tOp rAddI (tC (.int 1)) (tCall (sp_l_draw K) [] E0 (tCons (tVar 0) (tCons (tC (.int 5)) tNil)))) tNil)) (gName 2) tYes (tCall (sp_l_text K) [] E0 (tCons (tVar 0) (tCons (tVar 1) tNil))) [2]))
def t_l_stock (K : PySem.W.Frag) : TS := (tSeq (tAsg (tC (.int 4)) (gName 1))
    (tSeq (tIfS (tTest (tOp rEq (tCall (sp_l_draw K) [] E0 (tCons (tVar 0) (tCons (tC (.int 6)) tNil))) (tC (.int 0)))) (tAsg (tC (.int 40)) (gName 1)) tNext)
    (t_l_stock_rest K)))
abbrev N_l_lines : List Str := ["_law_deck_here", "_law_stock_here", "_law_most_here", "_law_k"]
def t_l_lines (K : PySem.W.Frag) : TS := (tRet (tCB (fTupleOf K) (tCons (tLc (iRng1 (tCons (tCall (sp_l_draw K) [] E0 (tCons (tVar 0) (tCons (tOp rAddI (tVar 2) (tC (.int 1))) tNil))) tNil)) (gName 3) tYes (tOp (rIx K) (tVar 1) (tCall (sp_l_draw K) [] E0 (tCons (tVar 0) (tCons (tCB (fLen K) (tCons (tVar 1) tNil)) tNil)))) [3]) tNil)))
abbrev N_l_most : List Str := ["_law_deck_here"]
def t_l_most (K : PySem.W.Frag) : TS := (tSeq (tIfS (tTest (tOp rEq (tCall (sp_l_draw K) [] E0 (tCons (tVar 0) (tCons (tC (.int 8)) tNil))) (tC (.int 0)))) (tRet (tC (.int 40))) tNext)
    (tRet (tC (.int 9))))
abbrev N_l_script : List Str := ["_law_deck_here", "_law_base", "_law_stock_here", "_law_most_here", "_law_pieces", "_law_room", "_law_begin", "_law_many", "_law_k"]
def t_l_script_take (K : PySem.W.Frag) : TS := (tSeq (tAsg (tOp rAddI (tC (.int 1)) (tCall (sp_l_draw K) [] E0 (tCons (tVar 0) (tCons (tCB fMin2 (tCons (tVar 5) (tCons (tOp rSubI (tCB (fLen K) (tCons (tVar 1) tNil)) (tVar 6)) tNil))) tNil)))) (gName 7))
    (tDrop (tBM K "list" rAppend (tVar 4) (tCons (tTup (tCons (tC (.str "take")) (tCons (tVar 6) (tCons (tVar 7) tNil)))) tNil))))
def t_l_script_put (K : PySem.W.Frag) : TS := (tSeq (tAsg (tOp rAddI (tC (.int 1)) (tCall (sp_l_draw K) [] E0 (tCons (tVar 0) (tCons (tCB fMin2 (tCons (tVar 5) (tCons (tC (.int 3)) tNil))) tNil)))) (gName 7))
    (tDrop (tBM K "list" rAppend (tVar 4) (tCons (tTup (tCons (tC (.str "put")) (tCons (tCB (fTupleOf K) (tCons (tLc (iRng1 (tCons (tVar 7) tNil)) (gName 8) tYes (tOp (rIx K) (tVar 2) (tCall (sp_l_draw K) [] E0 (tCons (tVar 0) (tCons (tCB (fLen K) (tCons (tVar 2) tNil)) tNil)))) [8]) tNil)) tNil))) tNil))))
def t_l_script_end (K : PySem.W.Frag) : TS := (tAsg (tOp rSubI (tVar 5) (tVar 7)) (gName 5))
def t_l_script_turn (K : PySem.W.Frag) : TS := (tSeq (tIfS (tAnd (tTest (tOp rGtI (tCB (fLen K) (tCons (tVar 1) tNil)) (tC (.int 0)))) (tTest (tOp rGtI (tCall (sp_l_draw K) [] E0 (tCons (tVar 0) (tCons (tC (.int 3)) tNil))) (tC (.int 0))))) (tSeq (tAsg (tCall (sp_l_draw K) [] E0 (tCons (tVar 0) (tCons (tCB (fLen K) (tCons (tVar 1) tNil)) tNil))) (gName 6))
    (t_l_script_take K)) (t_l_script_put K))
    (t_l_script_end K))
def t_l_script (K : PySem.W.Frag) : TS := (tSeq (tAsg (tLst tNil) (gName 4))
    (tSeq (tAsg (tCall (sp_l_draw K) [] E0 (tCons (tVar 0) (tCons (tOp rAddI (tVar 3) (tC (.int 1))) tNil))) (gName 5))
    (tSeq (tWhile (tTest (tOp rGtI (tVar 5) (tC (.int 0)))) (t_l_script_turn K))
    (tRet (tCB (fTupleOf K) (tCons (tVar 4) tNil))))))
theorem join_chars (ys : List Nat) : Txt.join ("" : Str) ((ys.map fun c => (⟨#[c]⟩ : Str))) = ⟨ys.toArray⟩ := by
  have e : ("" : Str) = ⟨#[]⟩ := by decide +kernel
  rw [e]
  unfold Txt.join
  have h := PyProof.Rows.join_nil_signs ⟨ys.toArray⟩
  rw [← StrLaws.glued_eq_join] at h
  exact h
theorem sum_ones : ∀ ys : List Nat, ((ys.map fun c => (⟨#[c]⟩ : Str)).map (·.length)).sum = ys.length
  | [] => rfl
  | y :: ys => by
    rw [List.map_cons, List.map_cons, List.sum_cons, sum_ones ys, List.length_cons]
    show 1 + ys.length = _
    omega
section
variable {K : PySem.W.Frag} {vs : List V} {H : Hp} {Q : VK} {E : XK}
theorem text_rest {c D : Addr} {ns : List Int} {t : Nat} {size : Int} {S : Str} {z3 : Option V} (dk : Dk c D ns t H) (s0 : 0 ≤ size) (s1 : size ≤ 40) (ht : t + 45 < 1000000000) (l0 : 0 < S.cps.size) (l1 : S.cps.size ≤ 100) (ok : ∀ x ∈ S.cps.toList, OkC x)
    (k : ∀ (z : Str) (H' : Hp), OkS z → Kp D H H' → Dk c D ns (t + 45) H' → Q (.str z) H') : t_l_text_rest K { nx := fun _ H' => Q .non H', rt := Q } [some (.ref D), some (.int size), some (.str S), z3] H := by
  refine ⟨⟨_, rfl⟩, _, rfl, _, rfl, _, _, rfl, rfl, c, D, ns, t, size + 1, rfl, dk, by omega, by omega, small100 (by omega), fun n H1 n0 n1 d1 fr1 => ⟨_, rfl, by omega, by omega, fun L nL => ?_⟩⟩
  refine lc_deck (walk_range (lo := 0) (n := n.toNat)) yFn (fun x : Nat => V.str ⟨#[x]⟩) OkC 1 nL d1 (by omega) ?_ ?_
  · intro i x H2 R hi kp d2 r
    refine ⟨rfl, ⟨_, rfl, _, rfl, _, rfl, lenS (Nat.le_trans l1 (by decide)) ⟨c, D, ns, _, _, rfl, d2, by omega, (show (0 : Int) < (S.length : Int) by show (0 : Int) < (S.cps.size : Int); omega), small100 (show ((S.cps.size : Nat) : Int).natAbs ≤ _ by omega), fun v H3 v0 v1 d3 fr3 => ?_⟩⟩⟩
    obtain ⟨j, rfl⟩ := Int.eq_ofNat_of_zero_le v0
    have hj : j < S.cps.toList.length := by
      have : ((j : Nat) : Int) < ((S.cps.size : Nat) : Int) := v1
      rw [Array.length_toList]
      omega
    exact ixS (Nat.le_trans l1 (by decide)) (atI_nat (List.getElem?_eq_getElem hj)) (r _ _ (ok _ (List.getElem_mem hj)) (.fr fr3) d3)
  · intro ys H2 hl hp kp d2 hL
    have hlen : ys.length ≤ 40 := by omega
    refine ⟨_, L, (ys.map fun c => (⟨#[c]⟩ : Str)), rfl, rfl, .inl (sqL (by rw [hL, List.map_map]; rfl)), ?_, ?_⟩
    · rw [sum_ones, List.length_map]
      show ys.length + ys.length * 0 ≤ _
      omega
    · rw [join_chars]
      refine k _ _ ⟨?_, ?_⟩ ((Kp.fr fr1).trans kp) (d2.le (by omega))
      · show ys.toArray.size ≤ 40
        rw [List.size_toArray]
        exact hlen
      · intro x hx
        exact hp x hx
theorem signs_ok : ∀ x ∈ (" !\"#$&'()*+,-./0123456789:;<=>?@ABCDEFGHIJKLMNOPQRSTUVWXYZ[\\]^_`abcdefghijklmnopqrstuvwxyz{|}~" : Str).cps.toList, OkC x := by
  have h : ((" !\"#$&'()*+,-./0123456789:;<=>?@ABCDEFGHIJKLMNOPQRSTUVWXYZ[\\]^_`abcdefghijklmnopqrstuvwxyz{|}~" : Str).cps.toList.all fun x => decide (32 ≤ x) && (decide (x ≤ 126) && !decide (x = 37))) = true := by decide +kernel
  intro x hx
  have := List.all_eq_true.mp h x hx
  simp only [Bool.and_eq_true, decide_eq_true_eq, Bool.not_eq_true', decide_eq_false_iff_not] at this
  exact ⟨this.1, this.2.1, this.2.2⟩
theorem ab_ok : ∀ x ∈ ("ab" : Str).cps.toList, OkC x := by
  have h : (("ab" : Str).cps.toList.all fun x => decide (32 ≤ x) && (decide (x ≤ 126) && !decide (x = 37))) = true := by decide +kernel
  intro x hx
  have := List.all_eq_true.mp h x hx
  simp only [Bool.and_eq_true, decide_eq_true_eq, Bool.not_eq_true', decide_eq_false_iff_not] at this
  exact ⟨this.1, this.2.1, this.2.2⟩
theorem pure_l_text (h : sp_l_text K vs H Q E) : t_l_text K { nx := fun _ H' => Q .non H', rt := Q } (start N_l_text vs) H := by
  obtain ⟨c, D, ns, t, size, rfl, dk, s0, s1, ht, k⟩ := h
  refine ⟨_, rfl, c, D, ns, t, 2, rfl, dk, by omega, by decide, by decide, fun v H1 v0 v1 d1 fr1 => ⟨rfl, _, rfl, ite2 (fun _ => ?_) (fun _ => ?_)⟩⟩
  · exact text_rest d1 s0 s1 (by omega) (by decide +kernel) (by decide +kernel) ab_ok fun z H2 o kp d2 => k z H2 o ((Kp.fr fr1).trans kp) (d2.le (by omega))
  · exact text_rest d1 s0 s1 (by omega) (by decide +kernel) (by decide +kernel) signs_ok fun z H2 o kp d2 => k z H2 o ((Kp.fr fr1).trans kp) (d2.le (by omega))
theorem stock_rest {c D : Addr} {ns : List Int} {t : Nat} {size : Int} {z2 : Option V} (dk : Dk c D ns t H) (s0 : 0 ≤ size) (s1 : size ≤ 40) (ht : t + 299 < 1000000000)
    (k : ∀ (S : Addr) (st : List Str) (H' : Hp), StAt H' S st → H S = none → Kp D H H' → Dk c D ns (t + 299) H' → Q (.ref S) H') : t_l_stock_rest K { nx := fun _ H' => Q .non H', rt := Q } [some (.ref D), some (.int size), z2] H := by
  refine ⟨_, rfl, c, D, ns, t, 5, rfl, dk, by omega, by decide, by decide, fun n H1 n0 n1 d1 fr1 => ⟨_, _, rfl, rfl, _, rfl, by omega, by omega, fun L nL => ?_⟩⟩
  refine lc_deck (walk_range (lo := 0) (n := (1 + n).toNat)) yFn V.str OkS 50 nL d1 (by omega) ?_ ?_
  · intro i x H2 R hi kp d2 r
    refine ⟨rfl, ⟨_, rfl, _, rfl, c, D, ns, _, size, rfl, d2, s0, s1, by omega, fun z H3 o kp3 d3 => r z H3 o kp3 d3⟩⟩
  · intro ys H2 hl hp kp d2 hL
    exact k L ys H2 ⟨hL, by omega, by omega, hp⟩ ((Kp.fr fr1).free nL (d1.neD nL)) ((Kp.fr fr1).trans kp) (d2.le (by omega))
theorem pure_l_stock (h : sp_l_stock K vs H Q E) : t_l_stock K { nx := fun _ H' => Q .non H', rt := Q } (start N_l_stock vs) H := by
  obtain ⟨c, D, ns, t, rfl, dk, ht, k⟩ := h
  refine ⟨_, rfl, c, D, ns, t, 6, rfl, dk, by omega, by decide, by decide, fun v H1 v0 v1 d1 fr1 => ⟨rfl, _, rfl, ite2 (fun _ => ?_) (fun _ => ?_)⟩⟩
  · exact stock_rest d1 (by decide) (by decide) (by omega) fun S st H2 h n kp d2 => k S st H2 h ((Kp.fr fr1).free n (d1.neD n)) ((Kp.fr fr1).trans kp) (d2.le (by omega))
  · exact stock_rest d1 (by decide) (by decide) (by omega) fun S st H2 h n kp d2 => k S st H2 h ((Kp.fr fr1).free n (d1.neD n)) ((Kp.fr fr1).trans kp) (d2.le (by omega))
/-- stock[draw(deck, len(stock))] -/
theorem stock_draw {c D S : Addr} {ns : List Int} {t : Nat} {st : List Str} {i j : Nat} {σ : L2.St} {R : VK} (eD : σ[i]? = some (some (.ref D))) (eS : σ[j]? = some (some (.ref S))) (dk : Dk c D ns t H) (ht : t < 1000000000) (sa : StAt H S st) (nSD : S ≠ D)
    (r : ∀ y H', y ∈ st → Kp D H H' → Dk c D ns (t + 1) H' → R (.str y) H') : tOp (rIx K) (tVar j) (tCall (sp_l_draw K) [] E0 (tCons (tVar i) (tCons (tCB (fLen K) (tCons (tVar j) tNil)) tNil))) σ H R := by
  refine ⟨_, eS, _, eD, _, eS, lenL sa.1 ⟨c, D, ns, _, _, rfl, dk, ht, ?_, ?_, fun v H3 v0 v1 d3 fr3 => ?_⟩⟩
  · rw [List.length_map]
    have := sa.2.1
    omega
  · rw [List.length_map]
    have := sa.2.2.1
    exact small100 (by omega)
  · obtain ⟨q, rfl⟩ := Int.eq_ofNat_of_zero_le v0
    rw [List.length_map] at v1
    have hq : q < st.length := by omega
    exact ixL (by rw [fr3 _ nSD]; exact sa.1) (atI_nat (by rw [List.getElem?_map, List.getElem?_eq_getElem hq]; rfl)) (r _ _ (List.getElem_mem hq) (.fr fr3) d3)
theorem pure_l_lines (h : sp_l_lines K vs H Q E) : t_l_lines K { nx := fun _ H' => Q .non H', rt := Q } (start N_l_lines vs) H := by
  obtain ⟨c, D, S, ns, t, st, most, rfl, dk, sa, nSD, m0, m1, ht, k⟩ := h
  refine ⟨_, rfl, _, rfl, _, _, rfl, rfl, c, D, ns, t, most + 1, rfl, dk, by omega, by omega, small100 (by omega), fun n H1 n0 n1 d1 fr1 => ⟨_, rfl, by omega, by omega, fun L nL => ?_⟩⟩
  have sa1 := sa.kp (.fr fr1) nSD
  refine lc_deck (walk_range (lo := 0) (n := n.toNat)) yFn V.str (fun z => z ∈ st) 1 nL d1 (by omega) ?_ ?_
  · intro i x H2 R hi kp d2 r
    exact ⟨rfl, stock_draw (i := 0) (j := 1) rfl rfl d2 (by omega) (sa1.kp kp nSD) nSD r⟩
  · intro ys H2 hl hp kp d2 hL
    refine ⟨L, _, rfl, .inl ⟨sqL hL, fun r nr => k r ys _ updS hp (by omega) (((Kp.fr fr1).trans kp).trans (.new nr)) ((d2.le (by omega)).upd (d2.neC nr) (d2.neD nr))⟩⟩
theorem pure_l_most (h : sp_l_most K vs H Q E) : t_l_most K { nx := fun _ H' => Q .non H', rt := Q } (start N_l_most vs) H := by
  obtain ⟨c, D, ns, t, rfl, dk, ht, k⟩ := h
  refine ⟨_, rfl, c, D, ns, t, 8, rfl, dk, by omega, by decide, by decide, fun v H1 v0 v1 d1 fr1 => ⟨rfl, _, rfl, ite2 (fun _ => ?_) (fun _ => ?_)⟩⟩
  · exact k 40 H1 (by decide) (by decide) (.fr fr1) d1
  · exact k 9 H1 (by decide) (by decide) (.fr fr1) d1
/-- the state of the maker of scripts -/
structure SS (H0 : Hp) (c D L B S : Addr) (ns : List Int) (t : Nat) (bs st : List Str) (as : List Addr) (ps : List Pc) (H : Hp) : Prop where
  dk : Dk c D ns t H
  keep : Kp D H0 H
  hl : H L = some (.lst (as.map V.ref))
  pr : PsAt H as ps
  ok : ∀ p ∈ ps, p.ok
  fit : ∀ p ∈ ps, p.fits bs.length
  sub : ∀ p ∈ ps, ∀ rs, p = .put rs → ∀ z ∈ rs, z ∈ st
  nL : H0 L = none
  d0 : ∃ t0, Dk c D ns t0 H0
  hB : RwAt H0 B bs
  sa : StAt H0 S st
  nS : S ≠ D
section
variable {H0 H H' : Hp} {c D L B S q : Addr} {ns : List Int} {t t' : Nat} {bs st : List Str} {as : List Addr} {ps : List Pc} {o : HO}
theorem SS.nLD (s : SS H0 c D L B S ns t bs st as ps H) : L ≠ D := s.d0.choose_spec.neD s.nL
theorem SS.nLC (s : SS H0 c D L B S ns t bs st as ps H) : L ≠ c := s.d0.choose_spec.neC s.nL
theorem SS.move (s : SS H0 c D L B S ns t bs st as ps H) (k : Kp D H H') (d : Dk c D ns t' H') : SS H0 c D L B S ns t' bs st as ps H' :=
  ⟨d, s.keep.trans k, k _ _ s.hl s.nLD, s.pr.mono (k.tm s.dk), s.ok, s.fit, s.sub, s.nL, s.d0, s.hB, s.sa, s.nS⟩
theorem SS.baseAt (s : SS H0 c D L B S ns t bs st as ps H) : RwAt H B bs := s.keep.tup s.d0.choose_spec _ _ s.hB
theorem SS.stAt (s : SS H0 c D L B S ns t bs st as ps H) : StAt H S st := s.sa.kp s.keep s.nS
theorem SS.add (s : SS H0 c D L B S ns t bs st as ps H) {T : Addr} {p : Pc} (hT : PcAt H T p) (ok : p.ok) (fit : p.fits bs.length) (sub : ∀ rs, p = .put rs → ∀ z ∈ rs, z ∈ st) : SS H0 c D L B S ns t bs st (as ++ [T]) (ps ++ [p]) (upd H L (.lst (as.map V.ref ++ [.ref T]))) := by
  have tm : TM H (upd H L (.lst (as.map V.ref ++ [.ref T]))) := fun a xs h => updN (ne_of h s.hl (by intro z; cases z)) h
  refine ⟨s.dk.upd s.nLC s.nLD, fun b u e n => updN (ne_of_none e s.nL) (s.keep b u e n), by rw [updS, List.map_append]; rfl, (s.pr.snoc hT).mono tm, fun q hq => ?_, fun q hq => ?_, fun q hq => ?_, s.nL, s.d0, s.hB, s.sa, s.nS⟩
  · rcases List.mem_append.mp hq with h | h
    · exact s.ok q h
    · cases List.mem_singleton.mp h
      exact ok
  · rcases List.mem_append.mp hq with h | h
    · exact s.fit q h
    · cases List.mem_singleton.mp h
      exact fit
  · rcases List.mem_append.mp hq with h | h
    · exact s.sub q h
    · cases List.mem_singleton.mp h
      exact sub
end
theorem total_snoc (ps : List Pc) (p : Pc) : total (ps ++ [p]) = total ps + p.n := by
  unfold total
  rw [List.map_append, List.sum_append]
  show _ + (p.n + 0) = _
  omega
theorem min2_eq {i j : Int} : (if j < i then j else i) ≤ i ∧ (if j < i then j else i) ≤ j := by
  by_cases h : j < i
  · rw [if_pos h]; omega
  · rw [if_neg h]; omega
theorem min2_pos {i j : Int} (h1 : 0 < i) (h2 : 0 < j) : 0 < (if j < i then j else i) := by
  by_cases h : j < i
  · rw [if_pos h]; exact h2
  · rw [if_neg h]; exact h1
def SsW (H0 : Hp) (c D L B S : Addr) (ns : List Int) (t : Nat) (bs st : List Str) (most m0 : Int) (σ : L2.St) (H' : Hp) : Prop := ∃ (as : List Addr) (ps : List Pc) (room : Int) (z6 z7 z8 : Option V),
  σ = [some (.ref D), some (.ref B), some (.ref S), some (.int most), some (.ref L), some (.int room), z6, z7, z8] ∧ 0 ≤ room ∧ (total ps : Int) + room = m0 ∧ SS H0 c D L B S ns (t + 6 * total ps) bs st as ps H'
theorem pure_l_script (h : sp_l_script K vs H Q E) : t_l_script K { nx := fun _ H' => Q .non H', rt := Q } (start N_l_script vs) H := by
  obtain ⟨c, D, B, S, ns, t, bs, st, most, rfl, dk, hB, hbl, sa, nSD, m0, m1, ht, k⟩ := h
  refine ⟨Nat.zero_le _, fun L nL => ?_⟩
  have dL := dk.upd (o := .lst []) (dk.neC nL) (dk.neD nL)
  refine ⟨_, rfl, _, rfl, _, _, rfl, rfl, c, D, ns, t, most + 1, rfl, dL, by omega, by omega, small100 (by omega), fun n H1 n0 n1 d1 fr1 => ?_⟩
  have nLD : L ≠ D := dk.neD nL
  have k1 : Kp D H H1 := (Kp.new nL).trans (.fr fr1)
  have s1 : SS H c D L B S ns (t + 1 + 6 * 0) bs st [] [] H1 := ⟨d1, k1, by rw [fr1 _ nLD]; exact updS, .nil, (fun _ h => by cases h), (fun _ h => by cases h), (fun _ h => by cases h), nL, ⟨t, dk⟩, hB, sa, nSD⟩
  show tSeq (tWhile _ (t_l_script_turn K)) _ _ [some (.ref D), some (.ref B), some (.ref S), some (.int most), some (.ref L), some (.int n), none, none, none] H1
  refine while_by (SsW H c D L B S ns (t + 1) bs st most n) (fun σ _ => slotN 5 σ) ⟨[], [], n, none, none, none, rfl, n0, by show ((0 : Nat) : Int) + n = n; omega, s1⟩ ?_ (fun σ H Q Q' f h => by
    obtain ⟨v, e, i, j, e1, e2, b, e3, q⟩ := h
    exact ⟨v, e, i, j, e1, e2, b, e3, f _ _ q⟩)
  rintro σ H2 ⟨as, ps, room, z6, z7, z8, rfl, r0, rt, s⟩
  refine ⟨_, rfl, _, _, rfl, rfl, _, rfl, ite2 (fun e => ?_) (fun e => ?_)⟩
  · have hroom : 0 < room := of_decide_eq_true e
    have tot : (total ps : Int) ≤ 40 := by omega
    have nl : as.length ≤ 40 := by
      rw [s.pr.1]
      have := len_le_total s.ok
      omega
    -- the end of a turn
    have fin : ∀ (T : Addr) (p : Pc) (m' : Int) (y6 y8 : Option V) (t' : Nat) (H3 : Hp) (D1 D2 : Ends), (∀ σ' H', SsW H c D L B S ns (t + 1) bs st most n σ' H' ∧ slotN 5 σ' < room.toNat → D1.nx σ' H') → (∀ σ' H', t_l_script_end K D1 σ' H' → D2.nx σ' H') → m' = (p.n : Int) → t' ≤ t + 1 + 6 * total ps + 6 → SS H c D L B S ns t' bs st as ps H3 → PcAt H3 T p → p.ok → p.fits bs.length → (∀ rs, p = .put rs → ∀ z ∈ rs, z ∈ st) → (p.n : Int) ≤ room →
        rAppend (.ref L) [.ref T] H3 fun _ H4 => D2.nx [some (.ref D), some (.ref B), some (.ref S), some (.int most), some (.ref L), some (.int room), y6, some (.int m'), y8] H4 := by
      intro T p m' y6 y8 t' H3 D1 D2 k1 k2 em ht' s3 hT ok fit sub hn
      subst em
      have p1 := Pc.one ok
      refine ⟨L, _, _, rfl, rfl, s3.hl, by rw [List.length_map]; exact Nat.lt_of_le_of_lt nl (by decide), k2 _ _ ?_⟩
      refine ⟨_, rfl, _, rfl, _, _, rfl, rfl, k1 _ _ ⟨⟨as ++ [T], ps ++ [p], room - (p.n : Int), _, _, _, rfl, by omega, by rw [total_snoc]; omega, ?_⟩, ?_⟩⟩
      · have s4 := s3.add hT ok fit sub
        refine s4.move (Kp.refl _ _) (s4.dk.le ?_)
        rw [total_snoc, Nat.mul_add]
        omega
      · show (room - (p.n : Int)).toNat < room.toNat
        omega
    have put : ∀ (y6 y7 y8 : Option V) (t' : Nat) (H3 : Hp) (D1 D2 : Ends), (∀ σ' H', SsW H c D L B S ns (t + 1) bs st most n σ' H' ∧ slotN 5 σ' < room.toNat → D1.nx σ' H') → (∀ σ' H', t_l_script_end K D1 σ' H' → D2.nx σ' H') → t' ≤ t + 1 + 6 * total ps + 1 → SS H c D L B S ns t' bs st as ps H3 → t_l_script_put K D2 [some (.ref D), some (.ref B), some (.ref S), some (.int most), some (.ref L), some (.int room), y6, y7, y8] H3 := by
      intro y6 y7 y8 t' H3 D1 D2 k1 k2 ht' s3
      have mp := min2_pos hroom (show (0 : Int) < 3 by decide)
      have ml := min2_eq (i := room) (j := 3)
      refine ⟨_, rfl, _, rfl, _, _, rfl, c, D, ns, t', _, rfl, s3.dk, by omega, mp, small100 (by omega), fun v H4 v0 v1 d4 fr4 => ⟨_, _, rfl, rfl, ?_⟩⟩
      have s4 := s3.move (.fr fr4) d4
      refine ⟨_, rfl, .inl ⟨rfl, _, sqL s4.hl⟩, _, rfl, _, rfl, by omega, by omega, fun G nG => ?_⟩
      refine lc_deck (walk_range (lo := 0) (n := (1 + v).toNat)) yFn V.str (fun z => z ∈ st) 1 nG d4 (by omega) ?_ ?_
      · intro i x H5 R hi kp d5 r
        exact ⟨rfl, stock_draw (i := 0) (j := 2) rfl rfl d5 (by omega) (s4.move kp d5).stAt nSD r⟩
      · intro ys H5 hl hp kp d5 hG
        refine ⟨G, _, rfl, .inl ⟨sqL hG, fun r nr => ⟨by show (2 : Nat) ≤ sizeLine; decide, fun T nT => ?_⟩⟩⟩
        have s5 := s4.move kp d5
        have s6 := s5.move (Kp.new (o := .tup (ys.map V.str)) nr) (s5.dk.upd (s5.dk.neC nr) (s5.dk.neD nr))
        have s7 := s6.move (Kp.new (o := .tup [.str "put", .ref r]) nT) (s6.dk.upd (s6.dk.neC nT) (s6.dk.neD nT))
        have nrT : r ≠ T := fun e => by rw [← e, updS] at nT; cases nT
        have en : ((Pc.put ys).n : Int) = 1 + v := by
          show ((ys.length : Nat) : Int) = 1 + v
          omega
        exact fin T (.put ys) (1 + v) y6 _ _ _ D1 D2 k1 k2 en.symm (by omega) s7 ⟨r, updS, updN nrT updS⟩ ⟨fun e => by rw [e] at hl; simp at hl; omega, fun z hz => s7.stAt.2.2.2 z (hp z hz)⟩ True.intro (fun rs e z hz => by cases e; exact hp z hz) (by omega)
    refine ⟨_, rfl, lenT s.baseAt ⟨_, _, rfl, rfl, _, rfl, ite2 (fun e2 => ?_) (fun e2 => iteF (put z6 z7 z8 _ _ _ _ (fun _ _ z => z) (fun _ _ z => z) (by omega) s))⟩⟩
    have hb0 : 0 < bs.length := by
      have q : (0 : Int) < ((bs.map V.str).length : Int) := of_decide_eq_true e2
      rw [List.length_map] at q
      omega
    refine ⟨_, rfl, c, D, ns, _, 3, rfl, s.dk, by omega, by decide, by decide, fun v H3 v0 v1 d3 fr3 => ⟨_, _, rfl, rfl, _, rfl, ite2 (fun e3 => ?_) (fun e3 => put z6 z7 z8 _ _ _ _ (fun _ _ z => z) (fun _ _ z => z) (by omega) (s.move (.fr fr3) d3))⟩⟩
    have s3 := s.move (.fr fr3) d3
    refine ⟨_, rfl, _, rfl, lenT s3.baseAt ⟨c, D, ns, _, _, rfl, s3.dk, by omega, by rw [List.length_map]; omega, by rw [List.length_map]; exact small100 (by omega), fun b H4 b0 b1 d4 fr4 => ?_⟩⟩
    rw [List.length_map] at b1
    obtain ⟨b, rfl⟩ := Int.eq_ofNat_of_zero_le b0
    have s4 := s3.move (.fr fr4) d4
    have mp := min2_pos hroom (show (0 : Int) < ((bs.map V.str).length : Int) - (b : Int) by rw [List.length_map]; omega)
    have ml := min2_eq (i := room) (j := ((bs.map V.str).length : Int) - (b : Int))
    refine ⟨_, rfl, _, rfl, _, rfl, lenT s4.baseAt ⟨_, rfl, _, _, rfl, rfl, _, _, rfl, c, D, ns, _, _, rfl, s4.dk, by omega, mp, small100 (by omega), fun v H5 v0 v1 d5 fr5 => ⟨_, _, rfl, rfl, ?_⟩⟩⟩
    have s5 := s4.move (.fr fr5) d5
    obtain ⟨v, rfl⟩ := Int.eq_ofNat_of_zero_le v0
    have hml : (bs.map V.str).length = bs.length := List.length_map ..
    have ev : (1 + (v : Int)) = ((1 + v : Nat) : Int) := by omega
    refine ⟨_, rfl, .inl ⟨rfl, _, sqL s5.hl⟩, _, rfl, _, rfl, by show (3 : Nat) ≤ sizeLine; decide, fun T nT => ?_⟩
    have s6 := s5.move (Kp.new (o := .tup [.str "take", .int (b : Int), .int (1 + (v : Int))]) nT) (s5.dk.upd (s5.dk.neC nT) (s5.dk.neD nT))
    exact fin T (.take b (1 + v)) (1 + (v : Int)) (some (.int (b : Int))) z8 _ _ _ _ (fun _ _ z => z) (fun _ _ z => z) ev (by omega) s6 (by show upd _ _ _ _ = some (.tup [.str "take", .int (b : Int), .int ((1 + v : Nat) : Int)]); rw [updS, ← ev]) (show 1 ≤ 1 + v by omega) (show b + (1 + v) ≤ bs.length by omega) (fun rs e => by cases e) (show ((1 + v : Nat) : Int) ≤ room by omega)
  · have hroom : room = 0 := by
      have : ¬ 0 < room := fun q => e (decide_eq_true q)
      omega
    subst hroom
    refine ⟨_, rfl, L, _, rfl, .inl ⟨sqL s.hl, fun a na => ?_⟩⟩
    have kk : Kp D H2 (upd H2 a (.tup (as.map V.ref))) := .new na
    refine k a ps _ ⟨as, updS, s.pr.mono (kk.tm s.dk)⟩ ⟨s.ok, by omega⟩ s.fit (by omega) s.sub (s.keep.trans kk) ((s.dk.le (by omega)).upd (s.dk.neC na) (s.dk.neD na))
end
end Fw

set_option Elab.async false
set_option linter.all false
set_option maxRecDepth 100000
set_option maxHeartbeats 4000000
/-! Dicts whose keys are nested tuples: tracked by what is true of their one object; the keys' tuples are tracked tuples. -/
namespace Fw
open PySem PySem.Spec PyProof.Rows L2
/-- the world of the run: a text's hash is the world's -/
class HasW where
  w : World
mutual
/-- the value v is the key k -/
inductive NKey (H : Hp) : NestedKey → V → Prop
  | non : NKey H .none .non
  | bl (b : Bool) : NKey H (.num (if b = true then 1 else 0)) (.bl b)
  | int (i : Int) : NKey H (.num i) (.int i)
  | str (x : Str) : NKey H (.text x) (.str x)
  | tup {a : Addr} {xs : List V} {ks : List NestedKey} : H a = some (.tup xs) → NKeys H ks xs → NKey H (.tup ks) (.ref a)
inductive NKeys (H : Hp) : List NestedKey → List V → Prop
  | nil : NKeys H [] []
  | cons {k : NestedKey} {ks : List NestedKey} {v : V} {vs : List V} : NKey H k v → NKeys H ks vs → NKeys H (k :: ks) (v :: vs)
end
mutual
theorem NKey.mono {H H' : Hp} (m : ∀ a xs, H a = some (.tup xs) → H' a = some (.tup xs)) : ∀ {k : NestedKey} {v : V}, NKey H k v → NKey H' k v
  | _, _, .non => .non
  | _, _, .bl b => .bl b
  | _, _, .int i => .int i
  | _, _, .str x => .str x
  | _, _, .tup h r => .tup (m _ _ h) (NKeys.mono m r)
theorem NKeys.mono {H H' : Hp} (m : ∀ a xs, H a = some (.tup xs) → H' a = some (.tup xs)) : ∀ {ks : List NestedKey} {vs : List V}, NKeys H ks vs → NKeys H' ks vs
  | _, _, .nil => .nil
  | _, _, .cons a b => .cons (NKey.mono m a) (NKeys.mono m b)
end
mutual
theorem NKey.is {P : Program} {w : World} {H : Hp} {h : Heap} (ok : HOk P w H h) : ∀ {k : NestedKey} {v : V} {u : Value}, NKey H k v → RelV v u → NestedIs h k u
  | _, _, u, .non, r => by
    obtain rfl : u = .none := r
    exact .none
  | _, _, u, .bl b, r => by
    obtain rfl : u = .bool b := r
    exact .bool rfl
  | _, _, u, .int i, r => by
    obtain ⟨t, rfl⟩ : ∃ t, u = .int i t := r
    exact .int i t
  | _, _, u, .str x, r => by
    obtain ⟨t, rfl⟩ : ∃ t, u = .str x t := r
    exact .text x t
  | _, _, u, @NKey.tup _ a xs ks e q, r => by
    obtain rfl : u = .ref a := r
    obtain ⟨_, its, rel, o, h1, h2, n, h3⟩ := (show ObjOk P w H h a (.tup xs) from ok a _ e)
    exact .tup h1 h2 h3 (by simpa using NKeys.is ok q rel)
theorem NKeys.is {P : Program} {w : World} {H : Hp} {h : Heap} (ok : HOk P w H h) : ∀ {ks : List NestedKey} {vs : List V} {us : List Value}, NKeys H ks vs → Vals vs us → NestedAll h ks us
  | _, _, _, .nil, .nil => .nil
  | _, _, _, .cons a b, .cons r t => .cons (NKey.is ok a r) (NKeys.is ok b t)
end
/-- an entry: the key, where its tuple stands, the value -/
abbrev NEnt := NestedKey × Addr × V
abbrev NRel : List NEnt → List (NestedKey × Addr × Value) → Prop := Paired fun p q => p.1 = q.1 ∧ p.2.1 = q.2.1 ∧ RelV p.2.2 q.2.2
def nEntry (w : World) (x : NestedKey × Addr × Value) : DictEntry := ⟨x.1.hash w, .ref x.2.1, x.2.2⟩
/-- what is true of the object at a -/
def NDφ (w : World) (a : Addr) (xs : List NEnt) : Heap → Prop := fun h =>
  xs.length ≤ sizeLine ∧ (a == sysModules) = false ∧ ∃ ys, NRel xs ys ∧ ∃ o es ep, h.get? a = some o ∧ o.ExactDict ∧ o.data = .dict es ep ∧ es.toList = ys.map (nEntry w) ∧ (ys.map (·.1)).Nodup
/-- a dict with nested keys -/
def ND [HasW] (a : Addr) (xs : List NEnt) : HO := .ext (NDφ HasW.w a xs)
/-- the keys of the entries stand as tracked tuples -/
def NKs (H : Hp) (xs : List NEnt) : Prop := ∀ x ∈ xs, NKey H x.1 (.ref x.2.1) ∧ x.1.depth ≤ 8
theorem NKs.mono {H H' : Hp} {xs : List NEnt} (k : NKs H xs) (m : ∀ a xs, H a = some (.tup xs) → H' a = some (.tup xs)) : NKs H' xs := fun x hx => ⟨(k x hx).1.mono m, (k x hx).2⟩
/-- the value at a key -/
def nAt (xs : List NEnt) (k : NestedKey) : Option V := (xs.find? fun x => decide (x.1 = k)).map (·.2.2)
def nPut (xs : List NEnt) (k : NestedKey) (b : Addr) (v : V) : List NEnt := if (nAt xs k).isSome then xs.map fun x => if x.1 = k then (x.1, x.2.1, v) else x else xs ++ [(k, b, v)]
theorem nPut_new {xs : List NEnt} {k : NestedKey} {b : Addr} {v : V} (h : nAt xs k = none) : nPut xs k b v = xs ++ [(k, b, v)] := by
  unfold nPut
  rw [h]
  rfl
theorem NRel.val {xs : List NEnt} {ys : List (NestedKey × Addr × Value)} (r : NRel xs ys) (k : NestedKey) : RelO (nAt xs k) ((atKey ys k).map (·.2)) := by
  induction r with
  | nil => exact True.intro
  | @cons p q ps qs h t ih =>
    obtain ⟨h1, _, h2⟩ := h
    by_cases e : p.1 = k
    · have e' : q.1 = k := h1.symm.trans e
      have b : atKey (q :: qs) k = some q.2 := by simp [atKey, List.find?_cons, e']
      have c : nAt (p :: ps) k = some p.2.2 := by simp [nAt, List.find?_cons, e]
      rw [c, b]; exact h2
    · have e' : ¬ q.1 = k := fun z => e (h1.trans z)
      have b : atKey (q :: qs) k = atKey qs k := by simp [atKey, List.find?_cons, e']
      have c : nAt (p :: ps) k = nAt ps k := by simp [nAt, List.find?_cons, e]
      rw [c, b]; exact ih
theorem NRel.put {xs : List NEnt} {ys : List (NestedKey × Addr × Value)} (r : NRel xs ys) (k : NestedKey) (b : Addr) {v : V} {u : Value} (rv : RelV v u) : NRel (nPut xs k b v) (storedH ys k b u) := by
  have e : (nAt xs k).isSome = (atKey ys k).isSome := by rw [(r.val k).isSome_eq, Option.isSome_map]
  unfold nPut storedH
  rw [e]
  by_cases q : (atKey ys k).isSome = true
  · rw [if_pos q, if_pos q]
    clear e q
    induction r with
    | nil => exact .nil
    | @cons p q ps qs h t ih =>
      rw [List.map_cons, List.map_cons]
      refine .cons ?_ ih
      obtain ⟨h1, h2, h3⟩ := h
      unfold putAt
      by_cases e : p.1 = k
      · rw [if_pos e, if_pos (h1.symm.trans e)]; exact ⟨h1, h2, rv⟩
      · rw [if_neg e, if_neg (fun z => e (h1.trans z))]; exact ⟨h1, h2, h3⟩
  · rw [if_neg q, if_neg q]; exact Paired.snoc r ⟨rfl, rfl, rv⟩
theorem length_nPut (xs : List NEnt) (k : NestedKey) (b : Addr) (v : V) : (nPut xs k b v).length ≤ xs.length + 1 := by
  unfold nPut
  split
  · rw [List.length_map]; omega
  · rw [List.length_append]; exact Nat.le_refl _
theorem nd_entries {P : Program} {w : World} {ys : List (NestedKey × Addr × Value)} : ys.map (nEntry w) = ys.map (entryOfKey (nestedKind P w)) := rfl
theorem nd_dict {P : Program} {w : World} {H : Hp} {h : Heap} {a : Addr} {xs : List NEnt} (ok : HOk P w H h) (ks : NKs H xs) (d : NDφ w a xs h) : xs.length ≤ sizeLine ∧ (a == sysModules) = false ∧ ∃ ys, NRel xs ys ∧ h.DictOfH (nestedKind P w) a ys := by
  obtain ⟨z, y, ys, r, o, es, ep, h1, h2, h3, h4, h5⟩ := d
  refine ⟨z, y, ys, r, o, es, ep, h1, h2, h3, h4, fun x hx => ?_, h5⟩
  have all : ∀ {l : List NEnt} {m : List (NestedKey × Addr × Value)}, NRel l m → NKs H l → ∀ x ∈ m, (nestedKind P w).is h x.1 x.2.1 := by
    intro l m q
    induction q with
    | nil => intro _ x hx; exact nomatch hx
    | @cons p q ps qs hq t ih =>
      intro kk x hx
      rcases List.mem_cons.mp hx with e | hx
      · subst e
        obtain ⟨k1, k2⟩ := kk p List.mem_cons_self
        rw [hq.1, hq.2.1] at k1
        rw [hq.1] at k2
        exact ⟨k1.is ok rfl, k2⟩
      · exact ih (fun x hx => kk x (List.mem_cons_of_mem _ hx)) x hx
  exact all r ks x hx
theorem nd_of [HasW] {P : Program} {H : Hp} {h : Heap} {a : Addr} {xs : List NEnt} (ok : HOk P HasW.w H h) (e : H a = some (ND a xs)) (ks : NKs H xs) : xs.length ≤ sizeLine ∧ (a == sysModules) = false ∧ ∃ ys, NRel xs ys ∧ h.DictOfH (nestedKind P HasW.w) a ys :=
  nd_dict ok ks (show ObjOk P HasW.w H h a (ND a xs) from ok a _ e).1
theorem nd_new {w : World} {a : Addr} {xs : List NEnt} {ys : List (NestedKey × Addr × Value)} {P : Program} {h : Heap} {H : Hp} (z : xs.length ≤ sizeLine) (y : (a == sysModules) = false) (r : NRel xs ys) (d : h.DictOfH (nestedKind P w) a ys) : ObjOk P w H h a (.ext (NDφ w a xs)) := by
  obtain ⟨o, es, ep, h1, h2, h3, h4, _, h5⟩ := d
  refine ⟨⟨z, y, ys, r, o, es, ep, h1, h2, h3, h4, h5⟩, ⟨o, h1⟩, ?_⟩
  rintro g1 g2 ⟨z, y, ys, r, o, es, ep, h1, h2, h3, h4, h5⟩ k
  exact ⟨z, y, ys, r, o, es, ep, k _ h1, h2, h3, h4, h5⟩
/-- what the dict at a holds at the key y -/
def NGet [HasW] (H : Hp) (a : Addr) (y : V) (r : Option V) : Prop := ∃ xs k b, H a = some (ND a xs) ∧ NKs H xs ∧ y = .ref b ∧ NKey H k y ∧ k.depth ≤ 8 ∧ r = nAt xs k
/-- the heap behind a[y] = v -/
def NPut [HasW] (H : Hp) (a : Addr) (y v : V) (H' : Hp) : Prop := ∃ xs k b, H a = some (ND a xs) ∧ NKs H xs ∧ y = .ref b ∧ NKey H k y ∧ k.depth ≤ 8 ∧ xs.length < sizeLine ∧ H' = upd H a (ND a (nPut xs k b v))
section
variable [HasW] {X : Cx} {pins : List (Addr × Obj)} {σ : L2.St} {H : Hp} {s : Shared} {a : Addr} {y v : V} {u r : Value} {o : Option V} {A : Around} {E : Value → Shared → Prop}
theorem room8 {A : Around} (hu : A.units + 64 < cLine) : A.in1.units + 8 < cLine := by
  rw [Around.in1_units]
  omega
theorem n_getItem {Q : Value → Shared → Prop} (hw : X.w = HasW.w) (hu : A.units + 64 < cLine) (I : Inv X pins σ H s) (g : NGet H a y (some v)) (ry : RelV y u) (h : ∀ w' s', Inv X pins σ H s' → RelV v w' → Q w' s') :
    wpAny (model X.prog X.w) A (getItem (.ref a) u) Q E s := by
  obtain ⟨xs, k, b, e, ks, rfl, key, dp, l⟩ := g
  cases (show u = Value.ref b from ry)
  have ok := I.hok
  rw [hw] at ok ⊢
  obtain ⟨z, hd, ys, rel, dd⟩ := nd_of ok e ks
  obtain ⟨w', hw', rw'⟩ := RelO.some_of (v := v) (o := (atKey ys k).map (·.2)) (by rw [l]; exact rel.val k)
  obtain ⟨p, hp, hp2⟩ := Option.map_eq_some_iff.mp hw'
  refine wpAny_getItem_heap (knd := nestedKind X.prog HasW.w) (room8 hu) ⟨key.is ok rfl, dp⟩ dd hp ?_
  rw [hp2]
  exact h w' _ (I.tok _) rw'
theorem n_in {Q : Value → Shared → Prop} (hw : X.w = HasW.w) (hu : A.units + 64 < cLine) (I : Inv X pins σ H s) (g : NGet H a y o) (ry : RelV y u) (h : ∀ s', Inv X pins σ H s' → Q (.bool o.isSome) s') :
    wpAny (model X.prog X.w) A (compareOp .In u (.ref a)) Q E s := by
  obtain ⟨xs, k, b, e, ks, rfl, key, dp, l⟩ := g
  cases (show u = Value.ref b from ry)
  have ok := I.hok
  rw [hw] at ok ⊢
  obtain ⟨z, hd, ys, rel, dd⟩ := nd_of ok e ks
  refine wpAny_in_heap (knd := nestedKind X.prog HasW.w) (room8 hu) ⟨key.is ok rfl, dp⟩ hd dd ?_
  have q := (rel.val k).isSome_eq
  rw [Option.isSome_map] at q
  rw [← q, ← l]
  exact h _ (I.tok _)
theorem n_notIn {Q : Value → Shared → Prop} (hw : X.w = HasW.w) (hu : A.units + 64 < cLine) (I : Inv X pins σ H s) (g : NGet H a y o) (ry : RelV y u) (h : ∀ s', Inv X pins σ H s' → Q (.bool (!o.isSome)) s') :
    wpAny (model X.prog X.w) A (compareOp .NotIn u (.ref a)) Q E s := by
  obtain ⟨xs, k, b, e, ks, rfl, key, dp, l⟩ := g
  cases (show u = Value.ref b from ry)
  have ok := I.hok
  rw [hw] at ok ⊢
  obtain ⟨z, hd, ys, rel, dd⟩ := nd_of ok e ks
  refine wpAny_notIn_heap (knd := nestedKind X.prog HasW.w) (room8 hu) ⟨key.is ok rfl, dp⟩ hd dd ?_
  have q := (rel.val k).isSome_eq
  rw [Option.isSome_map] at q
  rw [← q, ← l]
  exact h _ (I.tok _)
theorem n_setItem {H' : Hp} {Q : Unit → Shared → Prop} (hw : X.w = HasW.w) (hu : A.units + 64 < cLine) (I : Inv X pins σ H s) (g : NPut H a y v H') (ry : RelV y u) (rv : RelV v r) (h : ∀ s', Inv X pins σ H' s' → Q () s') :
    wpAny (model X.prog X.w) A (setItem (.ref a) u r) Q E s := by
  obtain ⟨xs, k, b, e, ks, rfl, key, dp, few, rfl⟩ := g
  cases (show u = Value.ref b from ry)
  have ok := I.hok
  have ok2 := I.hok
  rw [hw] at ok
  obtain ⟨z, hd, ys, rel, dd⟩ := nd_of ok e ks
  have hz : ys.length ≤ sizeLine := by rw [← Paired.length rel]; exact z
  have hl : (nPut xs k b v).length ≤ sizeLine := by have := length_nPut xs k b v; omega
  rw [← hw] at dd
  refine wpAny_setItem_heap (hsz := hz) (knd := nestedKind X.prog X.w) (room8 hu) ⟨key.is ok2 rfl, dp⟩ dd fun h' dd' hs => h _ ?_
  have he : ∃ q, h'.get? a = some q := let ⟨q, _, _, hq, _⟩ := dd'; ⟨q, hq⟩
  refine d_write I (by rw [e]; exact True.intro) hs he ?_
  have := nd_new (H := upd H a (ND a (nPut xs k b v))) hl hd (rel.put k b rv) dd'
  rw [hw] at this ⊢
  exact this
theorem n_get1 {Q : Value → Shared → Prop} (hw : X.w = HasW.w) (hu : A.units + 64 < cLine) (I : Inv X pins σ H s) (g : NGet H a y o) (ry : RelV y u) (h : ∀ w' s', Inv X pins σ H s' → RelV (o.getD .non) w' → Q w' s') :
    wpAny (model X.prog X.w) A (call (.builtin "dict.get") [.ref a, u]) Q E s := by
  obtain ⟨xs, k, b, e, ks, rfl, key, dp, l⟩ := g
  cases (show u = Value.ref b from ry)
  have ok := I.hok
  rw [hw] at ok ⊢
  obtain ⟨z, hd, ys, rel, dd⟩ := nd_of ok e ks
  refine call_meetsIn PySem.F.slot_dict_get dd.typeIs PySem.F.entry_dict_get (PySem.F.args_dict_get_2 _ _) (meetsH_dict_get (nestedKind X.prog HasW.w) a b hd) ⟨room8 hu, k, ys, ⟨key.is ok rfl, dp⟩, dd, h _ _ (I.tok _) ?_⟩
  rw [l]
  exact (rel.val k).getD rfl
theorem n_typeIs (hw : X.w = HasW.w) (I : Inv X pins σ H s) {xs : List NEnt} (e : H a = some (ND a xs)) : s.TypeIs (.ref a) "dict" ∧ (∀ b, Value.ref a = .ref b → ∃ ob, s.heap.get? b = some ob ∧ ob.dict = none) := by
  obtain ⟨⟨z, y, ys, r, ob, es, ep, h1, h2, h3, h4, h5⟩, _⟩ := (show ObjOk X.prog X.w H s.heap a (ND a xs) from I.hok a _ e)
  refine ⟨⟨ob, h1, h2.1⟩, fun b q => ?_⟩
  cases q
  exact ⟨ob, h1, h2.2.1⟩
end
/-! ### readings and rules -/
section
variable [HasW]
def tNGet (td ty : TE) : TE := fun σ H Q => td σ H fun x H1 => ty σ H1 fun y H2 => ∃ a v, x = .ref a ∧ NGet H2 a y (some v) ∧ Q v H2
def tNIn (ty td : TE) : TE := fun σ H Q => ty σ H fun y H1 => td σ H1 fun x H2 => ∃ a o, x = .ref a ∧ NGet H2 a y o ∧ Q (.bl o.isSome) H2
def tNNotIn (ty td : TE) : TE := fun σ H Q => ty σ H fun y H1 => td σ H1 fun x H2 => ∃ a o, x = .ref a ∧ NGet H2 a y o ∧ Q (.bl (!o.isSome)) H2
def sNPut (td ty tv : TE) : TS := fun D σ H => tv σ H fun v H1 => td σ H1 fun x H2 => ty σ H2 fun y H3 => ∃ a H4, x = .ref a ∧ NPut H3 a y v H4 ∧ D.nx σ H4
def tNGet1 (td ty : TE) : TE := fun σ H Q => td σ H fun x H1 => ∃ a xs, x = .ref a ∧ H1 a = some (ND a xs) ∧ ty σ H1 fun y H2 => ∃ o, NGet H2 a y o ∧ Q (o.getD .non) H2
/-- {} -/
def tNNew : TE := fun _ H Q => ∀ p, H p = none → Q (.ref p) (upd H p (ND p []))
end
section
variable [HasW] {X : Cx} {o i e value : Expr} {pos pos' apos cpos : Pos} {td ty tv : TE}
theorem pe_nget (hw : X.w = HasW.w) (hu : X.A.units + 64 < cLine) (ho : PE X o td) (hi : PE X i ty) (hs : NoSl i) : PE X (.Subscript o i pos) (tNGet td ty) := by
  refine ⟨fun pins s σ H Q I h => ?_⟩
  refine subD_of PySem.F.slot_dict_getitem.lookup hs (thn (ho.run pins s σ H _ I h) fun u s1 ⟨x, H1, I1, rx, q1⟩ => thn (hi.run pins s1 σ H1 _ I1 q1) fun iv s2 ⟨y, H2, I2, ry, a, v, ex, g, q2⟩ => ?_)
  subst ex
  obtain rfl : u = Value.ref a := rx
  refine ⟨?_, n_getItem hw hu I2 g ry fun w' s3 I3 rw' => ⟨v, H2, I3, rw', q2⟩⟩
  obtain ⟨xs, _, _, e, _⟩ := g
  exact (n_typeIs hw I2 e).1
theorem pc_nin (hw : X.w = HasW.w) (hu : X.A.units + 64 < cLine) (hi : PE X i ty) (ho : PE X o td) : PC X .In i o (tNIn ty td) := by
  refine ⟨fun pins s σ H Q I h => ?_⟩
  refine thn (hi.run pins s σ H _ I h) fun iv s1 ⟨y, H1, I1, ry, q1⟩ => thn (ho.run pins s1 σ H1 _ I1 q1) fun u s2 ⟨x, H2, I2, rx, a, ov, ex, g, q2⟩ => ?_
  subst ex
  obtain rfl : u = Value.ref a := rx
  exact n_in hw hu I2 g ry fun s3 I3 => ⟨.bl ov.isSome, H2, I3, rfl, q2⟩
theorem pc_nnotin (hw : X.w = HasW.w) (hu : X.A.units + 64 < cLine) (hi : PE X i ty) (ho : PE X o td) : PC X .NotIn i o (tNNotIn ty td) := by
  refine ⟨fun pins s σ H Q I h => ?_⟩
  refine thn (hi.run pins s σ H _ I h) fun iv s1 ⟨y, H1, I1, ry, q1⟩ => thn (ho.run pins s1 σ H1 _ I1 q1) fun u s2 ⟨x, H2, I2, rx, a, ov, ex, g, q2⟩ => ?_
  subst ex
  obtain rfl : u = Value.ref a := rx
  exact n_notIn hw hu I2 g ry fun s3 I3 => ⟨.bl (!ov.isSome), H2, I3, rfl, q2⟩
theorem ps_nput (hw : X.w = HasW.w) (hu : X.A.units + 64 < cLine) (ho : PE X o td) (hi : PE X i ty) (hv : PE X value tv) (hs : swapsWith value (some (.Subscript o i pos')) pos.line X.env = pure false) :
    PS X (.Assign [.Subscript o i pos'] value pos) (sNPut td ty tv) := by
  refine ⟨fun pins s σ H D I h => ?_⟩
  refine wpAny_Assign_Subscript (thn (hv.run pins s σ H _ I h) fun r s1 ⟨v, H1, I1, rv, q1⟩ => thn (ho.run pins s1 σ H1 _ I1 q1) fun u s2 ⟨x, H2, I2, rx, q2⟩ => thn (hi.run pins s2 σ H2 _ I2 q2) fun iv s3 ⟨y, H3, I3, ry, a, H4, ex, g, q3⟩ => ?_) hs
  subst ex
  obtain rfl : u = Value.ref a := rx
  exact n_setItem hw hu I3 g ry rv fun s4 I4 => ⟨σ, H4, I4, q3⟩
theorem pe_nget1 (hw : X.w = HasW.w) (hu : X.A.units + 64 < cLine) (ho : PE X o td) (he : PE X e ty) (m : M1 X o "get" apos e cpos) : PE X (.Call (.Attribute o "get" apos) [e] [] cpos) (tNGet1 td ty) := by
  refine ⟨fun pins s σ H Q I h => ?_⟩
  refine wpAny_Call_method m.base m.few m.line PySem.F.plainAttrs_dict PySem.F.slot_dict_get PySem.F.type_dict_get (thn (ho.run pins s σ H _ I h) fun u s1 ⟨x, H1, I1, rx, a, xs, ex, d, q1⟩ => ?_)
  subst ex
  obtain rfl : u = Value.ref a := rx
  obtain ⟨t1, t2⟩ := n_typeIs hw I1 d
  refine ⟨t1, t2, ?_⟩
  rw [m.trees]
  refine Calls.callWith_builtin rfl (Calls.evalArgs_plain (Calls.spliced_cons (thn (he.run pins s1 σ H1 _ I1 q1) fun iv s2 ⟨y, H2, I2, ry, ov, g, q2⟩ => Calls.spliced_nil ?_)))
  exact n_get1 hw hu I2 g ry fun w' s3 I3 rw' => ⟨_, H2, I3, rw', q2⟩
theorem pe_nnew (hw : X.w = HasW.w) : PE X (.Dict [] [] pos) tNNew := ⟨fun pins s σ H Q I h => by
  refine wpAny_Dict_empty ⟨.ref s.heap.objs.size, _, I.laid (a := s.heap.objs.size) (o := ND s.heap.objs.size []) (t' := s.toks) (fun _ _ q => Heap.get?_push_of_some _ q) (Nat.le_refl _) ?_, rfl, h _ (I.hok.fresh (Nat.le_refl _))⟩
  have hb := I.big
  have := nd_new (P := X.prog) (w := HasW.w) (xs := []) (H := upd H s.heap.objs.size (ND s.heap.objs.size [])) (Nat.zero_le _) (beq_eq_false_iff_ne.mpr (Ne.symm (Nat.ne_of_lt hb))) .nil (Heap.DictOfH.new (knd := nestedKind X.prog HasW.w) s.heap)
  rw [hw]
  exact this⟩
end
end Fw

set_option Elab.async false
set_option linter.all false
set_option maxRecDepth 100000
set_option maxHeartbeats 4000000
/-! Methods of own classes that raise; len of an own class. -/
namespace Fw
open PySem PySem.Spec PyProof.Rows L2
def tMethX (C : Addr) (m : Str) (sp : Sp) (E : L2.St → XK) (ta : TE) (t : TA) : TE := fun σ H Q => ta σ H fun x H1 => ∃ a dx fs, x = .ref a ∧ H1 a = some (.ins C dx fs) ∧ fs.lookup m = none ∧
  t σ H1 fun vs H2 => sp (x :: vs) H2 Q (E σ)
section
variable {X : Cx} {CX : CXT} {k : Nat} {f C : Addr} {fd : FuncData} {ps : List Str} {sp : Sp} {E : L2.St → XK} {E1 : XK} {x m : Str} {p pos apos : Pos} {e o : Expr} {es : List Expr} {ta : TE} {t : TA}
/-- o.m(e, ..), which may raise -/
theorem pe_methX {pl : Sem Bool} (he : PE X o ta) (c : Cls X.K C) (hm : Meth X.K C m f) (F : FnOk X.prog X.w X.K X.mg X.base CX k f fd ps sp) (hr : Room k X.A) (hb : Binds X.K fd ps []) (hx : ∀ σ, PassesAt CX X σ (E σ)) (ha : PA X (e :: es) t)
    (hst : starEach (e :: es) X.env = (false, eval e X.env) :: starEach es X.env := by rfl) (hpl : (backTo pos (starEach es X.env)).any (·.1) = false := by rfl)
    (ht : eval (.Call (.Attribute o m apos) (e :: es) [] pos) X.env = (do
      let ov ← eval o X.env
      standAt apos.atName
      let (f, first) ← holding [ov] (getMethod ov m pl)
      callWith pos f first (backTo pos (starEach (e :: es) X.env)) (backToKw pos (keywordEach [] X.env))) := by rfl) :
    PE X (.Call (.Attribute o m apos) (e :: es) [] pos) (tMethX C m sp E ta t) := by
  refine ⟨fun pins s σ H Q I h => ?_⟩
  refine PySem.W.methodCall_KW (pl := pl) (thn (he.run pins s σ H _ I h) fun u s1 ⟨x, H1, I1, rx, a, dx, fs, ex, ea, l, q⟩ => ?_) ht
  subst ex
  obtain rfl : u = Value.ref a := rx
  refine getmeth_ok I1 ea c hm l ?_
  refine PySem.W.callWith_K (first := [.ref a]) (h₀ := X.base) I.ok.mod.kin hm.kp (thn (ha.run pos pins s1 σ H1 _ I1 q) fun us s2 ⟨vs, H2, I2, r, q2⟩ => ⟨I2.kIn, ?_⟩) hst hpl
  exact run_fnS (us := .ref a :: us) (vs := .ref a :: vs) F hr hb (hx σ) I2 (.cons rfl r) q2
/-- len(x), x of an own class -/
def rLenC (C : Addr) (sp : Sp) (E : XK) : List V → Hp → VK → Prop := fun xs H Q => ∃ a dx fs, xs = [.ref a] ∧ H a = some (.ins C dx fs) ∧ sp [.ref a] H (fun v H' => ∃ n : Nat, v = .int n ∧ n ≤ 1000000 ∧ Q (.int n) H') E
theorem call_lenC (F : FnOk X.prog X.w X.K X.mg X.base CX k f fd ps sp) (hm : Meth X.K C "__len__" f) (hr : Room (k + 1) X.A) (hb : Binds X.K fd ps []) (hx : Passes CX X E1) : CallR X (.builtin "len") (rLenC C sp E1) := by
  intro pins s σ H xs us Q I r h
  obtain ⟨a, dx, fs, rfl, ha, q⟩ := h
  obtain rfl : us = [Value.ref a] := by
    cases r with
    | cons h t =>
      cases t
      obtain rfl := (show _ = Value.ref a from h)
      rfl
  obtain ⟨mA, J, _⟩ := ins_get I.hok ha
  obtain ⟨od, J, _⟩ := J.look
  obtain ⟨m, hF⟩ := I.fr
  refine PySem.W.len_K hF I.ok.mod.kin J hm.at_ hm.fn ?_
  have e0 : Env0 X.prog X.w X.K X.mg X.base X.A.in1 X.stack s H := by
    have e := I.env0
    exact ⟨e.frames, e.mod, e.bs, e.bsz, e.funs, e.frf, e.hok, e.bare⟩
  have hl := F.len _ _ _ _ q
  refine wpAny_call (codeAny_mono (F.run X.A.in1 X.stack s H ⟨[.ref a], []⟩ [.ref a] [.ref a] _ E1 hr.in1 e0 (by
    have := hb s [.ref a] I.kIn (by simpa using hl)
    simpa using this) (.cons rfl .nil) q) fun r s' hq => ?_)
  cases r with
  | error e => exact hx pins σ H s e s' I hq
  | ok fl =>
    cases fl with
    | ret w =>
      obtain ⟨z, H', I', rz, n, ez, hn, hz⟩ := I.after hq
      subst ez
      obtain ⟨t, rfl⟩ : ∃ t, w = .int n t := rz
      refine ⟨⟨by omega, by omega⟩, .int n, H', I'.tok _, ⟨_, rfl⟩, hz⟩
    | next => exact False.elim hq
    | brk => exact False.elim hq
    | cont => exact False.elim hq
end
end Fw

set_option Elab.async false
set_option linter.all false
set_option maxRecDepth 100000
set_option maxHeartbeats 4000000
/-! Contents, and how they stand in the heap; a book's state. -/
namespace Fw
open PySem L2 RZ RT
inductive Ct where
  | leaf (rows : List Str)
  | tree (es : List (Str × Int))
  | ver (ps : List Int) (root stamp : Int)
deriving DecidableEq
namespace Ct
def word : Ct → Str
  | .leaf _ => "leaf"
  | .tree _ => "tree"
  | .ver _ _ _ => "version"
def key : Ct → NestedKey
  | .leaf rows => .tup [.text "leaf", .tup (rows.map NestedKey.text)]
  | .tree es => .tup [.text "tree", .tup (es.map fun e => .tup [.text e.1, .num e.2])]
  | .ver ps r s => .tup [.text "version", .tup (ps.map NestedKey.num), .num r, .num s]
def parts : Ct → List Int
  | .leaf _ => []
  | .tree es => es.map (·.2)
  | .ver ps r _ => ps ++ [r]
end Ct
def OkLab (z : Str) : Prop := 1 ≤ z.cps.size ∧ z.cps.size ≤ 8 ∧ ∀ c ∈ z.cps.toList, 97 ≤ c ∧ c ≤ 122
def ltS (a b : Str) : Prop := a.cps.toList < b.cps.toList
def Ct.form : Ct → Prop
  | .leaf rows => rows.length ≤ 40 ∧ ∀ z ∈ rows, OkS z
  | .tree es => es.length ≤ 20 ∧ (∀ e ∈ es, OkLab e.1) ∧ es.Pairwise fun a b => ltS a.1 b.1
  | .ver ps _ s => ps.length ≤ 4 ∧ ps.Pairwise (· < ·) ∧ 0 ≤ s ∧ s ≤ 1000000000000000000
theorem wv_lt : ("leaf" : Str) ≠ "tree" := by decide +kernel
theorem wv_lv : ("leaf" : Str) ≠ "version" := by decide +kernel
theorem wv_tv : ("tree" : Str) ≠ "version" := by decide +kernel
theorem map_inj {α β : Type} {f : α → β} (h : ∀ a b, f a = f b → a = b) : ∀ {l m : List α}, l.map f = m.map f → l = m
  | [], [], _ => rfl
  | a :: l, b :: m, e => by
    rw [List.map_cons, List.map_cons] at e
    injection e with e1 e2
    rw [h a b e1, map_inj h e2]
theorem Ct.key_inj {c d : Ct} (h : c.key = d.key) : c = d := by
  cases c <;> cases d <;> (unfold Ct.key at h; injection h with h)
  · injection h with _ h
    injection h with h _
    injection h with h
    rw [map_inj (fun a b e => by injection e) h]
  · injection h with h _
    injection h with h
    exact absurd h wv_lt
  · injection h with h _
    injection h with h
    exact absurd h wv_lv
  · injection h with h _
    injection h with h
    exact absurd h wv_lt.symm
  · injection h with _ h
    injection h with h _
    injection h with h
    rw [map_inj (fun a b e => by
      injection e with e
      injection e with e1 e
      injection e1 with e1
      injection e with e2 _
      injection e2 with e2
      exact Prod.ext e1 e2) h]
  · injection h with h _
    injection h with h
    exact absurd h wv_tv
  · injection h with h _
    injection h with h
    exact absurd h wv_lv.symm
  · injection h with h _
    injection h with h
    exact absurd h wv_tv.symm
  · injection h with _ h
    injection h with h1 h
    injection h1 with h1
    injection h with h2 h
    injection h2 with h2
    injection h with h3 _
    injection h3 with h3
    rw [map_inj (fun a b e => by injection e) h1, h2, h3]
/-! ### what a book takes -/
/-- the greatest, nought if there is none -/
def dmax : List Int → Int
  | [] => 0
  | x :: xs => xs.foldl max x
def depOf (ds : List Int) : Ct → Int
  | .tree es => 1 + dmax (es.map fun e => ds.getD e.2.toNat 0)
  | _ => 0
def deps (cs : List Ct) : List Int := cs.foldl (fun ds c => ds ++ [depOf ds c]) []
theorem deps_snoc (cs : List Ct) (c : Ct) : deps (cs ++ [c]) = deps cs ++ [depOf (deps cs) c] := by
  unfold deps
  rw [List.foldl_append]
  rfl
theorem deps_len : ∀ (cs : List Ct), (deps cs).length = cs.length := by
  have : ∀ (cs : List Ct) (ds : List Int), (cs.foldl (fun ds c => ds ++ [depOf ds c]) ds).length = ds.length + cs.length := by
    intro cs
    induction cs with
    | nil => intro ds; rfl
    | cons c cs ih =>
      intro ds
      rw [List.foldl_cons, ih, List.length_append, List.length_singleton, List.length_cons]
      omega
  intro cs
  have h := this cs []
  rw [List.length_nil, Nat.zero_add] at h
  exact h
/-- a name of the book, of one of these kinds -/
def hasK (cs : List Ct) (ks : List Str) (i : Int) : Bool := decide (0 ≤ i) && (decide (i < cs.length) && ks.contains ((cs.getD i.toNat (.leaf [])).word))
def Ct.inB (cs : List Ct) : Ct → Bool
  | .leaf _ => true
  | .tree es => es.all (fun e => hasK cs ["leaf", "tree"] e.2) && decide (depOf (deps cs) (.tree es) ≤ 8)
  | .ver ps r _ => ps.all (hasK cs ["version"]) && hasK cs ["tree"] r
theorem hasK_mono {cs more : List Ct} {ks : List Str} {i : Int} (h : hasK cs ks i = true) : hasK (cs ++ more) ks i = true := by
  unfold hasK at *
  simp only [Bool.and_eq_true, decide_eq_true_eq] at *
  obtain ⟨h1, h2, h3⟩ := h
  refine ⟨h1, by rw [List.length_append]; omega, ?_⟩
  rw [List.getD_eq_getElem?_getD, List.getElem?_append_left (by omega), ← List.getD_eq_getElem?_getD]
  exact h3
theorem hasK_lt {cs : List Ct} {ks : List Str} {i : Int} (h : hasK cs ks i = true) : 0 ≤ i ∧ i.toNat < cs.length := by
  unfold hasK at h
  simp only [Bool.and_eq_true, decide_eq_true_eq] at h
  omega
theorem deps_pre : ∀ {more cs : List Ct}, ∃ r, deps (cs ++ more) = deps cs ++ r
  | [], cs => ⟨[], by simp⟩
  | c :: more, cs => by
    obtain ⟨r, hr⟩ := deps_pre (more := more) (cs := cs ++ [c])
    rw [List.append_assoc] at hr
    exact ⟨depOf (deps cs) c :: r, by rw [show cs ++ c :: more = cs ++ ([c] ++ more) from rfl, hr, deps_snoc]; simp⟩
theorem depOf_mono {cs more : List Ct} {es : List (Str × Int)} (h : es.all (fun e => hasK cs ["leaf", "tree"] e.2) = true) : depOf (deps (cs ++ more)) (.tree es) = depOf (deps cs) (.tree es) := by
  obtain ⟨r, hr⟩ := deps_pre (cs := cs) (more := more)
  show 1 + dmax (es.map fun e => (deps (cs ++ more)).getD e.2.toNat 0) = 1 + dmax (es.map fun e => (deps cs).getD e.2.toNat 0)
  rw [hr]
  congr 2
  refine List.map_congr_left fun e he => ?_
  have hl := hasK_lt (List.all_eq_true.mp h e he)
  rw [List.getD_eq_getElem?_getD, List.getD_eq_getElem?_getD, List.getElem?_append_left (by rw [deps_len]; omega)]
theorem Ct.inB_mono {cs more : List Ct} {c : Ct} (h : c.inB cs = true) : c.inB (cs ++ more) = true := by
  cases c with
  | leaf rows => rfl
  | tree es =>
    unfold Ct.inB at *
    rw [Bool.and_eq_true] at *
    refine ⟨List.all_eq_true.mpr fun e he => hasK_mono (List.all_eq_true.mp h.1 e he), ?_⟩
    rw [depOf_mono h.1]
    exact h.2
  | ver ps r s =>
    unfold Ct.inB at *
    rw [Bool.and_eq_true] at *
    exact ⟨List.all_eq_true.mpr fun e he => hasK_mono (List.all_eq_true.mp h.1 e he), hasK_mono h.2⟩
/-! ### as they stand in the heap -/
def CtAt (H : Hp) (a : Addr) : Ct → Prop
  | .leaf rows => ∃ r, H a = some (.tup [.str "leaf", .ref r]) ∧ H r = some (.tup (rows.map V.str))
  | .tree es => ∃ (r : Addr) (as : List Addr), H a = some (.tup [.str "tree", .ref r]) ∧ H r = some (.tup (as.map V.ref)) ∧ as.length = es.length ∧ ∀ (i : Nat) (b : Addr) (e : Str × Int), as[i]? = some b → es[i]? = some e → H b = some (.tup [.str e.1, .int e.2])
  | .ver ps root stamp => ∃ r, H a = some (.tup [.str "version", .ref r, .int root, .int stamp]) ∧ H r = some (.tup (ps.map V.int))
theorem CtAt.mono {H H' : Hp} {a : Addr} {c : Ct} (h : CtAt H a c) (m : TM H H') : CtAt H' a c := by
  cases c with
  | leaf rows =>
    obtain ⟨r, h1, h2⟩ := h
    exact ⟨r, m _ _ h1, m _ _ h2⟩
  | tree es =>
    obtain ⟨r, as, h1, h2, h3, h4⟩ := h
    exact ⟨r, as, m _ _ h1, m _ _ h2, h3, fun i b e x y => m _ _ (h4 i b e x y)⟩
  | ver ps r s =>
    obtain ⟨r, h1, h2⟩ := h
    exact ⟨r, m _ _ h1, m _ _ h2⟩
theorem nkeys_strs {H : Hp} : ∀ rows : List Str, NKeys H (rows.map NestedKey.text) (rows.map V.str)
  | [] => .nil
  | z :: rows => .cons (.str z) (nkeys_strs rows)
theorem nkeys_ints {H : Hp} : ∀ ns : List Int, NKeys H (ns.map NestedKey.num) (ns.map V.int)
  | [] => .nil
  | z :: ns => .cons (.int z) (nkeys_ints ns)
theorem nkeys_ents {H : Hp} : ∀ (as : List Addr) (es : List (Str × Int)), as.length = es.length → (∀ (i : Nat) (b : Addr) (e : Str × Int), as[i]? = some b → es[i]? = some e → H b = some (.tup [.str e.1, .int e.2])) →
    NKeys H (es.map fun e => NestedKey.tup [.text e.1, .num e.2]) (as.map V.ref)
  | [], [], _, _ => .nil
  | [], _ :: _, h, _ => by simp at h
  | _ :: _, [], h, _ => by simp at h
  | a :: as, e :: es, h, f => .cons (.tup (f 0 a e rfl rfl) (.cons (.str _) (.cons (.int _) .nil))) (nkeys_ents as es (by simpa using h) fun i b e' h1 h2 => f (i + 1) b e' (by simpa using h1) (by simpa using h2))
theorem CtAt.nkey {H : Hp} {a : Addr} {c : Ct} (h : CtAt H a c) : NKey H c.key (.ref a) := by
  cases c with
  | leaf rows =>
    obtain ⟨r, h1, h2⟩ := h
    exact .tup h1 (.cons (.str _) (.cons (.tup h2 (nkeys_strs rows)) .nil))
  | tree es =>
    obtain ⟨r, as, h1, h2, h3, h4⟩ := h
    exact .tup h1 (.cons (.str _) (.cons (.tup h2 (nkeys_ents as es h3 h4)) .nil))
  | ver ps r s =>
    obtain ⟨r, h1, h2⟩ := h
    exact .tup h1 (.cons (.str _) (.cons (.tup h2 (nkeys_ints ps)) (.cons (.int _) (.cons (.int _) .nil))))
theorem depthAll_flat {f : α → NestedKey} (h : ∀ a, (f a).depth ≤ 1) : ∀ l : List α, NestedKey.depthAll (l.map f) ≤ 1
  | [] => Nat.zero_le _
  | a :: l => by
    have h1 := h a
    have h2 := depthAll_flat h l
    rw [List.map_cons, NestedKey.depthAll]
    omega
theorem Ct.depth (c : Ct) : c.key.depth ≤ 8 := by
  have t : ∀ z : Str, (NestedKey.text z).depth ≤ 1 := fun z => by simp [NestedKey.depth]
  have n : ∀ z : Int, (NestedKey.num z).depth ≤ 1 := fun z => by simp [NestedKey.depth]
  cases c with
  | leaf rows =>
    have := depthAll_flat t rows
    simp only [Ct.key, NestedKey.depth, NestedKey.depthAll]
    omega
  | tree es =>
    have := depthAll_flat (f := fun e : Str × Int => NestedKey.tup [.text e.1, .num e.2]) (fun e => by simp [NestedKey.depth, NestedKey.depthAll]) es
    simp only [Ct.key, NestedKey.depth, NestedKey.depthAll]
    omega
  | ver ps r s =>
    have := depthAll_flat n ps
    simp only [Ct.key, NestedKey.depth, NestedKey.depthAll]
    omega
/-- the contents at these addresses -/
def CsAt (H : Hp) (as : List Addr) (cs : List Ct) : Prop := as.length = cs.length ∧ ∀ (i : Nat) (a : Addr) (c : Ct), as[i]? = some a → cs[i]? = some c → CtAt H a c
theorem CsAt.mono {H H' : Hp} {as : List Addr} {cs : List Ct} (h : CsAt H as cs) (m : TM H H') : CsAt H' as cs := ⟨h.1, fun i a c h1 h2 => (h.2 i a c h1 h2).mono m⟩
theorem CsAt.nil {H : Hp} : CsAt H [] [] := ⟨rfl, fun i a p h => by cases h⟩
theorem CsAt.snoc {H : Hp} {as : List Addr} {cs : List Ct} {T : Addr} {c : Ct} (h : CsAt H as cs) (hT : CtAt H T c) : CsAt H (as ++ [T]) (cs ++ [c]) := by
  refine ⟨by rw [List.length_append, List.length_append, h.1]; rfl, fun i a m h1 h2 => ?_⟩
  by_cases hi : i < as.length
  · rw [List.getElem?_append_left hi] at h1
    rw [List.getElem?_append_left (by rw [← h.1]; exact hi)] at h2
    exact h.2 i a m h1 h2
  · have hi2 : i < (as ++ [T]).length := (List.getElem?_eq_some_iff.mp h1).1
    rw [List.length_append, List.length_singleton] at hi2
    have e : i = as.length := by omega
    rw [List.getElem?_append_right (by omega), e, Nat.sub_self] at h1
    rw [List.getElem?_append_right (by rw [← h.1]; omega), e, h.1, Nat.sub_self] at h2
    cases Option.some.inj h1
    cases Option.some.inj h2
    exact hT
theorem CsAt.get {H : Hp} {as : List Addr} {cs : List Ct} (h : CsAt H as cs) {i : Nat} {c : Ct} (hc : cs[i]? = some c) : ∃ a, as[i]? = some a ∧ CtAt H a c := by
  have hi := (List.getElem?_eq_some_iff.mp hc).1
  have : i < as.length := by rw [h.1]; exact hi
  exact ⟨as[i], List.getElem?_eq_getElem this, h.2 i _ _ (List.getElem?_eq_getElem this) hc⟩
/-- a book's entries -/
def ents : Nat → List Ct → List Addr → List NEnt
  | n, c :: cs, a :: as => (c.key, a, .int (n : Int)) :: ents (n + 1) cs as
  | _, _, _ => []
theorem ents_snoc : ∀ (n : Nat) (cs : List Ct) (as : List Addr) (c : Ct) (a : Addr), as.length = cs.length → ents n (cs ++ [c]) (as ++ [a]) = ents n cs as ++ [(c.key, a, .int ((n + cs.length : Nat) : Int))]
  | n, [], [], c, a, _ => rfl
  | n, [], _ :: _, _, _, h => by simp at h
  | n, _ :: _, [], _, _, h => by simp at h
  | n, d :: cs, b :: as, c, a, h => by
    have := ents_snoc (n + 1) cs as c a (by simpa using h)
    rw [List.cons_append, List.cons_append, ents, this, ents, List.cons_append, List.length_cons]
    rw [show n + 1 + cs.length = n + (cs.length + 1) from by omega]
theorem ents_len : ∀ (n : Nat) (cs : List Ct) (as : List Addr), (ents n cs as).length ≤ cs.length
  | _, [], _ => Nat.zero_le _
  | _, _ :: _, [] => Nat.zero_le _
  | n, _ :: cs, _ :: as => by
    have := ents_len (n + 1) cs as
    rw [ents, List.length_cons, List.length_cons]
    omega
theorem nAt_pos {p : NEnt} {r : List NEnt} {k : NestedKey} (e : p.1 = k) : nAt (p :: r) k = some p.2.2 := by simp [nAt, List.find?_cons, e]
theorem nAt_neg {p : NEnt} {r : List NEnt} {k : NestedKey} (e : ¬ p.1 = k) : nAt (p :: r) k = nAt r k := by simp [nAt, List.find?_cons, e]
theorem ents_none : ∀ (n : Nat) (cs : List Ct) (as : List Addr) {c : Ct}, c ∉ cs → nAt (ents n cs as) c.key = none
  | _, [], _, _, _ => rfl
  | _, _ :: _, [], _, _ => rfl
  | n, d :: cs, a :: as, c, h => by
    rw [ents, nAt_neg fun e => h (by rw [Ct.key_inj e]; exact List.mem_cons_self ..)]
    exact ents_none (n + 1) cs as fun z => h (List.mem_cons_of_mem _ z)
theorem ents_some : ∀ (n : Nat) (cs : List Ct) (as : List Addr) {i : Nat} {c : Ct}, as.length = cs.length → cs.Nodup → cs[i]? = some c → nAt (ents n cs as) c.key = some (.int ((n + i : Nat) : Int))
  | _, [], _, _, _, _, _, h => by simp at h
  | _, _ :: _, [], _, _, h, _, _ => by simp at h
  | n, d :: cs, a :: as, i, c, hl, nd, h => by
    rw [List.nodup_cons] at nd
    cases i with
    | zero =>
      simp at h
      subst h
      rw [ents, nAt_pos rfl]
      rfl
    | succ i =>
      simp at h
      rw [ents, nAt_neg fun e => nd.1 (by rw [Ct.key_inj e]; exact List.mem_of_getElem? h), ents_some (n + 1) cs as (by simpa using hl) nd.2 h, show n + 1 + i = n + (i + 1) from by omega]
theorem ents_keys {H : Hp} : ∀ (n : Nat) (cs : List Ct) (as : List Addr), CsAt H as cs → NKs H (ents n cs as)
  | _, [], _, _ => fun x hx => nomatch hx
  | _, _ :: _, [], _ => fun x hx => nomatch hx
  | n, c :: cs, a :: as, h => fun x hx => by
    rw [ents] at hx
    rcases List.mem_cons.mp hx with rfl | hx
    · exact ⟨(h.2 0 a c rfl rfl).nkey, c.depth⟩
    · exact ents_keys (n + 1) cs as ⟨by simpa using h.1, fun i b d h1 h2 => h.2 (i + 1) b d (by simpa using h1) (by simpa using h2)⟩ x hx
/-! ### the book -/
/-- what the class Book must have -/
structure BkC (K : PySem.W.Frag) : Prop where
  cl : Cls K (He.ga K "Book")
  n1 : NoAttr K (He.ga K "Book") "contents"
  n2 : NoAttr K (He.ga K "Book") "depths"
  n3 : NoAttr K (He.ga K "Book") "given"
structure BkA where
  B : Addr
  L : Addr
  E : Addr
  G : Addr
/-- the book's object -/
def BO (K : PySem.W.Frag) (H : Hp) (b : BkA) : Prop := ∃ (dx : Addr) (fs : List (Str × V)), H b.B = some (.ins (He.ga K "Book") dx fs) ∧ fs.lookup ("contents" : Str) = some (.ref b.L) ∧ fs.lookup ("depths" : Str) = some (.ref b.E) ∧ fs.lookup ("given" : Str) = some (.ref b.G) ∧
  ∀ m ∈ (["named", "name_of", "thing", "kind", "parts", "parents", "root", "stamp", "entries", "leaf_rows", "is_name", "is_version", "is_content", "has_kinds", "depth", "give_next"] : List Str), fs.lookup m = none
structure BkAt [HasW] (K : PySem.W.Frag) (H : Hp) (b : BkA) (cs : List Ct) (as : List Addr) : Prop where
  bc : BkC K
  bo : BO K H b
  hL : H b.L = some (.lst (as.map V.ref))
  hE : H b.E = some (.lst ((deps cs).map V.int))
  hG : H b.G = some (ND b.G (ents 0 cs as))
  at_ : CsAt H as cs
  nd : cs.Nodup
  few : cs.length ≤ 400
  ok : ∀ c ∈ cs, c.form ∧ c.inB cs = true
  ne : b.L ≠ b.E
/-- all but the book's three stands -/
def Kb (b : BkA) (H H' : Hp) : Prop := ∀ a o, H a = some o → a ≠ b.L → a ≠ b.E → a ≠ b.G → H' a = some o
theorem Kb.refl {b : BkA} {H : Hp} : Kb b H H := fun _ _ h _ _ _ => h
theorem Kb.trans {b : BkA} {H H1 H2 : Hp} (x : Kb b H H1) (y : Kb b H1 H2) : Kb b H H2 := fun a o h h1 h2 h3 => y a o (x a o h h1 h2 h3) h1 h2 h3
theorem Kb.same {b : BkA} {H H' : Hp} (s : Same H H') : Kb b H H' := fun a o h _ _ _ => s a o h
theorem Kb.up {b : BkA} {H H' : Hp} {q : Addr} {o : HO} (k : Kb b H H') (h : q = b.L ∨ q = b.E ∨ q = b.G) : Kb b H (upd H' q o) := fun a u e h1 h2 h3 => updN (by rcases h with rfl | rfl | rfl; exact h1; exact h2; exact h3) (k a u e h1 h2 h3)
section
variable [HasW] {K : PySem.W.Frag} {H H' : Hp} {b : BkA} {cs : List Ct} {as : List Addr}
theorem nd_ne_lst {a : Addr} {xs : List NEnt} {ys : List V} : ND a xs ≠ .lst ys := fun h => by unfold ND at h; cases h
theorem nd_ne_tup {a : Addr} {xs : List NEnt} {ys : List V} : ND a xs ≠ .tup ys := fun h => by unfold ND at h; cases h
theorem nd_ne_ins {a : Addr} {xs : List NEnt} {C d : Addr} {fs : List (Str × V)} : ND a xs ≠ .ins C d fs := fun h => by unfold ND at h; cases h
theorem BkAt.neG (k : BkAt K H b cs as) : b.L ≠ b.G ∧ b.E ≠ b.G := ⟨ne_of k.hL k.hG fun h => nd_ne_lst h.symm, ne_of k.hE k.hG fun h => nd_ne_lst h.symm⟩
theorem BkAt.tup (k : BkAt K H b cs as) (x : Kb b H H') : TM H H' := fun a xs h => x a _ h (ne_of h k.hL fun z => by cases z) (ne_of h k.hE fun z => by cases z) (ne_of h k.hG fun z => nd_ne_tup z.symm)
theorem BkAt.boK (k : BkAt K H b cs as) (x : Kb b H H') : BO K H' b := by
  obtain ⟨dx, fs, h, r⟩ := k.bo
  exact ⟨dx, fs, x _ _ h (ne_of h k.hL fun z => by cases z) (ne_of h k.hE fun z => by cases z) (ne_of h k.hG fun z => nd_ne_ins z.symm), r⟩
theorem BkAt.keep (k : BkAt K H b cs as) (x : Kb b H H') (eL : H' b.L = H b.L) (eE : H' b.E = H b.E) (eG : H' b.G = H b.G) : BkAt K H' b cs as :=
  ⟨k.bc, k.boK x, by rw [eL]; exact k.hL, by rw [eE]; exact k.hE, by rw [eG]; exact k.hG, k.at_.mono (k.tup x), k.nd, k.few, k.ok, k.ne⟩
theorem BkAt.same (k : BkAt K H b cs as) (s : Same H H') : BkAt K H' b cs as := k.keep (.same s) (by rw [k.hL, s _ _ k.hL]) (by rw [k.hE, s _ _ k.hE]) (by rw [k.hG, s _ _ k.hG])
/-- what changes elsewhere -/
theorem BkAt.kp {D : Addr} (k : BkAt K H b cs as) (x : Kp D H H') (h1 : D ≠ b.B) (h2 : D ≠ b.L) (h3 : D ≠ b.E) (h4 : D ≠ b.G) (ht : TM H H') : BkAt K H' b cs as := by
  obtain ⟨dx, fs, hB, r⟩ := k.bo
  exact ⟨k.bc, ⟨dx, fs, x _ _ hB h1.symm, r⟩, x _ _ k.hL h2.symm, x _ _ k.hE h3.symm, x _ _ k.hG h4.symm, k.at_.mono ht, k.nd, k.few, k.ok, k.ne⟩
variable {Q : VK} {σ : L2.St} {i : Nat}
theorem BkAt.fL (k : BkAt K H b cs as) (e : σ[i]? = some (some (.ref b.B))) (q : Q (.ref b.L) H) : tFld K (tVar i) "contents" σ H Q := by
  obtain ⟨dx, fs, hx, h1, h2, h3, h4⟩ := k.bo
  exact ⟨_, e, b.B, _, dx, fs, _, rfl, hx, k.bc.cl, k.bc.n1, h1, q⟩
theorem BkAt.fE (k : BkAt K H b cs as) (e : σ[i]? = some (some (.ref b.B))) (q : Q (.ref b.E) H) : tFld K (tVar i) "depths" σ H Q := by
  obtain ⟨dx, fs, hx, h1, h2, h3, h4⟩ := k.bo
  exact ⟨_, e, b.B, _, dx, fs, _, rfl, hx, k.bc.cl, k.bc.n2, h2, q⟩
theorem BkAt.fG (k : BkAt K H b cs as) (e : σ[i]? = some (some (.ref b.B))) (q : Q (.ref b.G) H) : tFld K (tVar i) "given" σ H Q := by
  obtain ⟨dx, fs, hx, h1, h2, h3, h4⟩ := k.bo
  exact ⟨_, e, b.B, _, dx, fs, _, rfl, hx, k.bc.cl, k.bc.n3, h3, q⟩
/-- a method called on the book -/
theorem BkAt.me {m : Str} {sp : Sp} {E : XK} {ta : TA} (k : BkAt K H b cs as) (hm : m ∈ (["named", "name_of", "thing", "kind", "parts", "parents", "root", "stamp", "entries", "leaf_rows", "is_name", "is_version", "is_content", "has_kinds", "depth", "give_next"] : List Str)) (e : σ[i]? = some (some (.ref b.B))) (q : ta σ H fun vs H2 => sp (.ref b.B :: (vs ++ [])) H2 Q E) : tMeth (He.ga K "Book") m sp [] E (tVar i) ta σ H Q := by
  obtain ⟨dx, fs, hx, h1, h2, h3, h4⟩ := k.bo
  exact ⟨_, e, b.B, dx, fs, rfl, hx, h4 m hm, q⟩
end
end Fw

set_option Elab.async false
set_option linter.all false
set_option maxRecDepth 100000
set_option maxHeartbeats 4000000
namespace Fw
open PySem PySem.Spec PyProof.Rows L2 PySem.W.Datum PySem.W
/-- a walk over a list or a tuple -/
def iOr (w1 w2 : TI) : TI := fun σ H R => w1 σ H R ∨ w2 σ H R
theorem pi_or {X : Cx} {tg e : Expr} {w1 w2 : TI} (h1 : PI X tg e w1) (h2 : PI X tg e w2) : PI X tg e (iOr w1 w2) := ⟨fun pins s σ H R I h => h.elim (h1.run pins s σ H R I) (h2.run pins s σ H R I)⟩
/-- str(i) -/
def rStrI : List V → Hp → VK → Prop := fun xs H Q => ∃ i, xs = [.int i] ∧ i.natAbs.log2 < 1920 ∧ Q (.str (toString i)) H
/-- max(l, default=d) of ints -/
def maxD (d : Int) : List Int → Int
  | [] => d
  | x :: xs => xs.foldl max x
def rMaxD0 (K : PySem.W.Frag) : List V → List V → Hp → VK → Prop := fun vs zs H Q => ∃ (a : Addr) (ns : List Int) (d : Int), vs = [.ref a] ∧ zs = [.int d] ∧ SqL K H a (ns.map V.int) ∧ Q (.int (maxD d ns)) H
theorem maxOf_fold : ∀ (xs : List Int) (x : Int), maxOf x xs = xs.foldl max x
  | [], x => rfl
  | z :: xs, x => by
    have e : maxOf x (z :: xs) = maxOf (if DatumOrd.lt x z = true then z else x) xs := rfl
    rw [e, List.foldl_cons]
    by_cases h : x < z
    · rw [if_pos (show DatumOrd.lt x z = true from decide_eq_true h), maxOf_fold xs z, show max x z = z from Int.max_eq_right (Int.le_of_lt h)]
    · rw [if_neg (show ¬ DatumOrd.lt x z = true from fun q => h (of_decide_eq_true q)), maxOf_fold xs x, show max x z = x from Int.max_eq_left (Int.not_lt.mp h)]
theorem dp_intsD {K : PySem.W.Frag} {H : Hp} : ∀ ns : List Int, DpAll K H (ns.map V.int) (ns.map PyData.int)
  | [] => .nil
  | n :: ns => .cons (.int n) (dp_intsD ns)
theorem cr_maxD0 {X : Cx} (hc : X.calm = true) (hu : X.A.units + 64 < cLine) : CallRK X (.builtin "max") [Str.ofString "default"] (rMaxD0 X.K) := by
  intro pins s σ H xs zs us ws Q I r rz q
  obtain ⟨a, ns, d, rfl, rfl, hs, q⟩ := q
  obtain ⟨its, rv, hl, hz⟩ := I.list hs
  rw [Vals.ref1 r]
  obtain ⟨w1, rfl, e1⟩ := Vals.one rz
  obtain ⟨t1, rfl⟩ : ∃ t, w1 = Value.int d t := e1
  obtain ⟨as, rd⟩ := Dp.readsAll I _ _ its (dp_intsD ns) rv
  refine max_list_datum_default (α := Int) (xs := ns) (I.ok.hd hc) hl.isList ⟨as, rd⟩ (by show X.A.units + 1 + 0 < cLine; omega) (fun e h' tk hk => ?_) fun y ys i v h' tk e hi hold hk => ?_
  · subst e
    exact ⟨.int d, H, I.kept hk, ⟨_, rfl⟩, q⟩
  · subst e
    obtain ⟨bs, rd2⟩ := hold
    have rd2 : Reads h' v (.int (maxOf y ys)) bs := rd2
    rw [maxOf_fold] at rd2
    cases rd2 with
    | int _ t => exact ⟨.int _, H, I.kept hk, ⟨_, rfl⟩, q⟩
end Fw

set_option Elab.async false
set_option linter.all false
set_option maxRecDepth 100000
set_option maxHeartbeats 4000000
/-! set(l) of a list of ints, some of them perhaps twice, and sorted(set(l)). -/
namespace Fw
open PySem PySem.Spec PyProof.Rows L2
/-- the members of the first i -/
def MemI (ks : List Int) (i : Nat) (S : Int → Bool) (n : Nat) : Prop := (∀ k, S k = true ↔ k ∈ ks.take i) ∧ n ≤ i
theorem MemI.zero (ks : List Int) : MemI ks 0 (fun _ => false) 0 := ⟨fun k => by simp, Nat.le_refl _⟩
theorem MemI.more {ks : List Int} {i n : Nat} {S : Int → Bool} {k : Int} (m : MemI ks i S n) (h : ks[i]? = some k) : MemI ks (i + 1) (fun j => S j || decide (j = k)) (if S k = true then n else n + 1) := by
  refine ⟨fun j => ?_, ?_⟩
  · rw [Bool.or_eq_true, m.1 j, decide_eq_true_eq, List.take_add_one, h, List.mem_append]
    simp
  · have := m.2
    split <;> omega
section
variable {P : Program} {w : World} {A : Around} {E : Value → Shared → Prop} {s : Shared}
theorem set_update_ints {I : Addr} {fp wr : List Addr} {G : Array GenState → Array GenState → Prop} {n : Nat} {Pv : Nat → Value → Prop} {St : Nat → Shared → Prop} {R : Result → Shared → Prop}
    (W : WalksS P w A.in1 I fp wr G n Pv St) (S : Addr) (hSf : S ∉ fp) (ks : List Int) (hn : n = ks.length) (hfew : ks.length < 64) (hval : ∀ i v, Pv i v → ∃ k t, ks[i]? = some k ∧ v = .int k t)
    (h0 : Heap) (hS0 : h0.get? S = none) (hw0 : ∀ b ∈ wr, h0.get? b = none) :
    ∀ (k i : Nat) (s : Shared), n - i = k → i ≤ n → St i s → (∀ b o, h0.get? b = some o → s.heap.get? b = some o) → (∃ T m, SetR w s.heap S T m ∧ MemI ks i T m) →
      (∀ s' T m, Moved (S :: wr) G s s' → SetR w s'.heap S T m → MemI ks n T m → (∀ b o, h0.get? b = some o → s'.heap.get? b = some o) → R (.ok (.ret .none)) s') →
      codeAny (model P w) A (.builtin "set.update.loop" ⟨[.ref S, .ref I], []⟩) R s := by
  have hSw : S ∉ wr := fun h => hSf (W.sub _ h)
  have hsub : ∀ b ∈ wr, b ∈ S :: wr := fun b hb => List.mem_cons_of_mem _ hb
  have keepM : ∀ {s s' : Shared}, Moved wr G s s' → (∀ b o, h0.get? b = some o → s.heap.get? b = some o) → ∀ b o, h0.get? b = some o → s'.heap.get? b = some o := fun hm hkp b o e =>
    hm.heap b o (fun hb => by rw [hw0 b hb] at e; cases e) (hkp b o e)
  intro k
  induction k with
  | zero =>
    intro i s hk' hi hst hkp ⟨T, m, hS, g⟩ hR
    have hin : i = n := by omega
    subst hin
    refine codeAny_builtin F.entry_set_update_loop ?_
    rw [Around.under_plainId F.plain_set_update_loop _]
    show wpAny _ A.in1 (pyNext (.ref I) >>= _) _ _ s
    refine wpAny_bind (W.done s _ _ hst fun s' hm => ?_)
    show wpAny _ A.in1 (ret Value.none) _ _ s'
    exact wpAny_pure (hR s' T m (hm.mono hsub) (hS.at fun o e => hm.heap S o hSw e) g (keepM hm hkp))
  | succ k ih =>
    intro i s hk' hi hst hkp ⟨T, m, hS, g⟩ hR
    have hlt : i < n := by omega
    refine codeAny_builtin F.entry_set_update_loop ?_
    rw [Around.under_plainId F.plain_set_update_loop _]
    show wpAny _ A.in1 (pyNext (.ref I) >>= _) _ _ s
    refine wpAny_bind (W.item i s _ _ hlt hst fun v s' hP hst' hm => ?_)
    obtain ⟨c, t, hp, rfl⟩ := hval i v hP
    have hkp' := keepM hm hkp
    have hS' : SetR w s'.heap S T m := hS.at fun o e => hm.heap S o hSw e
    show wpAny _ A.in1 (holding [Value.int c t] (setAdd S (.int c t)) >>= _) _ _ s'
    refine wpAny_bind (wpAny_holding ?_)
    unfold setAdd
    refine wpAny_holding ?_
    refine wpAny_bind ((intKind P w).pyHash (intKind_is P w c t) ?_)
    refine setR_add_hashed (s := { s' with toks := s'.toks + 1 }) hS' (by have := g.2; unfold scanBound; omega) fun h' hsb hS2 => ?_
    have g' := g.more hp
    have hkp2 : ∀ b o, h0.get? b = some o → h'.get? b = some o := fun b o e => (hsb.2 b (fun z => by rw [z, hS0] at e; cases e)).trans (hkp' b o e)
    refine wpAny_pure ⟨plainId_quiet F.plain_set_update_loop _, ih (i + 1) _ (by omega) hlt (W.frame _ s' _ _ hst' (Nat.le_add_right _ _) fun b hb o e => ?_) hkp2 ⟨_, _, hS2, g'⟩ fun s'' T2 m2 hm'' hS'' g'' hkp'' => ?_⟩
    · rw [hsb.2 b (fun h : b = S => hSf (by rw [← h]; exact hb))]; exact e
    · refine hR s'' T2 m2 (Moved.trans W.gtrans ((hm.mono hsub).then_heap (Nat.le_add_right _ _) fun b o hb e => ?_) hm'') hS'' g'' hkp''
      rw [hsb.2 b (fun h : b = S => hb (by rw [h]; exact List.mem_cons_self))]; exact e
set_option maxRecDepth 100000 in
set_option maxHeartbeats 3200000 in
theorem call_set_ints {l : Addr} {items : Array Value} (ks : List Int) {Q : Value → Shared → Prop} (hh : A.handled = none) (hl : s.heap.IsList l items) (hit : IntsAre items.toList ks) (hfew : ks.length < 64)
    (h : ∀ (h' : Heap) (tk : Nat) T m, SetR w h' s.heap.objs.size T m → MemI ks ks.length T m → (∀ b o, s.heap.get? b = some o → h'.get? b = some o) → Q (.ref s.heap.objs.size) { s with heap := h', toks := tk }) :
    wpAny (model P w) A (call (.type "set") [.ref l]) Q E s := by
  have hval0 : ∀ {vs : List Value} {ks : List Int}, IntsAre vs ks → vs.length = ks.length ∧ ∀ (i : Nat) (v : Value), vs[i]? = some v → ∃ k t, ks[i]? = some k ∧ v = Value.int k t := by
    intro vs ks q
    induction q with
    | nil => exact ⟨rfl, fun i v e => by simp at e⟩
    | @cons k t vs ks q ih =>
      refine ⟨by rw [List.length_cons, List.length_cons, ih.1], fun i v e => ?_⟩
      cases i with
      | zero =>
        simp at e
        exact ⟨k, t, by simp, e.symm⟩
      | succ i =>
        simp at e
        obtain ⟨a, b, c, d⟩ := ih.2 i v e
        exact ⟨a, b, by simpa using c, d⟩
  have hisz : items.size = ks.length := by
    have q := (hval0 hit).1
    rw [Array.length_toList] at q
    exact q
  obtain ⟨c, tl, hmro⟩ := F.called_set.mro
  have hmade := F.called_set.made
  have hsub := F.called_set.sub
  refine wpAny_call (codeAny_of_tree ?_)
  show wpAny _ _ (callAny (.type "set") _) _ _ _
  refine wpAny_pure ⟨Code.quiet_builtin _ (by decide +kernel), codeAny_builtin F.entry_type_call ?_⟩
  rw [Around.under_plain (weight_type_call_type "set" [.ref l] []) rfl]
  have h1 := F.called_set.notType
  have h2 := F.called_set.canCreate
  have hct := F.typeCall_set_1 (.ref l)
  repeat (any_goals (first | assumption | wp_step))
  refine codeAny_mono (code_set_led1 (.ref l) (E := E) (Q₁ := fun obj s₁ => obj = .ref s.heap.objs.size ∧ s₁ = { s with heap := s.heap.push { cls := .type "set", dict := none, data := .set #[] 0 (.fresh 0 0 (!w.params.followText "set-order")) } }) ⟨rfl, rfl⟩) fun r s₁ hr => ?_
  cases r with
  | error e => exact hr
  | ok fl =>
    cases fl with
    | ret obj =>
      obtain ⟨rfl, rfl⟩ := hr
      have hS : (s.heap.push { cls := .type "set", dict := none, data := .set #[] 0 (.fresh 0 0 (!w.params.followText "set-order")) }).get? s.heap.objs.size = some { cls := .type "set", dict := none, data := .set #[] 0 (.fresh 0 0 (!w.params.followText "set-order")) } := Heap.get?_push_size _ rfl
      have hT : Shared.TypeIs { s with heap := s.heap.push { cls := .type "set", dict := none, data := .set #[] 0 (.fresh 0 0 (!w.params.followText "set-order")) } } (.ref s.heap.objs.size) "set" := ⟨_, hS, rfl⟩
      have hli := F.called_set.init.lookup
      have hbi := F.called_set.init.bind (.ref s.heap.objs.size)
      repeat (any_goals (first | assumption | wp_step))
      refine codeAny_mono (codeAny_call_builtin (R := wants (fun r s₂ => r = .none ∧ ∃ h' tk T m, s₂ = { s with heap := h', toks := tk } ∧ SetR w h' s.heap.objs.size T m ∧ MemI ks ks.length T m ∧
          (∀ b o, s.heap.get? b = some o → h'.get? b = some o)) E) F.called_set.init.plain F.entry_set_init (check_set_init_1 hT ?_)) fun r₂ s₂ hr₂ => ?_
      · obtain ⟨ol, hol, hcl, nl, hdl⟩ := hl
        obtain ⟨ocls, odict, odata, oslots⟩ := ol
        simp only at hcl hdl
        subst hcl; subst hdl
        have hol' : (s.heap.push { cls := .type "set", dict := none, data := .set #[] 0 (.fresh 0 0 (!w.params.followText "set-order")) }).get? l = some { cls := .type "list", dict := odict, data := .seq items nl, slots := oslots } := Heap.get?_push_of_some _ hol
        have hsls := F.sub_list_set
        have hslf := F.sub_list_frozenset
        have hne : (Value.type "list" == Value.type "dict") = false := by decide
        have hl1 : (s.heap.push { cls := .type "set", dict := none, data := .set #[] 0 (.fresh 0 0 (!w.params.followText "set-order")) }).IsList l items := ⟨_, hol', rfl, nl, rfl⟩
        unfold Builtin.«set.__init__» noKeywords Builtin.Frozenset.updateFrom
        generalize hPI : pyIter = PI
        wp_walk
        subst hPI
        refine wpAny_pyIter_list hl1 ?_
        refine wpAny_bind (wpAny_runValue ?_)
        have hlS : l < s.heap.objs.size := Heap.lt_size hol
        have hh3 : A.in1.in1.in1.handled = none := by simp [hh]
        have hneI : l ≠ (s.heap.push { cls := .type "set", dict := none, data := .set #[] 0 (.fresh 0 0 (!w.params.followText "set-order")) }).objs.size := by
          rw [Heap.size_push]; exact Nat.ne_of_lt (Nat.lt_succ_of_lt hlS)
        have hSf : s.heap.objs.size ∉ [(s.heap.push { cls := .type "set", dict := none, data := .set #[] 0 (.fresh 0 0 (!w.params.followText "set-order")) }).objs.size, l] := by
          rw [Heap.size_push]; simp only [List.mem_cons, List.mem_singleton, List.not_mem_nil, or_false, not_or]
          exact ⟨Nat.ne_of_lt (Nat.lt_succ_self _), Nat.ne_of_gt hlS⟩
        have hval : ∀ (i : Nat) (v : Value), items[i]? = some v → ∃ k t, ks[i]? = some k ∧ v = .int k t := fun i v hv => (hval0 hit).2 i v (by rw [Array.getElem?_toList]; exact hv)
        have none_of : ∀ b, s.heap.objs.size ≤ b → s.heap.get? b = none := fun b hb => by
          cases q : s.heap.get? b with
          | none => rfl
          | some o => exact absurd (Nat.lt_of_lt_of_le (Heap.lt_size q) hb) (Nat.lt_irrefl _)
        refine set_update_ints ((Walks.list hh3 _ l hneI items).toS) s.heap.objs.size
          hSf ks hisz hfew hval s.heap (none_of _ (Nat.le_refl _)) (fun b hb => none_of b (by
            rw [List.mem_singleton.mp hb, Heap.size_push]
            exact Nat.le_succ _)) (items.size - 0) 0 _ (by omega) (Nat.zero_le _)
          ⟨⟨_, Heap.get?_push_size _ rfl, rfl, rfl⟩, (hl1.push _)⟩ (fun b o e => Heap.get?_push_of_some _ (Heap.get?_push_of_some _ e)) ?hS0 ?hR
        case hS0 => exact ⟨_, _, (setR_fresh w).at fun o e => Heap.get?_push_of_some _ e, MemI.zero ks⟩
        case hR =>
          intro s' T m hm hS' g' hkp
          obtain ⟨h', g2, d', tk', os'⟩ := s'
          have eg : g2 = s.gens := hm.gens
          have ed : d' = s.drawn := hm.drawn
          have eo : os' = s.os := hm.os
          subst eg; subst ed; subst eo
          show wpAny _ _ _ _ _ _
          refine wpAny_pure ?_
          show wpAny _ _ (ret Value.none) _ _ _
          rw [hisz] at g'
          exact wpAny_pure ⟨rfl, h', tk', T, m, rfl, hS', g', hkp⟩
      · cases r₂ with
        | error e => exact hr₂
        | ok fl₂ =>
          cases fl₂ with
          | ret r =>
            obtain ⟨rfl, h', tk, T, m, rfl, hS', g', hk'⟩ := hr₂
            repeat (any_goals (first | assumption | wp_step))
            exact h _ _ _ _ hS' g' hk'
          | _ => exact hr₂.elim
    | _ => exact hr.elim
end
/-- set(l) of ints -/
def rSetI (K : PySem.W.Frag) (w : World) : List V → Hp → VK → Prop := fun vs H Q => ∃ (a : Addr) (ns : List Int), vs = [.ref a] ∧ SqL K H a (ns.map V.int) ∧ ns.length < 64 ∧ ∀ (p : Addr) (S : Int → Bool) (n : Nat), H p = none → (∀ k, S k = true ↔ k ∈ ns) → n ≤ ns.length → Q (.ref p) (upd H p (SetO w p S n))
theorem cr_setI {X : Cx} (hc : X.calm = true) : CallR X (.type "set") (rSetI X.K X.w) := by
  intro pins s σ H vs us Q I r h
  obtain ⟨a, ns, rfl, hs, few, q⟩ := h
  obtain ⟨its, rv, hl, hz⟩ := I.list hs
  rw [Vals.ref1 r]
  have hi := rv.ints
  refine call_set_ints ns (I.ok.hd hc) hl.isList (show PyProof.Rows.IntsAre its.toArray.toList ns from hi) few fun h' tk T m R g k => ?_
  refine ⟨.ref s.heap.objs.size, upd H s.heap.objs.size (SetO X.w s.heap.objs.size T m), I.laid (t' := tk) k (Nat.le_refl _) (setO_new R), rfl, q _ _ _ (I.hok.fresh (Nat.le_refl _)) (fun k => ?_) g.2⟩
  rw [g.1 k, List.take_length]
/-- what follows from a reading -/
def tClo (te : TE) : TE := fun σ H Q => ∃ N : V → Hp → Prop, te σ H N ∧ ∀ x H1, N x H1 → Q x H1
theorem pe_clo {X : Cx} {e : Expr} {te : TE} (he : PE X e te) : PE X e (tClo te) := ⟨fun pins s σ H Q I ⟨N, h, m⟩ => wpAny_mono (he.run pins s σ H N I h) (fun u s1 ⟨x, H1, I1, r1, q⟩ => ⟨x, H1, I1, r1, m x H1 q⟩) fun _ _ z => z⟩
/-- sorted(set(l)) -/
def tSortSet (K : PySem.W.Frag) (te : TE) : TE := fun σ H Q => te σ H fun x H1 => ∃ (a : Addr) (ns : List Int), x = .ref a ∧ SqL K H1 a (ns.map V.int) ∧ ns.length < 64 ∧
  ∀ (ys : List Int) (q p : Addr) (u : HO), H1 q = none → upd H1 q u p = none → ys.Pairwise (· < ·) → (∀ k, k ∈ ys ↔ k ∈ ns) → ys.length ≤ ns.length → Q (.ref p) (upd (upd H1 q u) p (.lst (ys.map V.int)))
theorem pe_sortSet {X : Cx} {e : Expr} {te : TE} {p pos p2 pos2 : Pos} (hc : X.calm = true) (hg : Gl X "sorted") (hm : X.mg "sorted" = none) (hg2 : Gl X "set") (hm2 : X.mg "set" = none) (he : PE X e te)
    (hs : starEach [.Call (.Name "set" p2) [e] [] pos2] X.env = (false, eval (.Call (.Name "set" p2) [e] [] pos2) X.env) :: starEach [] X.env := by rfl)
    (hs2 : starEach [e] X.env = (false, eval e X.env) :: starEach [] X.env := by rfl) : PE X (.Call (.Name "sorted" p) [.Call (.Name "set" p2) [e] [] pos2] [] pos) (tSortSet X.K te) := by
  have inner : PE X (.Call (.Name "set" p2) [e] [] pos2) (tCB (rSetI X.K X.w) (tCons (tClo te) tNil)) := pe_callTy (cr_setI hc) hg2 hm2 (by decide +kernel) (pa_cons (pe_clo he) pa_nil hs2) (he := hs2)
  have outer := pe_callB (p := p) (pos := pos) (cr_sortedSet hc) hg hm (by decide +kernel) (pa_cons inner pa_nil hs) (he := hs)
  refine ⟨fun pins s σ H Q I h => outer.run pins s σ H Q I ⟨_, h, ?_⟩⟩
  rintro x H1 ⟨a, ns, rfl, hs, few, k⟩
  refine ⟨a, ns, rfl, hs, few, fun q S n hq mem hn => ⟨q, S, n, rfl, updS, by omega, fun ys p inc m2 len hp => ?_⟩⟩
  exact k ys q p _ hq hp inc (fun j => (m2 j).trans (mem j)) (by omega)
end Fw

set_option Elab.async false
set_option linter.all false
set_option maxRecDepth 100000
set_option maxHeartbeats 4000000
/-! sorted(d.items()), d a dict of ints by texts. -/
namespace Fw
open PySem PySem.Spec PyProof.Rows L2
abbrev LabE := Addr × Str × Int
def encI (z : LabE) : PyData := .tuple [.str z.2.1, .int z.2.2]
def leI (a b : LabE) : Bool := if a.2.1 = b.2.1 then decide (a.2.2 ≤ b.2.2) else decide (a.2.1.cps.toList ≤ b.2.1.cps.toList)
theorem str_ext {x y : Str} (h : x.cps.toList = y.cps.toList) : x = y := by
  obtain ⟨⟨x⟩⟩ := x
  obtain ⟨⟨y⟩⟩ := y
  have : x = y := h
  rw [this]
theorem leI_eq : PySem.W.dataLe false encI = leI := by
  funext a b
  show (!PySem.W.dataLt (encI b) (encI a)) = _
  unfold encI leI
  rw [PySem.W.dataLt_pair rfl rfl]
  by_cases h : a.2.1 = b.2.1
  · rw [if_pos h, h, if_pos (by show decide (b.2.1 = b.2.1) = true; exact decide_eq_true rfl)]
    by_cases h2 : b.2.2 = a.2.2
    · rw [if_pos (by show decide (b.2.2 = a.2.2) = true; exact decide_eq_true h2), h2]
      simp
    · rw [if_neg (by show ¬ decide (b.2.2 = a.2.2) = true; simpa using h2), PySem.W.dataLt_int]
      by_cases h3 : b.2.2 < a.2.2
      · rw [decide_eq_true h3, decide_eq_false (by omega)]
        rfl
      · rw [decide_eq_false h3, decide_eq_true (by omega)]
        rfl
  · rw [if_neg h, if_neg (by show ¬ decide (b.2.1 = a.2.1) = true; simpa using fun z => h z.symm), PySem.W.dataLt_str, PySem.W.not_lt_str]
theorem le_antisymm_l {x y : List Nat} (a : x ≤ y) (b : y ≤ x) : x = y := by
  rcases Classical.em (x = y) with h | h
  · exact h
  · exact List.le_antisymm a b
theorem leI_total : PySem.W.TotalLe leI where
  trans := fun a b c h1 h2 => by
    unfold leI at *
    by_cases x : a.2.1 = b.2.1
    · rw [if_pos x] at h1
      by_cases y : b.2.1 = c.2.1
      · rw [if_pos y] at h2
        rw [if_pos (x.trans y)]
        simp only [decide_eq_true_eq] at *
        omega
      · rw [if_neg y] at h2
        rw [if_neg (fun z => y (x.symm.trans z)), x]
        exact h2
    · rw [if_neg x] at h1
      by_cases y : b.2.1 = c.2.1
      · rw [← y, if_neg x]
        exact h1
      · rw [if_neg y] at h2
        simp only [decide_eq_true_eq] at h1 h2
        have h3 := List.le_trans h1 h2
        by_cases z : a.2.1 = c.2.1
        · exfalso
          rw [z] at h1
          exact y (str_ext (le_antisymm_l h2 h1))
        · rw [if_neg z]
          exact decide_eq_true h3
  total := fun a b => by
    unfold leI
    by_cases x : a.2.1 = b.2.1
    · rw [if_pos x, if_pos x.symm]
      simp only [decide_eq_true_eq]
      omega
    · rw [if_neg x, if_neg fun z => x z.symm]
      simp only [decide_eq_true_eq]
      exact List.le_total _ _
abbrev labK (e : Str × Int) : Key × V := (Sum.inr e.1, V.int e.2)
theorem lab_entries {P : Program} {w : World} : ∀ {ks : List (Str × Int)} {vs : List (Key × Value)} {es : List DictEntry}, KV (ks.map labK) vs → Pairs (mixKind P w) es vs → es.length = ks.length ∧ ∀ (j : Nat) (e : DictEntry), es[j]? = some e → ∃ k, ks[j]? = some k ∧ ∃ t t', e.key = Value.str k.1 t ∧ e.val = Value.int k.2 t'
  | [], _, _, .nil, .nil => ⟨rfl, fun j e h => by simp at h⟩
  | k :: ks, _, _, .cons r rs, .cons (e := e) hk hv ps => by
    obtain ⟨h1, h2⟩ := lab_entries rs ps
    refine ⟨by rw [List.length_cons, List.length_cons, h1], fun j x hx => ?_⟩
    cases j with
    | succ j =>
      simp at hx
      obtain ⟨q, h3, h4⟩ := h2 j x hx
      exact ⟨q, by simpa using h3, h4⟩
    | zero =>
      simp at hx
      subst hx
      refine ⟨k, rfl, ?_⟩
      obtain ⟨r1, r2⟩ := r
      rw [← r1] at hk
      obtain ⟨t', e2⟩ : ∃ t', _ = Value.int k.2 t' := r2
      rcases keyIs_shape (show keyIs (Sum.inr k.1) e.key = true from hk) with ⟨i, t, ek, ev⟩ | ⟨z, t, ek, ev⟩
      · cases ek
      · cases ek
        exact ⟨t, t', ev, hv.trans e2⟩
def rItemsD : V → List V → Hp → VK → Prop := fun x xs H Q => ∃ (a : Addr) (kvs : List (Key × V)), x = .ref a ∧ xs = [] ∧ H a = some (.dK kvs) ∧ ∀ p, H p = none → Q (.ref p) (upd H p (L2.DX.itemsO p a))
theorem mt_itemsD {X : Cx} : MtM X "dict.items" rItemsD := by
  intro pins s σ H x xs v us Q I rx rxs h
  obtain ⟨a, kvs, rfl, rfl, ha, q⟩ := h
  cases rx
  cases rxs
  obtain ⟨z, hd, vs, rel, o, es, ep, ho, hx, hdat, _⟩ := dk_of I.hok ha
  refine DT.callItems (es := es) (ep := ep) hd ⟨o, ho, hx, hdat⟩ ?_
  have hf : H s.heap.objs.size = none := I.hok.fresh (Nat.le_refl _)
  exact ⟨.ref s.heap.objs.size, upd H s.heap.objs.size (L2.DX.itemsO s.heap.objs.size a), I.laid (t' := s.toks) (fun b u e => Heap.get?_push_of_some _ e) (Nat.le_refl _) (L2.DX.itemsO_ok (Heap.get?_push_size _ rfl)), rfl, q _ hf⟩
def rSortItD : List V → Hp → VK → Prop := fun vs H Q => ∃ (p a : Addr) (ks : List (Str × Int)), vs = [.ref p] ∧ H p = some (L2.DX.itemsO p a) ∧ H a = some (.dK (ks.map labK)) ∧ ks.length ≤ 1000 ∧
  ∀ (H' : Hp) (l : Addr) (ps : List LabE), Same H H' → H l = none → (ps.map (·.2)).Perm ks → ps.Pairwise (fun e f => e.2.1.cps.toList < f.2.1.cps.toList) → H' l = some (.lst (ps.map fun z => V.ref z.1)) →
    (∀ z ∈ ps, H z.1 = none ∧ H' z.1 = some (.tup [.str z.2.1, .int z.2.2])) → Q (.ref l) H'
theorem cr_sortedItD {X : Cx} (hc : X.calm = true) (hu : X.A.units + 64 < cLine) : CallR X (.builtin "sorted") rSortItD := by
  intro pins s σ H xs us Q I r h
  obtain ⟨p, a, ks, rfl, hp, ha, few, q⟩ := h
  obtain rfl := Vals.ref1 r
  have view : s.heap.IsItemsView p a := (show ObjOk X.prog X.w H s.heap p (L2.DX.itemsO p a) from I.hok p _ hp).1
  obtain ⟨z, hd, vs, rel, o, es, ep, ho, hx, hdat, _, prs, hn⟩ := dk_of I.hok ha
  obtain ⟨l0, ent⟩ := lab_entries rel prs
  have l2 : es.size = ks.length := by rw [← Array.length_toList]; exact l0
  have hnd : (ks.map (·.1)).Nodup := by
    have e : (ks.map labK).map (·.1) = vs.map (·.1) := rel.keys
    rw [← e, List.map_map] at hn
    have : (Prod.fst ∘ labK) = (fun x : Str => (Sum.inr x : Key)) ∘ (Prod.fst : Str × Int → Str) := rfl
    rw [this, ← List.map_map] at hn
    exact List.Pairwise.of_map _ (fun a b h e => h (by rw [e])) hn
  have hh : X.A.handled = none := I.ok.hd hc
  refine DT.sortedI (es := es) (ep := ep) hh view ⟨o, ho, hx, hdat⟩ (by rw [sizeLine_eq]; omega) fun h' tk as hk hlt hl hG => ?_
  have lak : as.length = ks.length := by omega
  have nd : as.Nodup := List.Pairwise.imp (fun h => Nat.ne_of_lt h) hG.rise
  have pr : ∀ (j : Nat) (b : Addr), as[j]? = some b → ∃ (e : Str × Int) (t t' : Tok), ks[j]? = some e ∧ h'.get? b = some { cls := .type "tuple", data := .seq #[Value.str e.1 t, Value.int e.2 t'] } := by
    intro j b hj
    obtain ⟨en, he, hg⟩ := hG.pairs j b hj
    obtain ⟨k, h1, t, t', h2, h3⟩ := ent j en (by rw [Array.getElem?_toList]; exact he)
    refine ⟨k, t, t', h1, ?_⟩
    rw [hg, h2, h3]
  have hob : (h'.push { cls := .type "list", data := .seq (as.map Value.ref).toArray }).get? h'.objs.size = some (seqObj "list" (as.map Value.ref).toArray 0) := Heap.get?_push_size _ rfl
  have kb : ∀ b o, s.heap.get? b = some o → (h'.push { cls := .type "list", data := .seq (as.map Value.ref).toArray }).get? b = some o := fun b o e => Heap.get?_push_of_some _ (hk b o e)
  have ne0 : ∀ b o, h'.get? b = some o → b ≠ h'.objs.size := fun b o e => Nat.ne_of_lt (Heap.lt_size e)
  generalize hh2 : h'.push { cls := .type "list", data := .seq (as.map Value.ref).toArray } = h2 at hob kb ⊢
  have ka : ∀ b o, h'.get? b = some o → h2.get? b = some o := fun b o e => by rw [← hh2]; exact Heap.get?_push_of_some _ e
  let zs : List LabE := as.zip ks
  have hz1 : zs.map (fun z => Value.ref z.1) = as.map Value.ref := by
    show (as.zip ks).map (Value.ref ∘ Prod.fst) = _
    rw [← List.map_map, List.map_fst_zip (by omega)]
  have hz2 : zs.map (·.2) = ks := List.map_snd_zip (by omega)
  have idx : ∀ z ∈ zs, ∃ j : Nat, as[j]? = some z.1 ∧ ks[j]? = some z.2 := by
    intro z' hz'
    obtain ⟨j, hj⟩ := List.mem_iff_getElem?.mp hz'
    exact ⟨j, List.getElem?_zip_eq_some.mp hj⟩
  have eachOf : ∀ {R : Value → LabE → Prop} (l : List LabE), (∀ z ∈ l, R (Value.ref z.1) z) → PySem.W.EachIs R (l.map fun z => Value.ref z.1) l := by
    intro R l
    induction l with
    | nil => intro _; exact .nil
    | cons z l ih => intro h; exact .cons (h z List.mem_cons_self) (ih fun z hz => h z (List.mem_cons_of_mem _ hz))
  have e1 : PySem.W.EachIs (fun (v : Value) (z : LabE) => v = Value.ref z.1 ∧ z ∈ zs) (as.map Value.ref) zs := by
    rw [← hz1]
    exact eachOf zs fun z hz => ⟨rfl, hz⟩
  have e2 : PySem.W.EachIs (fun v z => ∃ ws, Reads h2 v (encI z) ws ∧ h'.objs.size ∉ ws) (as.map Value.ref) zs := by
    rw [← hz1]
    refine eachOf zs fun z hz => ?_
    obtain ⟨j, h1, h3⟩ := idx z hz
    obtain ⟨e, t, t', h4, h5⟩ := pr j _ h1
    obtain rfl : z.2 = e := Option.some.inj (h3.symm.trans h4)
    exact ⟨_, .tuple (ka _ _ h5) rfl rfl (.cons (.str _ t) (.cons (.int _ t') .nil)), by simp⟩
  refine PySem.W.list_sort_data (enc := encI) hob e1 e2 (PySem.W.AllAlike.of fun _ _ => rfl) (PySem.W.Sortable.tuples fun _ => ⟨_, _, rfl⟩) (by show (as.zip ks).length ≤ _; rw [List.length_zip, sizeLine_eq]; omega) (fun b _ => by
    show X.A.in1.units + 1 + _ < cLine
    rw [Around.in1_units]
    have : (encI b).depth = 1 := by simp [encI, PyData.depth, PyData.depthAll]
    omega) fun out _ hout => ?_
  rw [leI_eq] at hout
  have outs : out = (zs.mergeSort leI).map fun z => Value.ref z.1 := by
    have : ∀ {l : List Value} {m : List LabE}, PySem.W.EachIs (fun v z => v = Value.ref z.1 ∧ z ∈ zs) l m → l = m.map fun z => Value.ref z.1 := by
      intro l m q
      induction q with
      | nil => rfl
      | cons h _ ih => rw [List.map_cons, ← h.1, ← ih]
    exact this hout
  have pm : (zs.mergeSort leI).Perm zs := List.mergeSort_perm _ _
  have hsort : (zs.mergeSort leI).Pairwise fun e f => e.2.1.cps.toList < f.2.1.cps.toList := by
    have p1 := PySem.W.sort_pairwise leI_total zs
    have p2 : ((zs.mergeSort leI).map fun z => z.2.1).Nodup := by
      refine ((pm.map fun z => z.2.1).nodup_iff).mpr ?_
      have : zs.map (fun z => z.2.1) = ks.map (·.1) := by rw [← hz2, List.map_map]; rfl
      rw [this]
      exact hnd
    have p2 : (zs.mergeSort leI).Pairwise fun e f => e.2.1 ≠ f.2.1 := List.pairwise_map.mp p2
    refine List.Pairwise.imp₂ (fun e f h1 h2 => ?_) p1 p2
    unfold leI at h1
    rw [if_neg h2] at h1
    have h1 := of_decide_eq_true h1
    rcases Classical.em (e.2.1.cps.toList < f.2.1.cps.toList) with h | h
    · exact h
    · exact absurd (str_ext (le_antisymm_l h1 (List.not_lt.mp h))) h2
  subst outs
  generalize zs.mergeSort leI = ms at pm hsort
  have kF : ∀ b o, b ≠ h'.objs.size → h2.get? b = some o → (sortedHeap h2 h'.objs.size (as.map Value.ref) (ms.map fun z => Value.ref z.1).toArray).get? b = some o := fun b o hb e => (PyProof.Rows.sortedHeap_old hb (Heap.lt_size e)).trans e
  obtain ⟨eF, heF⟩ := PyProof.Rows.sortedHeap_at (vs := as.map Value.ref) (out := (ms.map fun z => Value.ref z.1).toArray) hob
  generalize sortedHeap h2 h'.objs.size (as.map Value.ref) (ms.map fun z => Value.ref z.1).toArray = h3 at kF heF
  have kS : ∀ b o, s.heap.get? b = some o → h3.get? b = some o := fun b o e => kF b o (ne0 _ _ (hk b o e)) (kb b o e)
  show EP X pins σ Q (.ref h'.objs.size) { s with heap := h3, toks := tk }
  have I1 : Inv X pins σ H { s with heap := h3, toks := tk } := I.kept (t' := tk) kS
  have hn0 : H h'.objs.size = none := I.hok.fresh (Nat.le_of_lt hlt)
  have lenM : ms.length = ks.length := by rw [pm.length_eq]; show (as.zip ks).length = _; rw [List.length_zip]; omega
  have hlen : (ms.map fun z => V.ref z.1).length ≤ sizeLine := by rw [List.length_map, sizeLine_eq]; omega
  have rv : Vals (ms.map fun z => V.ref z.1) (ms.map fun z => Value.ref z.1) := vals_maps (fun z : LabE => V.ref z.1) (fun z => Value.ref z.1) ms fun _ _ => rfl
  have I2 : Inv X pins σ (upd H h'.objs.size (.lst (ms.map fun z => V.ref z.1))) { s with heap := h3, toks := tk } :=
    I1.take (h' := h3) (t' := tk) (fun b ob _ e => e) (I.fpOk (Nat.le_of_lt hlt) hn0) ⟨hlen, _, eF, rv, heF⟩
  obtain ⟨H2, I3, g, qt⟩ := L2.DX.takeT (P := fun b vs => ∃ (j : Nat) (e : Str × Int), as[j]? = some b ∧ ks[j]? = some e ∧ vs = [.str e.1, .int e.2]) I as _ I2 nd fun b hb => by
    obtain ⟨j, hj⟩ := List.mem_iff_getElem?.mp hb
    obtain ⟨e, t, t', he, hg⟩ := pr j b hj
    have hbl : s.heap.objs.size ≤ b := Nat.le_of_lt (hG.above b hb)
    refine ⟨hbl, ?_, [.str e.1, .int e.2], ⟨j, e, hj, he, rfl⟩, fun H3 => ⟨(by rw [sizeLine_eq]; show 2 ≤ 16777216; omega), [Value.str e.1 t, Value.int e.2 t'], .cons ⟨t, rfl⟩ (.cons ⟨t', rfl⟩ .nil), ⟨_, kF _ _ (ne0 _ _ hg) (ka _ _ hg), rfl, 0, rfl⟩⟩⟩
    rw [upd_ne (ne0 _ _ hg)]
    exact I.hok.fresh hbl
  have gr : Same H H2 := fun b o e => g b o (by rw [upd_ne (ne_of_none e hn0)]; exact e)
  refine ⟨.ref h'.objs.size, H2, I3, rfl, q H2 h'.objs.size ms gr hn0 ?_ hsort (g _ _ upd_same) fun z hz => ?_⟩
  · rw [← hz2]
    exact pm.map _
  · obtain ⟨i, i1, i2⟩ := idx z (pm.mem_iff.mp hz)
    have hm := List.mem_of_getElem? i1
    refine ⟨I.hok.fresh (Nat.le_of_lt (hG.above _ hm)), ?_⟩
    obtain ⟨vs, ⟨j, e, j1, j2, ev⟩, hH⟩ := qt z.1 hm
    have eij : i = j := (List.getElem?_inj (List.getElem?_eq_some_iff.mp i1).1 nd).mp (i1.trans j1.symm)
    subst eij
    have ee : e = z.2 := Option.some.inj (j2.symm.trans i2)
    rw [ev, ee] at hH
    exact hH
end Fw

set_option Elab.async false
set_option linter.all false
set_option maxRecDepth 100000
set_option maxHeartbeats 4000000
/-! The forms of contents, where they are right. -/
namespace Fw
open PySem L2 RZ RT
abbrev rSlE (K : PySem.W.Frag) : V → Option Int → Option Int → Hp → VK → Prop := fun x lo hi H Q => rSlA K x lo hi H Q ∨ rSlL K x lo hi H Q
abbrev rLtSS : R2 := fun x y H Q => ∃ i j, x = .str i ∧ y = .str j ∧ Q (.bl (decide (i.cps.toList < j.cps.toList))) H
abbrev fLtIS : R2 := fun x y H Q => rLtI x y H Q ∨ rLtSS x y H Q
def ltV : V → V → Prop
  | .int i, .int j => i < j
  | .str i, .str j => ltS i j
  | _, _ => False
theorem ltV.run {x y : V} {H : Hp} {Q : VK} (h : ltV x y) (q : Q (.bl true) H) : fLtIS x y H Q := by
  cases x <;> cases y <;> try exact h.elim
  · exact .inl ⟨_, _, rfl, rfl, by rw [show (fun i j : Int => V.bl (decide (i < j))) _ _ = V.bl true from congrArg V.bl (decide_eq_true (show _ < _ from h))]; exact q⟩
  · exact .inr ⟨_, _, rfl, rfl, by rw [decide_eq_true (show _ < _ from h)]; exact q⟩
theorem drop1 (xs : List V) : cutV xs (some 1) none = xs.drop 1 := by
  unfold cutV
  rw [show HT.sIx xs.length 0 (some 1) = min 1 xs.length from HT.sIx_nat xs.length 0 1, HT.sIx_none]
  cases xs with
  | nil => rfl
  | cons x r =>
    rw [show min 1 (x :: r).length = 1 by
      rw [List.length_cons]
      omega]
    rw [List.take_of_length_le]
    rw [List.length_drop]
    omega
/-- a comprehension over zip of two tuples, or two lists -/
theorem lcz_tup {K : PySem.W.Frag} {a b : Addr} {xs ys : List V} {g : TG} {tt : TT} {te : TE} {vs : List Nat} {σ : L2.St} {H1 : Hp} {D : Addr} {Qd : Hp → Prop} (n : Nat) (hn : n = min xs.length ys.length) (Pv : Nat → Hp → Prop) (h0 : Pv 0 (upd H1 D (.lst [])))
    (hl : ∀ i H, Pv i H → SqT K H a xs ∧ SqT K H b ys)
    (hs : ∀ (i : Nat) (x y : V) (T : Addr) (H : Hp), xs[i]? = some x → ys[i]? = some y → Pv i H → H T = none → g (.ref T) (wipe σ vs) (upd H T (.tup [x, y])) fun σ2 H2 => wipe σ2 vs = wipe σ vs ∧ tt σ2 H2 fun b H3 =>
      if b = true then te σ2 H3 fun y H4 => ∃ acc, H4 D = some (.lst acc) ∧ acc.length < sizeLine ∧ Pv (i + 1) (upd H4 D (.lst (acc ++ [y]))) else Pv (i + 1) H3) (hd : ∀ H, Pv n H → Qd H) :
    ∃ W : Nat → Nat → Hp → Prop, (∃ m, W 0 m (upd H1 D (.lst []))) ∧ ∀ i m H, W i m H →
      ((ItzT K a b).stop i H ∧ Qd H) ∨ ((ItzT K a b).go i H ∧ ∃ Nx : Hp → Prop, (∀ H', Nx H' → ∃ m', m' < m ∧ W (i + 1) m' H') ∧ ∀ x H', (ItzT K a b).yld i H x H' → g x (wipe σ vs) H' fun σ2 H2 => wipe σ2 vs = wipe σ vs ∧ tt σ2 H2 fun b H3 =>
        if b = true then te σ2 H3 fun y H4 => ∃ acc, H4 D = some (.lst acc) ∧ acc.length < sizeLine ∧ Nx (upd H4 D (.lst (acc ++ [y]))) else Nx H3) := by
  refine ⟨fun i m H => m = n - i ∧ i ≤ n ∧ Pv i H, ⟨n, by simp, Nat.zero_le _, h0⟩, ?_⟩
  rintro i m H ⟨rfl, hi, p⟩
  obtain ⟨qa, qb⟩ := hl i H p
  by_cases hlt : i < n
  · have l1 : i < xs.length := by omega
    have l2 : i < ys.length := by omega
    refine .inr ⟨⟨xs, ys, xs[i], ys[i], qa, qb, List.getElem?_eq_getElem l1, List.getElem?_eq_getElem l2⟩, Pv (i + 1), fun H' p' => ⟨n - (i + 1), by omega, rfl, hlt, p'⟩, fun x H' y => ?_⟩
    obtain ⟨T, x1, x2, rfl, nT, rfl, f1, f2⟩ := y
    exact hs i x1 x2 T H (f1 _ qa) (f2 _ qb) p nT
  · have e : i = n := by omega
    subst e
    exact .inl ⟨⟨xs, ys, qa, qb, by omega⟩, hd H p⟩
theorem lcz_lst {K : PySem.W.Frag} {a b : Addr} {xs ys : List V} {g : TG} {tt : TT} {te : TE} {vs : List Nat} {σ : L2.St} {H1 : Hp} {D : Addr} {Qd : Hp → Prop} (n : Nat) (hn : n = min xs.length ys.length) (Pv : Nat → Hp → Prop) (h0 : Pv 0 (upd H1 D (.lst [])))
    (hl : ∀ i H, Pv i H → SqL K H a xs ∧ SqL K H b ys)
    (hs : ∀ (i : Nat) (x y : V) (T : Addr) (H : Hp), xs[i]? = some x → ys[i]? = some y → Pv i H → H T = none → g (.ref T) (wipe σ vs) (upd H T (.tup [x, y])) fun σ2 H2 => wipe σ2 vs = wipe σ vs ∧ tt σ2 H2 fun b H3 =>
      if b = true then te σ2 H3 fun y H4 => ∃ acc, H4 D = some (.lst acc) ∧ acc.length < sizeLine ∧ Pv (i + 1) (upd H4 D (.lst (acc ++ [y]))) else Pv (i + 1) H3) (hd : ∀ H, Pv n H → Qd H) :
    ∃ W : Nat → Nat → Hp → Prop, (∃ m, W 0 m (upd H1 D (.lst []))) ∧ ∀ i m H, W i m H →
      ((Itz K a b).stop i H ∧ Qd H) ∨ ((Itz K a b).go i H ∧ ∃ Nx : Hp → Prop, (∀ H', Nx H' → ∃ m', m' < m ∧ W (i + 1) m' H') ∧ ∀ x H', (Itz K a b).yld i H x H' → g x (wipe σ vs) H' fun σ2 H2 => wipe σ2 vs = wipe σ vs ∧ tt σ2 H2 fun b H3 =>
        if b = true then te σ2 H3 fun y H4 => ∃ acc, H4 D = some (.lst acc) ∧ acc.length < sizeLine ∧ Nx (upd H4 D (.lst (acc ++ [y]))) else Nx H3) := by
  refine ⟨fun i m H => m = n - i ∧ i ≤ n ∧ Pv i H, ⟨n, by simp, Nat.zero_le _, h0⟩, ?_⟩
  rintro i m H ⟨rfl, hi, p⟩
  obtain ⟨qa, qb⟩ := hl i H p
  by_cases hlt : i < n
  · have l1 : i < xs.length := by omega
    have l2 : i < ys.length := by omega
    refine .inr ⟨⟨xs, ys, xs[i], ys[i], qa, qb, List.getElem?_eq_getElem l1, List.getElem?_eq_getElem l2⟩, Pv (i + 1), fun H' p' => ⟨n - (i + 1), by omega, rfl, hlt, p'⟩, fun x H' y => ?_⟩
    obtain ⟨T, x1, x2, rfl, nT, rfl, f1, f2⟩ := y
    exact hs i x1 x2 T H (f1 _ qa) (f2 _ qb) p nT
  · have e : i = n := by omega
    subst e
    exact .inl ⟨⟨xs, ys, qa, qb, by omega⟩, hd H p⟩
/-- a comprehension over a tuple of pairs of a text and an int -/
theorem lc_pairs {K : PySem.W.Frag} {r : Addr} {as : List Addr} {es : List (Str × Int)} {i j : Nat} {te : TE} {vs : List Nat} {σ : L2.St} {H1 : Hp} {D : Addr} {Qd : Hp → Prop} {ys : List V}
    (hD : H1 D = none) (hr : H1 r = some (.tup (as.map V.ref))) (hl : as.length = es.length) (hz : es.length ≤ 100000) (hy : ys.length = es.length) (ha : ∀ (n : Nat) (b : Addr) (e : Str × Int), as[n]? = some b → es[n]? = some e → H1 b = some (.tup [.str e.1, .int e.2]))
    (hs : ∀ (n : Nat) (e : Str × Int) (y : V) (H' : Hp) (R : VK), es[n]? = some e → ys[n]? = some y → Same H1 H' → (∀ H'', Same H' H'' → R y H'') → wipe (((wipe σ vs).set i (some (.str e.1))).set j (some (.int e.2))) vs = wipe σ vs ∧ te (((wipe σ vs).set i (some (.str e.1))).set j (some (.int e.2))) H' R)
    (hd : ∀ H', Same H1 H' → H' D = some (.lst ys) → Qd H') :
    ∃ W : Nat → Nat → Hp → Prop, (∃ m, W 0 m (L2.upd H1 D (.lst []))) ∧ ∀ i' m H, W i' m H →
      ((Itt K r).stop i' H ∧ Qd H) ∨ ((Itt K r).go i' H ∧ ∃ Nx : Hp → Prop, (∀ H', Nx H' → ∃ m', m' < m ∧ W (i' + 1) m' H') ∧ ∀ x H', (Itt K r).yld i' H x H' → gTup K 2 (gCons (gName i) (gCons (gName j) gNil)) x (wipe σ vs) H' fun σ2 H2 => wipe σ2 vs = wipe σ vs ∧ tYes σ2 H2 fun b H3 =>
        if b = true then te σ2 H3 fun y H4 => ∃ acc, H4 D = some (.lst acc) ∧ acc.length < sizeLine ∧ Nx (L2.upd H4 D (.lst (acc ++ [y]))) else Nx H3) := by
  refine lc_it (walk_tup (xs := as.map V.ref)) (fun i H => Same H1 H ∧ H D = some (.lst (ys.take i))) ⟨Same.upd hD, updS⟩ (fun i H _ p => sqT (p.1 _ _ hr)) (fun n x H H' hi p hyy => ?_) (fun H p => hd H p.1 (by rw [p.2, List.length_map, List.take_of_length_le (by omega)]))
  obtain ⟨rfl, hx⟩ := hyy
  rw [List.length_map] at hi
  rw [List.getElem?_map, List.getElem?_eq_getElem hi] at hx
  cases Option.some.inj hx
  have he : es[n]? = some (es[n]'(by omega)) := List.getElem?_eq_getElem _
  have hi2 : n < ys.length := by omega
  have hb := p.1 _ _ (ha n _ _ (List.getElem?_eq_getElem hi) he)
  obtain ⟨q1, q2⟩ := hs n _ ys[n] H' (fun y H4 => ∃ acc, H4 D = some (.lst acc) ∧ acc.length < sizeLine ∧ (Same H1 (L2.upd H4 D (.lst (acc ++ [y]))) ∧ L2.upd H4 D (.lst (acc ++ [y])) D = some (.lst (ys.take (n + 1))))) he (List.getElem?_eq_getElem hi2) p.1 (fun H'' s => ⟨_, s _ _ p.2, Nat.lt_of_le_of_lt (by rw [List.length_take]; omega : (ys.take n).length ≤ 100000) (by decide), Same.updI (Same.trans p.1 s) hD, by rw [updS, List.take_add_one, List.getElem?_eq_getElem hi2]; rfl⟩)
  exact ⟨_, _, rfl, sqT hb, rfl, _, _, rfl, _, _, rfl, rfl, q1, q2⟩
def sp_is_rows (_ : PySem.W.Frag) : Sp := fun vs H Q _ => ∃ (r : Addr) (rows : List Str), vs = [.ref r] ∧ H r = some (.tup (rows.map V.str)) ∧ rows.length ≤ 40 ∧ (∀ z ∈ rows, OkS z) ∧ ∀ H', Same H H' → Q (.bl true) H'
def sp_is_label (_ : PySem.W.Frag) : Sp := fun vs H Q _ => ∃ z : Str, vs = [.str z] ∧ OkLab z ∧ ∀ H', Same H H' → Q (.bl true) H'
def sp_is_entry (_ : PySem.W.Frag) : Sp := fun vs H Q _ => ∃ (b : Addr) (z : Str) (n : Int), vs = [.ref b] ∧ H b = some (.tup [.str z, .int n]) ∧ OkLab z ∧ ∀ H', Same H H' → Q (.bl true) H'
def sp_rises (_ : PySem.W.Frag) : Sp := fun vs H Q _ => ∃ (p : Addr) (xs : List V), vs = [.ref p] ∧ (H p = some (.lst xs) ∨ H p = some (.tup xs)) ∧ xs.length ≤ 100000 ∧ (∀ (i : Nat) (x y : V), xs[i]? = some x → xs[i + 1]? = some y → ltV x y) ∧ ∀ H', Same H H' → Q (.bl true) H'
def sp_is_entries (_ : PySem.W.Frag) : Sp := fun vs H Q _ => ∃ (r : Addr) (as : List Addr) (es : List (Str × Int)), vs = [.ref r] ∧ H r = some (.tup (as.map V.ref)) ∧ as.length = es.length ∧ (∀ (i : Nat) (b : Addr) (e : Str × Int), as[i]? = some b → es[i]? = some e → H b = some (.tup [.str e.1, .int e.2])) ∧ es.length ≤ 20 ∧ (∀ e ∈ es, OkLab e.1) ∧ (es.Pairwise fun a b => ltS a.1 b.1) ∧ ∀ H', Same H H' → Q (.bl true) H'
def sp_is_ints (_ : PySem.W.Frag) : Sp := fun vs H Q _ => ∃ (r : Addr) (ns : List Int), vs = [.ref r] ∧ H r = some (.tup (ns.map V.int)) ∧ ns.length ≤ 1000 ∧ ∀ H', Same H H' → Q (.bl true) H'
def sp_is_rising (_ : PySem.W.Frag) : Sp := fun vs H Q _ => ∃ (r : Addr) (ns : List Int), vs = [.ref r] ∧ H r = some (.tup (ns.map V.int)) ∧ ns.length ≤ 1000 ∧ ns.Pairwise (· < ·) ∧ ∀ H', Same H H' → Q (.bl true) H'
def sp_is_stamp (_ : PySem.W.Frag) : Sp := fun vs H Q _ => ∃ s : Int, vs = [.int s] ∧ 0 ≤ s ∧ s ≤ 1000000000000000000 ∧ Q (.bl true) H
def sp_is_version_form (_ : PySem.W.Frag) : Sp := fun vs H Q _ => ∃ (a : Addr) (ps : List Int) (r s : Int), vs = [.ref a] ∧ CtAt H a (.ver ps r s) ∧ (Ct.ver ps r s).form ∧ ∀ H', Same H H' → Q (.bl true) H'
def sp_is_content_form (_ : PySem.W.Frag) : Sp := fun vs H Q _ => ∃ (a : Addr) (c : Ct), vs = [.ref a] ∧ CtAt H a c ∧ c.form ∧ ∀ H', Same H H' → Q (.bl true) H'
section
variable {K : PySem.W.Frag} {vs : List V} {H : Hp} {Q : VK} {E : XK}
theorem len_is_rows (h : sp_is_rows K vs H Q E) : vs.length = 1 := by obtain ⟨_, _, rfl, _⟩ := h; rfl
theorem len_is_label (h : sp_is_label K vs H Q E) : vs.length = 1 := by obtain ⟨_, rfl, _⟩ := h; rfl
theorem len_is_entry (h : sp_is_entry K vs H Q E) : vs.length = 1 := by obtain ⟨_, _, _, rfl, _⟩ := h; rfl
theorem len_rises (h : sp_rises K vs H Q E) : vs.length = 1 := by obtain ⟨_, _, rfl, _⟩ := h; rfl
theorem len_is_entries (h : sp_is_entries K vs H Q E) : vs.length = 1 := by obtain ⟨_, _, _, rfl, _⟩ := h; rfl
theorem len_is_ints (h : sp_is_ints K vs H Q E) : vs.length = 1 := by obtain ⟨_, _, rfl, _⟩ := h; rfl
theorem len_is_rising (h : sp_is_rising K vs H Q E) : vs.length = 1 := by obtain ⟨_, _, rfl, _⟩ := h; rfl
theorem len_is_stamp (h : sp_is_stamp K vs H Q E) : vs.length = 1 := by obtain ⟨_, rfl, _⟩ := h; rfl
theorem len_is_version_form (h : sp_is_version_form K vs H Q E) : vs.length = 1 := by obtain ⟨_, _, _, _, rfl, _⟩ := h; rfl
theorem len_is_content_form (h : sp_is_content_form K vs H Q E) : vs.length = 1 := by obtain ⟨_, _, rfl, _⟩ := h; rfl
end
abbrev N_is_rows : List Str := ["thing", "row"]
def t_is_rows (K : PySem.W.Frag) : TS := (tRet (tAndV (tCB (rIsi K) (tCons (tVar 0) (tCons (tC (.ty "tuple")) tNil))) (tAndV (tOp rLeI (tCB (fLen K) (tCons (tVar 0) tNil)) (tC (.int 40))) (tCB (rAll K) (tCons (tLc (iTup K (tVar 0)) (gName 1) tYes (tCall (sp_is_row K) [] E0 (tCons (tVar 1) tNil)) [1]) tNil)))))
abbrev N_is_label : List Str := ["thing", "sign"]
def t_is_label (K : PySem.W.Frag) : TS := (tSeq (tIfS (tOr (tNot (tB (tCB (rIsi K) (tCons (tVar 0) (tCons (tC (.ty "str")) tNil))))) (tNot (tTest (tChain rLeI rLeI (tC (.int 1)) (tCB (fLen K) (tCons (tVar 0) tNil)) (tC (.int 8)))))) (tRet (tC (.bl false))) tNext)
    (tRet (tCB (rAll K) (tCons (tLc (iStr (tVar 0)) (gName 1) tYes (tChain rLeS rLeS (tC (.str "a")) (tVar 1) (tC (.str "z"))) [1]) tNil))))
abbrev N_is_entry : List Str := ["thing"]
def t_is_entry (K : PySem.W.Frag) : TS := (tRet (tAndV (tCall (sp_is_pairT K) [] E0 (tCons (tVar 0) tNil)) (tAndV (tCall (sp_is_label K) [] E0 (tCons (tOp (rIx K) (tVar 0) (tC (.int 0))) tNil)) (tCall (sp_is_intI K) [] E0 (tCons (tOp (rIx K) (tVar 0) (tC (.int 1))) tNil)))))
abbrev N_rises : List Str := ["things", "low", "high"]
def t_rises (K : PySem.W.Frag) : TS := (tRet (tCB (rAll K) (tCons (tLc (iZipA K (tCons (tVar 0) (tCons (tSl (rSlE K) (tVar 0) (tPart (tC (.int 1))) tNoPart) tNil))) (gTup K 2 (gCons (gName 1) (gCons (gName 2) gNil))) tYes (tOp fLtIS (tVar 1) (tVar 2)) [1, 2]) tNil)))
abbrev N_is_entries : List Str := ["thing", "entry"]
def t_is_entries (K : PySem.W.Frag) : TS := (tSeq (tIfS (tOr (tNot (tB (tCB (rIsi K) (tCons (tVar 0) (tCons (tC (.ty "tuple")) tNil))))) (tTest (tOp rGtI (tCB (fLen K) (tCons (tVar 0) tNil)) (tC (.int 20))))) (tRet (tC (.bl false))) tNext)
    (tRet (tAndV (tCB (rAll K) (tCons (tLc (iTup K (tVar 0)) (gName 1) tYes (tCall (sp_is_entry K) [] E0 (tCons (tVar 1) tNil)) [1]) tNil)) (tCall (sp_rises K) [] E0 (tCons (tLc (iTup K (tVar 0)) (gName 1) tYes (tOp (rIx K) (tVar 1) (tC (.int 0))) [1]) tNil)))))
abbrev N_is_ints : List Str := ["thing", "part"]
def t_is_ints (K : PySem.W.Frag) : TS := (tRet (tAndV (tCB (rIsi K) (tCons (tVar 0) (tCons (tC (.ty "tuple")) tNil))) (tCB (rAll K) (tCons (tLc (iTup K (tVar 0)) (gName 1) tYes (tCall (sp_is_intI K) [] E0 (tCons (tVar 1) tNil)) [1]) tNil))))
abbrev N_is_rising : List Str := ["thing"]
def t_is_rising (K : PySem.W.Frag) : TS := (tRet (tAndV (tCall (sp_is_ints K) [] E0 (tCons (tVar 0) tNil)) (tCall (sp_rises K) [] E0 (tCons (tVar 0) tNil))))
abbrev N_is_stamp : List Str := ["thing"]
def t_is_stamp (K : PySem.W.Frag) : TS := (tRet (tAndV (tCall (sp_is_intI K) [] E0 (tCons (tVar 0) tNil)) (tChain rLeI rLeI (tC (.int 0)) (tVar 0) (tC (.int 1000000000000000000)))))
abbrev N_is_version_form : List Str := ["thing"]
def t_is_version_form (K : PySem.W.Frag) : TS := (tSeq (tIfS (tOr (tTest (tOp rNe (tCB (fLen K) (tCons (tVar 0) tNil)) (tC (.int 4)))) (tNot (tB (tCall (sp_is_rising K) [] E0 (tCons (tOp (rIx K) (tVar 0) (tC (.int 1))) tNil))))) (tRet (tC (.bl false))) tNext)
    (tRet (tAndV (tOp rLeI (tCB (fLen K) (tCons (tOp (rIx K) (tVar 0) (tC (.int 1))) tNil)) (tC (.int 4))) (tAndV (tCall (sp_is_intI K) [] E0 (tCons (tOp (rIx K) (tVar 0) (tC (.int 2))) tNil)) (tCall (sp_is_stamp K) [] E0 (tCons (tOp (rIx K) (tVar 0) (tC (.int 3))) tNil))))))
abbrev N_is_content_form : List Str := ["thing"]
def t_is_content_form (K : PySem.W.Frag) : TS := (tSeq (tIfS (tOr (tNot (tB (tCB (rIsi K) (tCons (tVar 0) (tCons (tC (.ty "tuple")) tNil))))) (tTest (tOp rEq (tCB (fLen K) (tCons (tVar 0) tNil)) (tC (.int 0))))) (tRet (tC (.bl false))) tNext)
    (tSeq (tIfS (tTest (tOp rEq (tOp (rIx K) (tVar 0) (tC (.int 0))) (tC (.str "leaf")))) (tRet (tAndV (tOp rEq (tCB (fLen K) (tCons (tVar 0) tNil)) (tC (.int 2))) (tCall (sp_is_rows K) [] E0 (tCons (tOp (rIx K) (tVar 0) (tC (.int 1))) tNil)))) tNext)
    (tSeq (tIfS (tTest (tOp rEq (tOp (rIx K) (tVar 0) (tC (.int 0))) (tC (.str "tree")))) (tRet (tAndV (tOp rEq (tCB (fLen K) (tCons (tVar 0) tNil)) (tC (.int 2))) (tCall (sp_is_entries K) [] E0 (tCons (tOp (rIx K) (tVar 0) (tC (.int 1))) tNil)))) tNext)
    (tRet (tAndV (tOp rEq (tOp (rIx K) (tVar 0) (tC (.int 0))) (tC (.str "version"))) (tCall (sp_is_version_form K) [] E0 (tCons (tVar 0) tNil)))))))
theorem one_le {c d : Nat} (h : d ≤ c) : (!decide ((⟨#[c]⟩ : Str).cps.toList < (⟨#[d]⟩ : Str).cps.toList)) = true := by
  show (!decide ([c] < [d])) = true
  rw [decide_eq_false]
  · rfl
  · intro h2
    rcases List.cons_lt_cons_iff.mp h2 with h3 | h3
    · omega
    · exact absurd h3.2 (by decide)
theorem str_a : ("a" : Str) = ⟨#[97]⟩ := by decide +kernel
theorem str_z : ("z" : Str) = ⟨#[122]⟩ := by decide +kernel
theorem samN {H : Hp} {p : Addr} {o : HO} (n : H p = none) : Same H (upd H p o) := Same.upd n
section
variable {K : PySem.W.Frag} {vs : List V} {H : Hp} {Q : VK} {E : XK}
theorem pure_is_rows (h : sp_is_rows K vs H Q E) : t_is_rows K { nx := fun _ H' => Q .non H', rt := Q } (start N_is_rows vs) H := by
  obtain ⟨r, rows, rfl, hr, few, ok, k⟩ := h
  refine ⟨_, rfl, isi (.base (.tup hr)) k_tt ⟨_, rfl, iteT ⟨_, rfl, lenT hr ⟨_, _, rfl, rfl, _, rfl, ?_⟩⟩⟩⟩
  rw [decide_eq_true (show ((rows.map V.str).length : Int) ≤ 40 by rw [List.length_map]; omega)]
  refine iteT ⟨_, rfl, r, rfl, ⟨_, sqT hr⟩, fun L nL => ?_⟩
  refine lc_grow (walk_tup (xs := rows.map V.str)) yAt (ys := List.replicate (rows.map V.str).length (.bl true)) nL List.length_replicate (by rw [List.length_map]; omega) (fun H' s => sqT (s _ _ hr)) ?_ ?_
  · rintro i x y H' R hi ⟨_, hx⟩ hy s q
    rw [List.getElem?_map] at hx
    cases e : rows[i]? with
    | none => rw [e] at hx; cases hx
    | some z =>
      rw [e] at hx
      cases Option.some.inj hx
      refine ⟨rfl, _, rfl, z, rfl, ok z (List.mem_of_getElem? e), fun H'' s2 => ?_⟩
      rw [rep_get hy] at q
      exact q _ s2
  · intro H' s hL
    refine ⟨L, List.replicate (rows.map V.str).length true, rfl, sqL (by rw [hL, List.map_replicate]), ?_⟩
    rw [all_rep]
    exact k _ s
theorem pure_is_label (h : sp_is_label K vs H Q E) : t_is_label K { nx := fun _ H' => Q .non H', rt := Q } (start N_is_label vs) H := by
  obtain ⟨z, rfl, ⟨h1, h2, h3⟩, k⟩ := h
  have hz : z.length ≤ 1000 := by show z.cps.size ≤ 1000; omega
  refine ⟨_, rfl, isi (.base (.str z)) k_ss ⟨_, rfl, iteF ⟨_, rfl, lenS hz ⟨_, _, rfl, rfl, _, rfl, ?_⟩⟩⟩⟩
  rw [decide_eq_true (show (1 : Int) ≤ (z.length : Int) by show (1 : Int) ≤ (z.cps.size : Int); omega)]
  refine iteT ⟨_, _, rfl, rfl, _, rfl, ?_⟩
  rw [decide_eq_true (show (z.length : Int) ≤ 8 by show (z.cps.size : Int) ≤ 8; omega)]
  refine iteF ⟨_, rfl, z, rfl, fun L nL => ?_⟩
  refine lc_grow walk_str yStr (ys := List.replicate z.cps.size (.bl true)) nL List.length_replicate (by omega) (fun _ _ => True.intro) ?_ ?_
  · rintro i x y H' R hi ⟨_, c, hc, rfl⟩ hy s r
    have hm : c ∈ z.cps.toList := by obtain ⟨q1, q2⟩ := Array.getElem?_eq_some_iff.mp hc; rw [← q2]; exact Array.getElem_mem_toList q1
    obtain ⟨l1, l2⟩ := h3 c hm
    refine ⟨rfl, _, rfl, _, _, rfl, rfl, _, rfl, ?_⟩
    rw [str_a, one_le l1]
    refine iteT ⟨_, _, rfl, rfl, ?_⟩
    rw [str_z, one_le l2]
    rw [← rep_get hy]
    exact r _ (Same.refl _)
  · intro H' s hL
    refine ⟨L, List.replicate z.cps.size true, rfl, sqL (by rw [hL, List.map_replicate]), ?_⟩
    rw [all_rep]
    exact k _ s
theorem pure_is_entry (h : sp_is_entry K vs H Q E) : t_is_entry K { nx := fun _ H' => Q .non H', rt := Q } (start N_is_entry vs) H := by
  obtain ⟨b, z, n, rfl, hb, ok, k⟩ := h
  refine ⟨_, rfl, b, _, _, rfl, hb, _, rfl, iteT ⟨_, rfl, ixT hb rfl ⟨z, rfl, ok, fun H' s => ⟨_, rfl, iteT ⟨_, rfl, ixT (s _ _ hb) rfl ⟨n, rfl, k _ s⟩⟩⟩⟩⟩⟩
theorem pure_rises (h : sp_rises K vs H Q E) : t_rises K { nx := fun _ H' => Q .non H', rt := Q } (start N_rises vs) H := by
  obtain ⟨p, xs, rfl, hp, hz, hc, k⟩ := h
  have fin : ∀ {H1 H2 : Hp} {D : Addr}, Same H H1 → Same H1 H2 → H2 D = some (.lst (List.replicate (xs.length - 1) (.bl true))) → rAll K [V.ref D] H2 Q := fun {H1 H2 D} s1 s2 hD => by
    refine ⟨D, List.replicate (xs.length - 1) true, rfl, sqL (by rw [hD, List.map_replicate]), ?_⟩
    rw [all_rep]
    exact k _ (s1.trans s2)
  have step : ∀ {H1 H2 : Hp} {D T : Addr} {i : Nat} {x y : V} {Qn : Hp → Prop}, xs[i]? = some x → (xs.drop 1)[i]? = some y → Same H1 H2 ∧ H2 D = some (.lst (List.replicate i (.bl true))) → H1 D = none → H2 T = none → (∀ H', Same H1 H' → H' D = some (.lst (List.replicate (i + 1) (.bl true))) → Qn H') →
      gTup K 2 (gCons (gName 1) (gCons (gName 2) gNil)) (.ref T) (wipe (start N_rises [V.ref p]) [1, 2]) (upd H2 T (.tup [x, y])) fun σ2 H2 => wipe σ2 [1, 2] = wipe (start N_rises [V.ref p]) [1, 2] ∧ tYes σ2 H2 fun b H3 =>
        if b = true then tOp fLtIS (tVar 1) (tVar 2) σ2 H3 fun y H4 => ∃ acc, H4 D = some (.lst acc) ∧ acc.length < sizeLine ∧ Qn (upd H4 D (.lst (acc ++ [y]))) else Qn H3 := by
    intro H1 H2 D T i x y Qn hx hy s2 nD nT q
    rw [List.getElem?_drop, Nat.add_comm] at hy
    have hi := (List.getElem?_eq_some_iff.mp hy).1
    have nTD : D ≠ T := ne_of_none s2.2 nT
    have sT : Same H1 (upd H2 T (.tup [x, y])) := fun b o e => updN (ne_of_none (s2.1 _ _ e) nT) (s2.1 _ _ e)
    refine ⟨T, [x, y], rfl, sqT updS, rfl, x, [y], rfl, y, [], rfl, rfl, rfl, ?_⟩
    refine ⟨_, rfl, _, rfl, (hc i x y hx hy).run ⟨_, updN nTD s2.2, ?_, q _ (fun b o e => updN (ne_of_none e nD) (sT _ _ e)) ?_⟩⟩
    · refine Nat.lt_of_le_of_lt (?_ : _ ≤ 100000) (by decide)
      rw [List.length_replicate]
      omega
    · rw [updS, List.replicate_succ']
  rcases hp with hp | hp
  · refine ⟨_, rfl, _, rfl, _, rfl, .inr ⟨p, _, rfl, sqL hp, fun q nq => ?_⟩⟩
    rw [drop1]
    have s1 : Same H (upd H q (.lst (xs.drop 1))) := samN nq
    refine ⟨p, q, xs, _, rfl, .inl ⟨sqL (s1 _ _ hp), sqL updS, fun D nD => ?_⟩⟩
    have hq1 : upd H q (.lst (xs.drop 1)) q = some (.lst (xs.drop 1)) := updS
    have hp1 := s1 _ _ hp
    generalize upd H q (.lst (xs.drop 1)) = H1 at s1 hq1 hp1 nD ⊢
    exact lcz_lst (K := K) (a := p) (b := q) (xs := xs) (ys := xs.drop 1) (xs.length - 1) (by rw [List.length_drop]; omega) (fun i H2 => Same H1 H2 ∧ H2 D = some (.lst (List.replicate i (.bl true)))) ⟨samN nD, updS⟩ (fun i H2 s2 => ⟨sqL (s2.1 _ _ hp1), sqL (s2.1 _ _ hq1)⟩) (fun i x y T H2 hx hy s2 nT => step hx hy s2 nD nT fun H' a b => ⟨a, b⟩) (fun H2 s2 => fin s1 s2.1 s2.2)
  · have main : ∀ (q : Addr) (H1 : Hp), Same H H1 → H1 q = some (.tup (xs.drop 1)) → ∀ D, H1 D = none → ∃ W : Nat → Nat → Hp → Prop, (∃ m, W 0 m (upd H1 D (.lst []))) ∧ ∀ i m H, W i m H →
        ((ItzT K p q).stop i H ∧ tNil (start N_rises [V.ref p]) H fun ys H2 => rAll K (.ref D :: ys) H2 Q) ∨ ((ItzT K p q).go i H ∧ ∃ Nx : Hp → Prop, (∀ H', Nx H' → ∃ m', m' < m ∧ W (i + 1) m' H') ∧ ∀ x H', (ItzT K p q).yld i H x H' → gTup K 2 (gCons (gName 1) (gCons (gName 2) gNil)) x (wipe (start N_rises [V.ref p]) [1, 2]) H' fun σ2 H2 => wipe σ2 [1, 2] = wipe (start N_rises [V.ref p]) [1, 2] ∧ tYes σ2 H2 fun b H3 =>
          if b = true then tOp fLtIS (tVar 1) (tVar 2) σ2 H3 fun y H4 => ∃ acc, H4 D = some (.lst acc) ∧ acc.length < sizeLine ∧ Nx (upd H4 D (.lst (acc ++ [y]))) else Nx H3) := by
      intro q H1 sm hq D nD
      exact lcz_tup (K := K) (a := p) (b := q) (xs := xs) (ys := xs.drop 1) (xs.length - 1) (by rw [List.length_drop]; omega) (fun i H2 => Same H1 H2 ∧ H2 D = some (.lst (List.replicate i (.bl true)))) ⟨samN nD, updS⟩ (fun i H2 s2 => ⟨sqT (s2.1 _ _ (sm _ _ hp)), sqT (s2.1 _ _ hq)⟩) (fun i x y T H2 hx hy s2 nT => step hx hy s2 nD nT fun H' a b => ⟨a, b⟩) (fun H2 s2 => fin sm s2.1 s2.2)
    refine ⟨_, rfl, _, rfl, _, rfl, .inl ⟨p, xs, rfl, sqT hp, fun e => ?_, fun e q nq => ?_⟩⟩
    · have e0 : xs.drop 1 = xs := by
        have e1 := e.1
        rw [show HT.sIx xs.length 0 (some 1) = min 1 xs.length from HT.sIx_nat xs.length 0 1] at e1
        have : xs.length = 0 := by omega
        rw [List.eq_nil_of_length_eq_zero this]
        rfl
      exact ⟨p, p, xs, xs, rfl, .inr ⟨sqT hp, sqT hp, main p H (Same.refl H) (by rw [e0]; exact hp)⟩⟩
    · have s1 : Same H (upd H q (.tup (cutV xs (some 1) none))) := fun b o e => updN (ne_of_none e nq) e
      refine ⟨p, q, xs, _, rfl, .inr ⟨sqT (s1 _ _ hp), sqT updS, main q _ s1 ?_⟩⟩
      rw [updS, drop1]
theorem pure_is_entries (h : sp_is_entries K vs H Q E) : t_is_entries K { nx := fun _ H' => Q .non H', rt := Q } (start N_is_entries vs) H := by
  obtain ⟨r, as, es, rfl, hr, hl, ha, few, ok, pw, k⟩ := h
  refine ⟨_, rfl, isi (.base (.tup hr)) k_tt ⟨_, rfl, iteF ⟨_, rfl, lenT hr ⟨_, _, rfl, rfl, _, rfl, ?_⟩⟩⟩⟩
  rw [decide_eq_false (show ¬ (20 : Int) < ((as.map V.ref).length : Int) by rw [List.length_map]; omega)]
  refine iteF ⟨_, rfl, r, rfl, ⟨_, sqT hr⟩, fun L nL => ?_⟩
  refine lc_grow (walk_tup (xs := as.map V.ref)) yAt (ys := List.replicate (as.map V.ref).length (.bl true)) nL List.length_replicate (by rw [List.length_map]; omega) (fun H' s => sqT (s _ _ hr)) ?_ ?_
  · rintro i x y H' R hi ⟨_, hx⟩ hy s q
    rw [List.length_map] at hi
    rw [List.getElem?_map, List.getElem?_eq_getElem hi] at hx
    cases Option.some.inj hx
    have he : es[i]? = some (es[i]'(by omega)) := List.getElem?_eq_getElem _
    refine ⟨rfl, _, rfl, as[i], _, _, rfl, s _ _ (ha i _ _ (List.getElem?_eq_getElem hi) he), ok _ (List.mem_of_getElem? he), fun H'' s2 => ?_⟩
    rw [rep_get hy] at q
    exact q _ s2
  · intro H' s hL
    refine ⟨L, List.replicate (as.map V.ref).length true, rfl, sqL (by rw [hL, List.map_replicate]), ?_⟩
    rw [all_rep]
    refine ⟨_, rfl, iteT ⟨_, rfl, r, rfl, ⟨_, sqT (s _ _ hr)⟩, fun L2 nL2 => ?_⟩⟩
    refine lc_grow (walk_tup (xs := as.map V.ref)) yAt (ys := (es.map fun e => V.str e.1)) nL2 (by rw [List.length_map, List.length_map, hl]) (by rw [List.length_map]; omega) (fun H2 s2 => sqT (s2 _ _ (s _ _ hr))) ?_ ?_
    · rintro i x y H2 R hi ⟨_, hx⟩ hy s2 q
      rw [List.length_map] at hi
      rw [List.getElem?_map, List.getElem?_eq_getElem hi] at hx
      cases Option.some.inj hx
      have he : es[i]? = some (es[i]'(by omega)) := List.getElem?_eq_getElem _
      have hb := ha i _ _ (List.getElem?_eq_getElem hi) he
      rw [List.getElem?_map, he] at hy
      cases Option.some.inj hy
      exact ⟨rfl, _, rfl, ixT (s2 _ _ (s _ _ hb)) rfl (q _ (Same.refl _))⟩
    · intro H2 s2 hL2
      refine ⟨L2, _, rfl, .inl hL2, by rw [List.length_map]; omega, fun i x y hx hy => ?_, fun H3 s3 => k _ ((s.trans s2).trans s3)⟩
      rw [List.getElem?_map] at hx hy
      cases e1 : es[i]? with
      | none => rw [e1] at hx; cases hx
      | some a =>
        cases e2 : es[i + 1]? with
        | none => rw [e2] at hy; cases hy
        | some b =>
          rw [e1] at hx
          rw [e2] at hy
          cases Option.some.inj hx
          cases Option.some.inj hy
          obtain ⟨h1, e1⟩ := List.getElem?_eq_some_iff.mp e1
          obtain ⟨h2, e2⟩ := List.getElem?_eq_some_iff.mp e2
          have := List.pairwise_iff_getElem.mp pw i (i + 1) h1 h2 (Nat.lt_succ_self _)
          rw [e1, e2] at this
          exact this
theorem pure_is_ints (h : sp_is_ints K vs H Q E) : t_is_ints K { nx := fun _ H' => Q .non H', rt := Q } (start N_is_ints vs) H := by
  obtain ⟨r, ns, rfl, hr, few, k⟩ := h
  refine ⟨_, rfl, isi (.base (.tup hr)) k_tt ⟨_, rfl, iteT ⟨_, rfl, r, rfl, ⟨_, sqT hr⟩, fun L nL => ?_⟩⟩⟩
  refine lc_grow (walk_tup (xs := ns.map V.int)) yAt (ys := List.replicate (ns.map V.int).length (.bl true)) nL List.length_replicate (by rw [List.length_map]; omega) (fun H' s => sqT (s _ _ hr)) ?_ ?_
  · rintro i x y H' R hi ⟨_, hx⟩ hy s q
    rw [List.getElem?_map] at hx
    cases e : ns[i]? with
    | none => rw [e] at hx; cases hx
    | some z =>
      rw [e] at hx
      cases Option.some.inj hx
      refine ⟨rfl, _, rfl, z, rfl, ?_⟩
      rw [rep_get hy] at q
      exact q _ (Same.refl _)
  · intro H' s hL
    refine ⟨L, List.replicate (ns.map V.int).length true, rfl, sqL (by rw [hL, List.map_replicate]), ?_⟩
    rw [all_rep]
    exact k _ s
theorem pure_is_rising (h : sp_is_rising K vs H Q E) : t_is_rising K { nx := fun _ H' => Q .non H', rt := Q } (start N_is_rising vs) H := by
  obtain ⟨r, ns, rfl, hr, few, pw, k⟩ := h
  refine ⟨_, rfl, r, ns, rfl, hr, few, fun H' s => ⟨_, rfl, iteT ⟨_, rfl, r, ns.map V.int, rfl, .inr (s _ _ hr), by rw [List.length_map]; omega, fun i x y hx hy => ?_, fun H'' s2 => k _ (s.trans s2)⟩⟩⟩
  rw [List.getElem?_map] at hx hy
  cases e1 : ns[i]? with
  | none => rw [e1] at hx; cases hx
  | some a =>
    cases e2 : ns[i + 1]? with
    | none => rw [e2] at hy; cases hy
    | some b =>
      rw [e1] at hx
      rw [e2] at hy
      cases Option.some.inj hx
      cases Option.some.inj hy
      obtain ⟨h1, e1⟩ := List.getElem?_eq_some_iff.mp e1
      obtain ⟨h2, e2⟩ := List.getElem?_eq_some_iff.mp e2
      have := List.pairwise_iff_getElem.mp pw i (i + 1) h1 h2 (Nat.lt_succ_self _)
      rw [e1, e2] at this
      exact this
theorem pure_is_stamp (h : sp_is_stamp K vs H Q E) : t_is_stamp K { nx := fun _ H' => Q .non H', rt := Q } (start N_is_stamp vs) H := by
  obtain ⟨s, rfl, h0, h1, k⟩ := h
  refine ⟨_, rfl, s, rfl, _, rfl, iteT ⟨_, rfl, _, _, rfl, rfl, _, rfl, ?_⟩⟩
  rw [decide_eq_true h0]
  refine iteT ⟨_, _, rfl, rfl, ?_⟩
  exact blT (Q := Q) h1 k
theorem pure_is_version_form (h : sp_is_version_form K vs H Q E) : t_is_version_form K { nx := fun _ H' => Q .non H', rt := Q } (start N_is_version_form vs) H := by
  obtain ⟨a, ps, r, s, rfl, ⟨p, ha, hp⟩, ⟨f1, f2, f3, f4⟩, k⟩ := h
  refine ⟨_, rfl, lenT ha ⟨rfl, _, rfl, iteF ⟨_, rfl, ixT ha rfl ⟨p, ps, rfl, hp, by omega, f2, fun H' s1 => ⟨_, rfl, iteF ?_⟩⟩⟩⟩⟩
  refine ⟨_, rfl, ixT (s1 _ _ ha) rfl (lenT (s1 _ _ hp) ⟨_, _, rfl, rfl, _, rfl, ?_⟩)⟩
  rw [decide_eq_true (show ((ps.map V.int).length : Int) ≤ 4 by rw [List.length_map]; omega)]
  refine iteT ⟨_, rfl, ixT (s1 _ _ ha) rfl ⟨r, rfl, _, rfl, iteT ⟨_, rfl, ixT (s1 _ _ ha) rfl ⟨s, rfl, f3, f4, k _ s1⟩⟩⟩⟩
theorem pure_is_content_form (h : sp_is_content_form K vs H Q E) : t_is_content_form K { nx := fun _ H' => Q .non H', rt := Q } (start N_is_content_form vs) H := by
  obtain ⟨a, c, rfl, ha, f, k⟩ := h
  have ww : ∀ {x y : Str}, x ≠ y → decide (V.str x = V.str y) = false := fun {x y} h => decide_eq_false fun e => h (by injection e)
  cases c with
  | leaf rows =>
    obtain ⟨r, h1, h2⟩ := ha
    refine ⟨_, rfl, isi (.base (.tup h1)) k_tt ⟨_, rfl, iteF ⟨_, rfl, lenT h1 ⟨rfl, _, rfl, iteF ⟨_, rfl, ixT h1 rfl ⟨rfl, _, rfl, ?_⟩⟩⟩⟩⟩⟩
    rw [decide_eq_true rfl]
    refine iteT ⟨_, rfl, lenT h1 ⟨rfl, _, rfl, iteT ⟨_, rfl, ixT h1 rfl ⟨r, rows, rfl, h2, f.1, f.2, k⟩⟩⟩⟩
  | tree es =>
    obtain ⟨r, as, h1, h2, h3, h4⟩ := ha
    refine ⟨_, rfl, isi (.base (.tup h1)) k_tt ⟨_, rfl, iteF ⟨_, rfl, lenT h1 ⟨rfl, _, rfl, iteF ⟨_, rfl, ixT h1 rfl ⟨rfl, _, rfl, ?_⟩⟩⟩⟩⟩⟩
    rw [ww wv_lt.symm]
    refine iteF ⟨_, rfl, ixT h1 rfl ⟨rfl, _, rfl, ?_⟩⟩
    rw [decide_eq_true rfl]
    refine iteT ⟨_, rfl, lenT h1 ⟨rfl, _, rfl, iteT ⟨_, rfl, ixT h1 rfl ⟨r, as, es, rfl, h2, h3, h4, f.1, f.2.1, f.2.2, k⟩⟩⟩⟩
  | ver ps r s =>
    obtain ⟨p, h1, h2⟩ := id ha
    refine ⟨_, rfl, isi (.base (.tup h1)) k_tt ⟨_, rfl, iteF ⟨_, rfl, lenT h1 ⟨rfl, _, rfl, iteF ⟨_, rfl, ixT h1 rfl ⟨rfl, _, rfl, ?_⟩⟩⟩⟩⟩⟩
    rw [ww wv_lv.symm]
    refine iteF ⟨_, rfl, ixT h1 rfl ⟨rfl, _, rfl, ?_⟩⟩
    rw [ww wv_tv.symm]
    refine iteF ⟨_, rfl, ixT h1 rfl ⟨rfl, _, rfl, ?_⟩⟩
    rw [decide_eq_true rfl]
    exact iteT ⟨_, rfl, a, ps, r, s, rfl, ha, f, k⟩
end
end Fw

set_option Elab.async false
set_option linter.all false
set_option maxRecDepth 100000
set_option maxHeartbeats 4000000
/-! The book's methods, where nothing is refused. -/
namespace Fw
open PySem L2 RZ RT
section
variable [HasW]
def sp_Book_init (K : PySem.W.Frag) : Sp := fun vs H Q _ => ∃ (x dx : Addr), vs = [.ref x] ∧ BkC K ∧ H x = some (.ins (He.ga K "Book") dx []) ∧
  ∀ (b : BkA) (H' : Hp), b.B = x → (∀ a o, H a = some o → a ≠ x → H' a = some o) → H b.L = none → H b.E = none → H b.G = none → BkAt K H' b [] [] → Q .non H'
def sp_Book_len (K : PySem.W.Frag) : Sp := fun vs H Q _ => ∃ (b : BkA) (cs : List Ct) (as : List Addr), vs = [.ref b.B] ∧ BkAt K H b cs as ∧ Q (.int (cs.length : Nat)) H
def sp_Book_is_name (K : PySem.W.Frag) : Sp := fun vs H Q _ => ∃ (b : BkA) (cs : List Ct) (as : List Addr) (i : Int), vs = [.ref b.B, .int i] ∧ BkAt K H b cs as ∧ Q (.bl (decide (0 ≤ i) && decide (i < (cs.length : Nat)))) H
def sp_Book_thing (K : PySem.W.Frag) : Sp := fun vs H Q _ => ∃ (b : BkA) (cs : List Ct) (as : List Addr) (i : Nat) (a : Addr), vs = [.ref b.B, .int (i : Int)] ∧ BkAt K H b cs as ∧ as[i]? = some a ∧ Q (.ref a) H
def sp_Book_kind (K : PySem.W.Frag) : Sp := fun vs H Q _ => ∃ (b : BkA) (cs : List Ct) (as : List Addr) (i : Nat) (c : Ct), vs = [.ref b.B, .int (i : Int)] ∧ BkAt K H b cs as ∧ cs[i]? = some c ∧ Q (.str c.word) H
def sp_Book_parts (K : PySem.W.Frag) : Sp := fun vs H Q _ => ∃ (b : BkA) (cs : List Ct) (as : List Addr) (i : Nat) (c : Ct), vs = [.ref b.B, .int (i : Int)] ∧ BkAt K H b cs as ∧ cs[i]? = some c ∧
  ∀ (r : Addr) (H' : Hp), Same H H' → H' r = some (.tup (c.parts.map V.int)) → Q (.ref r) H'
def sp_Book_has_kinds (K : PySem.W.Frag) : Sp := fun vs H Q _ => ∃ (b : BkA) (cs : List Ct) (as : List Addr) (n q : Addr) (ns : List Int) (ks : List Str), vs = [.ref b.B, .ref n, .ref q] ∧ BkAt K H b cs as ∧ (H n = some (.lst (ns.map V.int)) ∨ H n = some (.tup (ns.map V.int))) ∧ ns.length ≤ 1000 ∧ H q = some (.tup (ks.map V.str)) ∧
  ∀ H', Same H H' → Q (.bl (ns.all (hasK cs ks))) H'
def sp_Book_depth (K : PySem.W.Frag) : Sp := fun vs H Q _ => ∃ (b : BkA) (ds : List Int) (a : Addr) (c : Ct), vs = [.ref b.B, .ref a] ∧ BkC K ∧ BO K H b ∧ H b.E = some (.lst (ds.map V.int)) ∧ CtAt H a c ∧ c.form ∧ (∀ es, c = .tree es → ∀ e ∈ es, 0 ≤ e.2 ∧ e.2.toNat < ds.length) ∧
  ∀ H', Same H H' → Q (.int (depOf ds c)) H'
def sp_Book_is_content (K : PySem.W.Frag) : Sp := fun vs H Q _ => ∃ (b : BkA) (cs : List Ct) (as : List Addr) (a : Addr) (c : Ct), vs = [.ref b.B, .ref a] ∧ BkAt K H b cs as ∧ CtAt H a c ∧ c.form ∧ ∀ H', Same H H' → Q (.bl (c.inB cs)) H'
def sp_Book_give_next (K : PySem.W.Frag) : Sp := fun vs H Q _ => ∃ (b : BkA) (cs : List Ct) (as : List Addr) (a : Addr) (c : Ct), vs = [.ref b.B, .ref a] ∧ BkAt K H b cs as ∧ CtAt H a c ∧ c.form ∧ c.inB cs = true ∧ c ∉ cs ∧ cs.length < 400 ∧
  ∀ H', Kb b H H' → BkAt K H' b (cs ++ [c]) (as ++ [a]) → Q .non H'
def sp_Book_named (K : PySem.W.Frag) : Sp := fun vs H Q _ => ∃ (b : BkA) (cs : List Ct) (as : List Addr) (a : Addr) (c : Ct), vs = [.ref b.B, .ref a] ∧ BkAt K H b cs as ∧ CtAt H a c ∧ c.form ∧ c.inB cs = true ∧ (c ∉ cs → cs.length < 400) ∧
  (∀ (i : Nat) (H' : Hp), cs[i]? = some c → Same H H' → Q (.int (i : Int)) H') ∧ (c ∉ cs → ∀ H', Kb b H H' → BkAt K H' b (cs ++ [c]) (as ++ [a]) → Q (.int (cs.length : Nat)) H')
def sp_Book_name_of (K : PySem.W.Frag) : Sp := fun vs H Q _ => ∃ (b : BkA) (cs : List Ct) (as : List Addr) (a : Addr) (c : Ct), vs = [.ref b.B, .ref a] ∧ BkAt K H b cs as ∧ CtAt H a c ∧ c.form ∧
  (∀ (i : Nat) (H' : Hp), cs[i]? = some c → Same H H' → Q (.int (i : Int)) H') ∧ (c ∉ cs → ∀ H', Same H H' → Q .non H')
end
section
variable [HasW] {K : PySem.W.Frag} {vs : List V} {H : Hp} {Q : VK} {E : XK}
theorem len_Book_init (h : sp_Book_init K vs H Q E) : vs.length = 1 := by obtain ⟨_, _, rfl, _⟩ := h; rfl
theorem len_Book_len (h : sp_Book_len K vs H Q E) : vs.length = 1 := by obtain ⟨_, _, _, rfl, _⟩ := h; rfl
theorem len_Book_is_name (h : sp_Book_is_name K vs H Q E) : vs.length = 2 := by obtain ⟨_, _, _, _, rfl, _⟩ := h; rfl
theorem len_Book_thing (h : sp_Book_thing K vs H Q E) : vs.length = 2 := by obtain ⟨_, _, _, _, _, rfl, _⟩ := h; rfl
theorem len_Book_kind (h : sp_Book_kind K vs H Q E) : vs.length = 2 := by obtain ⟨_, _, _, _, _, rfl, _⟩ := h; rfl
theorem len_Book_parts (h : sp_Book_parts K vs H Q E) : vs.length = 2 := by obtain ⟨_, _, _, _, _, rfl, _⟩ := h; rfl
theorem len_Book_has_kinds (h : sp_Book_has_kinds K vs H Q E) : vs.length = 3 := by obtain ⟨_, _, _, _, _, _, _, rfl, _⟩ := h; rfl
theorem len_Book_depth (h : sp_Book_depth K vs H Q E) : vs.length = 2 := by obtain ⟨_, _, _, _, rfl, _⟩ := h; rfl
theorem len_Book_is_content (h : sp_Book_is_content K vs H Q E) : vs.length = 2 := by obtain ⟨_, _, _, _, _, rfl, _⟩ := h; rfl
theorem len_Book_give_next (h : sp_Book_give_next K vs H Q E) : vs.length = 2 := by obtain ⟨_, _, _, _, _, rfl, _⟩ := h; rfl
theorem len_Book_named (h : sp_Book_named K vs H Q E) : vs.length = 2 := by obtain ⟨_, _, _, _, _, rfl, _⟩ := h; rfl
theorem len_Book_name_of (h : sp_Book_name_of K vs H Q E) : vs.length = 2 := by obtain ⟨_, _, _, _, _, rfl, _⟩ := h; rfl
end
section
variable [HasW]
abbrev N_Book_init : List Str := ["self"]
def t_Book_init (K : PySem.W.Frag) : TS := (tSeq (sFld K (tVar 0) (tLst tNil) "contents")
    (tSeq (sFld K (tVar 0) (tLst tNil) "depths")
    (sFld K (tVar 0) tNNew "given")))
abbrev N_Book_len : List Str := ["self"]
def t_Book_len (K : PySem.W.Frag) : TS := (tRet (tCB (fLen K) (tCons (tFld K (tVar 0) "contents") tNil)))
abbrev N_Book_is_name : List Str := ["self", "thing"]
def t_Book_is_name (K : PySem.W.Frag) : TS := (tRet (tAndV (tCall (sp_is_intI K) [] E0 (tCons (tVar 1) tNil)) (tChain rLeI rLtI (tC (.int 0)) (tVar 1) (tCB (fLen K) (tCons (tFld K (tVar 0) "contents") tNil)))))
abbrev N_Book_thing : List Str := ["self", "name"]
def t_Book_thing (K : PySem.W.Frag) : TS := (tSeq (tIfS (tNot (tB (tMeth (He.ga K "Book") "is_name" (sp_Book_is_name K) [] E0 (tVar 0) (tCons (tVar 1) tNil)))) tNever tNext)
    (tRet (tOp (rIx K) (tFld K (tVar 0) "contents") (tVar 1))))
abbrev N_Book_kind : List Str := ["self", "name"]
def t_Book_kind (K : PySem.W.Frag) : TS := (tRet (tOp (rIx K) (tMeth (He.ga K "Book") "thing" (sp_Book_thing K) [] E0 (tVar 0) (tCons (tVar 1) tNil)) (tC (.int 0))))
abbrev N_Book_parts : List Str := ["self", "name", "content", "label", "part"]
def t_Book_parts (K : PySem.W.Frag) : TS := (tSeq (tAsg (tMeth (He.ga K "Book") "thing" (sp_Book_thing K) [] E0 (tVar 0) (tCons (tVar 1) tNil)) (gName 2))
    (tSeq (tIfS (tTest (tOp rEq (tOp (rIx K) (tVar 2) (tC (.int 0))) (tC (.str "tree")))) (tRet (tCB (fTupleOf K) (tCons (tLc (iTup K (tOp (rIx K) (tVar 2) (tC (.int 1)))) (gTup K 2 (gCons (gName 3) (gCons (gName 4) gNil))) tYes (tVar 4) [3, 4]) tNil))) tNext)
    (tSeq (tIfS (tTest (tOp rEq (tOp (rIx K) (tVar 2) (tC (.int 0))) (tC (.str "version")))) (tRet (tOp (rCatA K) (tOp (rIx K) (tVar 2) (tC (.int 1))) (tTup (tCons (tOp (rIx K) (tVar 2) (tC (.int 2))) tNil)))) tNext)
    (tRet (tTup tNil)))))
abbrev N_Book_has_kinds : List Str := ["self", "names", "kinds", "name"]
def t_Book_has_kinds (K : PySem.W.Frag) : TS := (tRet (tCB (rAll K) (tCons (tLc (iOr (iList K (tVar 1)) (iTup K (tVar 1))) (gName 3) tYes (tAndV (tMeth (He.ga K "Book") "is_name" (sp_Book_is_name K) [] E0 (tVar 0) (tCons (tVar 3) tNil)) (tOp (rIn K false) (tOp (rIx K) (tOp (rIx K) (tFld K (tVar 0) "contents") (tVar 3)) (tC (.int 0))) (tVar 2))) [3]) tNil)))
abbrev N_Book_depth : List Str := ["self", "content", "label", "part"]
def t_Book_depth (K : PySem.W.Frag) : TS := (tSeq (tIfS (tTest (tOp rNe (tOp (rIx K) (tVar 1) (tC (.int 0))) (tC (.str "tree")))) (tRet (tC (.int 0))) tNext)
    (tRet (tOp rAddI (tC (.int 1)) (tCKw (rMaxD0 K) (tCons (tLc (iTup K (tOp (rIx K) (tVar 1) (tC (.int 1)))) (gTup K 2 (gCons (gName 2) (gCons (gName 3) gNil))) tYes (tOp (rIx K) (tFld K (tVar 0) "depths") (tVar 3)) [2, 3]) tNil) (tCons (tC (.int 0)) tNil)))))
abbrev N_Book_is_content : List Str := ["self", "thing", "label", "part"]
def t_Book_is_content (K : PySem.W.Frag) : TS := (tSeq (tIfS (tNot (tB (tCall (sp_is_content_form K) [] E0 (tCons (tVar 1) tNil)))) (tRet (tC (.bl false))) tNext)
    (tSeq (tIfS (tTest (tOp rEq (tOp (rIx K) (tVar 1) (tC (.int 0))) (tC (.str "tree")))) (tRet (tAndV (tMeth (He.ga K "Book") "has_kinds" (sp_Book_has_kinds K) [] E0 (tVar 0) (tCons (tLc (iTup K (tOp (rIx K) (tVar 1) (tC (.int 1)))) (gTup K 2 (gCons (gName 2) (gCons (gName 3) gNil))) tYes (tVar 3) [2, 3]) (tCons (tTup (tCons (tC (.str "leaf")) (tCons (tC (.str "tree")) tNil))) tNil))) (tOp rLeI (tMeth (He.ga K "Book") "depth" (sp_Book_depth K) [] E0 (tVar 0) (tCons (tVar 1) tNil)) (tC (.int 8))))) tNext)
    (tSeq (tIfS (tTest (tOp rEq (tOp (rIx K) (tVar 1) (tC (.int 0))) (tC (.str "version")))) (tRet (tAndV (tMeth (He.ga K "Book") "has_kinds" (sp_Book_has_kinds K) [] E0 (tVar 0) (tCons (tOp (rIx K) (tVar 1) (tC (.int 1))) (tCons (tTup (tCons (tC (.str "version")) tNil)) tNil))) (tMeth (He.ga K "Book") "has_kinds" (sp_Book_has_kinds K) [] E0 (tVar 0) (tCons (tLst (tCons (tOp (rIx K) (tVar 1) (tC (.int 2))) tNil)) (tCons (tTup (tCons (tC (.str "tree")) tNil)) tNil))))) tNext)
    (tRet (tC (.bl true))))))
abbrev N_Book_give_next : List Str := ["self", "content"]
def t_Book_give_next (K : PySem.W.Frag) : TS := (tSeq (tIfS (tTest (tOp rGeI (tCB (fLen K) (tCons (tFld K (tVar 0) "contents") tNil)) (tC (.int 400)))) tNever tNext)
    (tSeq (sNPut (tFld K (tVar 0) "given") (tVar 1) (tCB (fLen K) (tCons (tFld K (tVar 0) "contents") tNil)))
    (tSeq (tDrop (tBM K "list" rAppend (tFld K (tVar 0) "depths") (tCons (tMeth (He.ga K "Book") "depth" (sp_Book_depth K) [] E0 (tVar 0) (tCons (tVar 1) tNil)) tNil)))
    (tDrop (tBM K "list" rAppend (tFld K (tVar 0) "contents") (tCons (tVar 1) tNil))))))
abbrev N_Book_named : List Str := ["self", "content"]
def t_Book_named (K : PySem.W.Frag) : TS := (tSeq (tIfS (tNot (tB (tMeth (He.ga K "Book") "is_content" (sp_Book_is_content K) [] E0 (tVar 0) (tCons (tVar 1) tNil)))) tNever tNext)
    (tSeq (tIfS (tB (tNNotIn (tVar 1) (tFld K (tVar 0) "given"))) (tDrop (tMeth (He.ga K "Book") "give_next" (sp_Book_give_next K) [] E0 (tVar 0) (tCons (tVar 1) tNil))) tNext)
    (tRet (tNGet (tFld K (tVar 0) "given") (tVar 1)))))
abbrev N_Book_name_of : List Str := ["self", "thing"]
def t_Book_name_of (K : PySem.W.Frag) : TS := (tRet (tIf (tB (tMeth (He.ga K "Book") "is_content" (sp_Book_is_content K) [] E0 (tVar 0) (tCons (tVar 1) tNil))) (tNGet1 (tFld K (tVar 0) "given") (tVar 1)) (tC .non)))
end
theorem strD {x y : Str} : decide (V.str x = V.str y) = decide (x = y) := by
  by_cases h : x = y
  · rw [h, decide_eq_true rfl, decide_eq_true rfl]
  · rw [decide_eq_false h, decide_eq_false fun e => h (by injection e)]
theorem strN {x y : Str} (h : x ≠ y) : decide (V.str x = V.str y) = false := decide_eq_false fun e => h (by injection e)
theorem eqV_str (x y : Str) : eqV (.str x) (.str y) = (y == x) := by
  show (x == y) = (y == x)
  by_cases h : x = y
  · rw [h]
  · rw [beq_eq_false_iff_ne.mpr h, beq_eq_false_iff_ne.mpr fun e => h e.symm]
theorem inV_strs (w : Str) : ∀ ns : List Str, inV (.str w) (ns.map V.str) = ns.contains w
  | [] => rfl
  | n :: r => by
    have ih := inV_strs w r
    unfold inV at ih ⊢
    rw [List.map_cons, List.any_cons, ih, List.contains_cons, eqV_str]
theorem flat_strs : ∀ ns : List Str, (ns.map V.str).all flatV = true
  | [] => rfl
  | n :: r => by rw [List.map_cons, List.all_cons, flat_strs r]; rfl
theorem CtAt.fst {K : PySem.W.Frag} {H : Hp} {a : Addr} {c : Ct} {Q : VK} (h : CtAt H a c) (q : Q (.str c.word) H) : rIx K (.ref a) (.int 0) H Q := by
  cases c with
  | leaf rows => obtain ⟨r, h1, h2⟩ := h; exact ixT h1 rfl q
  | tree es => obtain ⟨r, as, h1, h2⟩ := h; exact ixT h1 rfl q
  | ver ps r s => obtain ⟨r, h1, h2⟩ := h; exact ixT h1 rfl q
theorem BkAt.lenC [HasW] {K : PySem.W.Frag} {H : Hp} {b : BkA} {cs : List Ct} {as : List Addr} {Q : VK} {σ : L2.St} {i : Nat} (k : BkAt K H b cs as) (e : σ[i]? = some (some (.ref b.B))) (q : Q (.int (cs.length : Nat)) H) : tCB (fLen K) (tCons (tFld K (tVar i) "contents") tNil) σ H Q :=
  k.fL e (show tNil σ H fun ys H2 => fLen K (.ref b.L :: ys) H2 Q from lenL k.hL (by rw [List.length_map, k.at_.1]; exact q))
theorem dmax_eq (l : List Int) : dmax l = maxD 0 l := by cases l <;> rfl
theorem BO.fE {K : PySem.W.Frag} {H : Hp} {b : BkA} {Q : VK} {σ : L2.St} {i : Nat} (bc : BkC K) (o : BO K H b) (e : σ[i]? = some (some (.ref b.B))) (q : Q (.ref b.E) H) : tFld K (tVar i) "depths" σ H Q := by
  obtain ⟨dx, fs, hx, h1, h2, h3, h4⟩ := o
  exact ⟨_, e, b.B, _, dx, fs, _, rfl, hx, bc.cl, bc.n2, h2, q⟩
theorem BO.fL {K : PySem.W.Frag} {H : Hp} {b : BkA} {Q : VK} {σ : L2.St} {i : Nat} (bc : BkC K) (o : BO K H b) (e : σ[i]? = some (some (.ref b.B))) (q : Q (.ref b.L) H) : tFld K (tVar i) "contents" σ H Q := by
  obtain ⟨dx, fs, hx, h1, h2, h3, h4⟩ := o
  exact ⟨_, e, b.B, _, dx, fs, _, rfl, hx, bc.cl, bc.n1, h1, q⟩
theorem BO.me {K : PySem.W.Frag} {H : Hp} {b : BkA} {Q : VK} {σ : L2.St} {i : Nat} {m : Str} {sp : Sp} {E : XK} {ta : TA} (o : BO K H b) (hm : m ∈ (["named", "name_of", "thing", "kind", "parts", "parents", "root", "stamp", "entries", "leaf_rows", "is_name", "is_version", "is_content", "has_kinds", "depth", "give_next"] : List Str)) (e : σ[i]? = some (some (.ref b.B))) (q : ta σ H fun vs H2 => sp (.ref b.B :: (vs ++ [])) H2 Q E) : tMeth (He.ga K "Book") m sp [] E (tVar i) ta σ H Q := by
  obtain ⟨dx, fs, hx, h1, h2, h3, h4⟩ := o
  exact ⟨_, e, b.B, dx, fs, rfl, hx, h4 m hm, q⟩
theorem ints_all : ∀ (ns : List Int) (p : Int → Bool), ((ns.map fun n => p n).all id) = ns.all p
  | [], _ => rfl
  | n :: ns, p => by rw [List.map_cons, List.all_cons, List.all_cons, ints_all ns p]; rfl
section
variable [HasW] {K : PySem.W.Frag} {vs : List V} {H : Hp} {Q : VK} {E : XK}
theorem pure_Book_init (h : sp_Book_init K vs H Q E) : t_Book_init K { nx := fun _ H' => Q .non H', rt := Q } (start N_Book_init vs) H := by
  obtain ⟨x, dx, rfl, bc, hx, k⟩ := h
  refine ⟨by decide, fun L nL => ?_⟩
  have nxL : x ≠ L := ne_of_none hx nL
  refine ⟨_, rfl, x, _, dx, _, rfl, updN nxL hx, bc.cl, bc.n1, by decide, ?_⟩
  refine ⟨by decide, fun E0 nE => ?_⟩
  have nE0 : H E0 = none := by
    by_cases e : E0 = x
    · rw [e, updS] at nE; cases nE
    · rw [upd_ne e] at nE
      by_cases e2 : E0 = L
      · rw [e2, updS] at nE; cases nE
      · rw [upd_ne e2] at nE; exact nE
  have nxE : x ≠ E0 := ne_of_none hx nE0
  have nLE : L ≠ E0 := by
    intro e
    rw [← e, updN nxL.symm updS] at nE
    cases nE
  refine ⟨_, rfl, x, _, dx, _, rfl, updN nxE updS, bc.cl, bc.n2, by show (1 : Nat) < 1000; decide, ?_⟩
  refine fun G nG => ?_
  have nxG : x ≠ G := by intro e; rw [← e, updS] at nG; cases nG
  have nEG : E0 ≠ G := by intro e; rw [← e, updN nxE.symm updS] at nG; cases nG
  have nLG : L ≠ G := by intro e; rw [← e, updN nxL.symm (updN nLE (updN nxL.symm updS))] at nG; cases nG
  have nG0 : H G = none := by
    rw [upd_ne nxG.symm, upd_ne nEG.symm, upd_ne nxG.symm, upd_ne nLG.symm] at nG
    exact nG
  refine ⟨_, rfl, x, _, dx, _, rfl, updN nxG updS, bc.cl, bc.n3, by show (2 : Nat) < 1000; decide, ?_⟩
  refine k ⟨x, L, E0, G⟩ _ rfl (fun a o e n => updN n (updN (ne_of_none e nG0) (updN n (updN (ne_of_none e nE0) (updN n (updN (ne_of_none e nL) e)))))) nL nE0 nG0 ?_
  refine ⟨bc, ⟨dx, _, updS, rfl, rfl, rfl, ?_⟩, updN nxL.symm (updN nLG (updN nxL.symm (updN nLE (updN nxL.symm updS)))), updN nxE.symm (updN nEG (updN nxE.symm updS)), updN nxG.symm updS, CsAt.nil, List.nodup_nil, Nat.zero_le _, (fun c h => nomatch h), nLE⟩
  intro m hm
  simp only [List.mem_cons, List.not_mem_nil, or_false] at hm
  rcases hm with rfl | rfl | rfl | rfl | rfl | rfl | rfl | rfl | rfl | rfl | rfl | rfl | rfl | rfl | rfl | rfl <;> rfl
theorem pure_Book_len (h : sp_Book_len K vs H Q E) : t_Book_len K { nx := fun _ H' => Q .non H', rt := Q } (start N_Book_len vs) H := by
  obtain ⟨b, cs, as, rfl, bk, k⟩ := h
  exact bk.lenC rfl k
theorem pure_Book_is_name (h : sp_Book_is_name K vs H Q E) : t_Book_is_name K { nx := fun _ H' => Q .non H', rt := Q } (start N_Book_is_name vs) H := by
  obtain ⟨b, cs, as, i, rfl, bk, k⟩ := h
  refine ⟨_, rfl, i, rfl, _, rfl, iteT ⟨_, rfl, _, _, rfl, rfl, _, rfl, ?_⟩⟩
  by_cases h : (0 : Int) ≤ i
  · rw [decide_eq_true h] at k ⊢
    exact iteT (bk.lenC rfl ⟨_, _, rfl, rfl, k⟩)
  · rw [decide_eq_false h] at k ⊢
    exact iteF k
theorem pure_Book_thing (h : sp_Book_thing K vs H Q E) : t_Book_thing K { nx := fun _ H' => Q .non H', rt := Q } (start N_Book_thing vs) H := by
  obtain ⟨b, cs, as, i, a, rfl, bk, hi, k⟩ := h
  have hl := (List.getElem?_eq_some_iff.mp hi).1
  refine bk.me (by decide) rfl ⟨_, rfl, b, cs, as, _, rfl, bk, _, rfl, ?_⟩
  rw [decide_eq_true (show (0 : Int) ≤ (i : Int) by omega), decide_eq_true (show (i : Int) < (cs.length : Nat) by rw [← bk.at_.1]; omega)]
  obtain ⟨dx, fs, hx, h1, _⟩ := id bk.bo
  exact iteF ⟨_, rfl, b.B, _, dx, fs, _, rfl, hx, bk.bc.cl, bk.bc.n1, h1, _, rfl, ixL bk.hL (atI_nat (by rw [List.getElem?_map, hi]; rfl)) k⟩
theorem pure_Book_kind (h : sp_Book_kind K vs H Q E) : t_Book_kind K { nx := fun _ H' => Q .non H', rt := Q } (start N_Book_kind vs) H := by
  obtain ⟨b, cs, as, i, c, rfl, bk, hi, k⟩ := h
  obtain ⟨a, ha, hc⟩ := bk.at_.get hi
  exact bk.me (by decide) rfl ⟨_, rfl, b, cs, as, i, a, rfl, bk, ha, hc.fst k⟩
theorem pure_Book_parts (h : sp_Book_parts K vs H Q E) : t_Book_parts K { nx := fun _ H' => Q .non H', rt := Q } (start N_Book_parts vs) H := by
  obtain ⟨b, cs, as, i, c, rfl, bk, hi, k⟩ := h
  obtain ⟨a, ha, hc⟩ := bk.at_.get hi
  have fo := (bk.ok c (List.mem_of_getElem? hi)).1
  refine bk.me (by decide) rfl ⟨_, rfl, b, cs, as, i, a, rfl, bk, ha, ?_⟩
  refine ⟨_, rfl, hc.fst ⟨rfl, _, rfl, ?_⟩⟩
  cases c with
  | tree es =>
    obtain ⟨r, bs, h1, h2, h3, h4⟩ := hc
    have hz : es.length ≤ 20 := fo.1
    rw [show decide (V.str (Ct.tree es).word = V.str "tree") = true from decide_eq_true rfl]
    refine iteT ⟨_, rfl, ixT h1 rfl ⟨r, rfl, ⟨_, sqT h2⟩, fun L nL => ?_⟩⟩
    refine lc_pairs (ys := es.map fun e => V.int e.2) nL h2 h3 (by omega) (by rw [List.length_map]) h4 ?_ ?_
    · intro n e y H' R he hy s q
      rw [List.getElem?_map, he] at hy
      cases Option.some.inj hy
      exact ⟨rfl, _, rfl, q _ (Same.refl _)⟩
    · intro H' s hL
      refine ⟨L, _, rfl, .inl ⟨sqL hL, fun p np => k p _ (s.trans (samN np)) ?_⟩⟩
      rw [updS]
      show some (HO.tup (es.map fun e => V.int e.2)) = some (HO.tup ((es.map (·.2)).map V.int))
      rw [List.map_map]
      rfl
  | leaf rows =>
    obtain ⟨r, h1, h2⟩ := hc
    rw [show decide (V.str (Ct.leaf rows).word = V.str "tree") = false from strN wv_lt]
    refine iteF ⟨_, rfl, ixT h1 rfl ⟨rfl, _, rfl, ?_⟩⟩
    rw [strN wv_lv]
    exact iteF ⟨by show (0 : Nat) ≤ sizeLine; decide, fun p np => k p _ (samN np) updS⟩
  | ver ps r s =>
    obtain ⟨q, h1, h2⟩ := hc
    rw [show decide (V.str (Ct.ver ps r s).word = V.str "tree") = false from strN wv_tv.symm]
    refine iteF ⟨_, rfl, ixT h1 rfl ⟨rfl, _, rfl, ?_⟩⟩
    rw [decide_eq_true rfl]
    refine iteT ⟨_, rfl, ixT h1 rfl ⟨_, rfl, ixT h1 rfl ⟨by show (1 : Nat) ≤ sizeLine; decide, fun T nT => ?_⟩⟩⟩
    have hq := samN (o := .tup [.int r]) nT _ _ h2
    have e : ps.map V.int ++ [V.int r] = (Ct.ver ps r s).parts.map V.int := by
      show _ = (ps ++ [r]).map V.int
      rw [List.map_append]
      rfl
    have hz : ps.length ≤ 4 := fo.1
    refine ⟨q, T, _, _, rfl, rfl, sqT hq, sqT updS, ?_, fun e0 => ?_, fun _ z => (by cases z), fun _ _ p np => k p _ ((samN nT).trans (samN np)) (by rw [updS, e])⟩
    · rw [List.length_map]
      exact Nat.le_trans (show _ ≤ 1000 by rw [List.length_singleton]; omega) (by decide)
    · refine k T _ (samN nT) ?_
      rw [updS, ← e, e0]
      rfl
theorem pure_Book_has_kinds (h : sp_Book_has_kinds K vs H Q E) : t_Book_has_kinds K { nx := fun _ H' => Q .non H', rt := Q } (start N_Book_has_kinds vs) H := by
  obtain ⟨b, cs, as, n, q, ns, ks, rfl, bk, hn, hz, hq, k⟩ := h
  have step : ∀ (i : Nat) (x y : V) (H' : Hp) (R : VK), (ns.map V.int)[i]? = some x → (ns.map fun i => V.bl (hasK cs ks i))[i]? = some y → Same H H' → (∀ H'', Same H' H'' → R y H'') →
      tAndV (tMeth (He.ga K "Book") "is_name" (sp_Book_is_name K) [] E0 (tVar 0) (tCons (tVar 3) tNil)) (tOp (rIn K false) (tOp (rIx K) (tOp (rIx K) (tFld K (tVar 0) "contents") (tVar 3)) (tC (.int 0))) (tVar 2)) [some (.ref b.B), some (.ref n), some (.ref q), some x] H' R := by
    intro i x y H' R hx hy s r
    rw [List.getElem?_map] at hx hy
    cases e : ns[i]? with
    | none => rw [e] at hx; cases hx
    | some j =>
      rw [e] at hx hy
      cases Option.some.inj hx
      cases Option.some.inj hy
      have bk' := bk.same s
      refine bk'.me (by decide) rfl ⟨_, rfl, b, cs, as, j, rfl, bk', _, rfl, ?_⟩
      have r : ∀ H'', Same H' H'' → R (.bl (hasK cs ks j)) H'' := r
      unfold hasK at r
      by_cases h0 : (0 : Int) ≤ j
      · by_cases h1 : j < (cs.length : Nat)
        · rw [decide_eq_true h0, decide_eq_true h1] at r ⊢
          obtain ⟨m, rfl⟩ := Int.eq_ofNat_of_zero_le h0
          have hm : m < cs.length := by omega
          obtain ⟨a, ha, hc⟩ := bk'.at_.get (List.getElem?_eq_getElem hm)
          obtain ⟨dx, fs, hx, hf1, _⟩ := id bk'.bo
          refine iteT ⟨_, rfl, b.B, _, dx, fs, _, rfl, hx, bk.bc.cl, bk.bc.n1, hf1, _, rfl, ixL bk'.hL (atI_nat (by rw [List.getElem?_map, ha]; rfl)) (hc.fst ⟨_, rfl, q, _, rfl, .inr (sqT (s _ _ hq)), rfl, flat_strs _, ?_⟩)⟩
          rw [inV_strs]
          have e2 : (cs.getD (Int.toNat (m : Int)) (.leaf [])) = cs[m] := by
            rw [Int.toNat_natCast, List.getD_eq_getElem?_getD, List.getElem?_eq_getElem hm]
            rfl
          rw [e2] at r
          exact r _ (Same.refl _)
        · rw [decide_eq_true h0, decide_eq_false h1] at r ⊢
          exact iteF (r _ (Same.refl _))
      · rw [decide_eq_false h0] at r ⊢
        exact iteF (r _ (Same.refl _))
  have fin : ∀ (H' : Hp) (L : Addr), Same H H' → H' L = some (.lst (ns.map fun i => V.bl (hasK cs ks i))) → rAll K [V.ref L] H' Q := fun H' L s hL => by
    refine ⟨L, ns.map (hasK cs ks), rfl, sqL (by rw [hL, List.map_map]; rfl), ?_⟩
    rw [show (ns.map (hasK cs ks)).all id = ns.all (hasK cs ks) from ints_all ns _]
    exact k _ s
  rcases hn with hn | hn
  · refine .inl ⟨_, rfl, n, rfl, ⟨_, sqL hn⟩, fun L nL => ?_⟩
    refine lc_grow (walk_list (xs := ns.map V.int)) yAt (ys := ns.map fun i => V.bl (hasK cs ks i)) nL (by rw [List.length_map, List.length_map]) (by rw [List.length_map]; omega) (fun H' s => sqL (s _ _ hn)) ?_ ?_
    · rintro i x y H' R hi ⟨_, hx⟩ hy s r
      exact ⟨rfl, step i x y H' R hx hy s r⟩
    · intro H' s hL
      exact fin H' L s hL
  · refine .inr ⟨_, rfl, n, rfl, ⟨_, sqT hn⟩, fun L nL => ?_⟩
    refine lc_grow (walk_tup (xs := ns.map V.int)) yAt (ys := ns.map fun i => V.bl (hasK cs ks i)) nL (by rw [List.length_map, List.length_map]) (by rw [List.length_map]; omega) (fun H' s => sqT (s _ _ hn)) ?_ ?_
    · rintro i x y H' R hi ⟨_, hx⟩ hy s r
      exact ⟨rfl, step i x y H' R hx hy s r⟩
    · intro H' s hL
      exact fin H' L s hL
theorem pure_Book_depth (h : sp_Book_depth K vs H Q E) : t_Book_depth K { nx := fun _ H' => Q .non H', rt := Q } (start N_Book_depth vs) H := by
  obtain ⟨b, ds, a, c, rfl, bc, bo, hE, hc, fo, hp, k⟩ := h
  refine ⟨_, rfl, hc.fst ⟨rfl, _, rfl, ?_⟩⟩
  cases c with
  | leaf rows =>
    rw [show decide (V.str (Ct.leaf rows).word = V.str "tree") = false from strN wv_lt]
    exact iteT (k _ (Same.refl _))
  | ver ps r s =>
    rw [show decide (V.str (Ct.ver ps r s).word = V.str "tree") = false from strN wv_tv.symm]
    exact iteT (k _ (Same.refl _))
  | tree es =>
    obtain ⟨r, bs, h1, h2, h3, h4⟩ := hc
    have hz : es.length ≤ 20 := fo.1
    rw [show decide (V.str (Ct.tree es).word = V.str "tree") = true from decide_eq_true rfl]
    refine iteF ⟨_, rfl, ixT h1 rfl ⟨r, rfl, ⟨_, sqT h2⟩, fun L nL => ?_⟩⟩
    refine lc_pairs (ys := es.map fun e => V.int (ds.getD e.2.toNat 0)) nL h2 h3 (by omega) (by rw [List.length_map]) h4 ?_ ?_
    · intro n e y H' R he hy s q
      rw [List.getElem?_map, he] at hy
      cases Option.some.inj hy
      obtain ⟨p0, p1⟩ := hp es rfl e (List.mem_of_getElem? he)
      obtain ⟨m, hm⟩ := Int.eq_ofNat_of_zero_le p0
      rw [hm, Int.toNat_natCast] at p1
      have bo' : BO K H' b := by
        obtain ⟨dx, fs, hb, r⟩ := bo
        exact ⟨dx, fs, s _ _ hb, r⟩
      refine ⟨rfl, bo'.fE bc rfl ⟨_, rfl, ?_⟩⟩
      rw [hm]
      refine ixL (s _ _ hE) (atI_nat (by rw [List.getElem?_map, List.getElem?_eq_getElem p1]; rfl)) ?_
      have : R (.int (ds.getD e.2.toNat 0)) H' := q _ (Same.refl _)
      rw [hm, Int.toNat_natCast, List.getD_eq_getElem?_getD, List.getElem?_eq_getElem p1] at this
      exact this
    · intro H' s hL
      refine ⟨L, es.map fun e => ds.getD e.2.toNat 0, 0, rfl, rfl, sqL (by rw [hL, List.map_map]; rfl), _, _, rfl, rfl, ?_⟩
      rw [← dmax_eq]
      exact k _ s
theorem pure_Book_is_content (h : sp_Book_is_content K vs H Q E) : t_Book_is_content K { nx := fun _ H' => Q .non H', rt := Q } (start N_Book_is_content vs) H := by
  obtain ⟨b, cs, as, a, c, rfl, bk, hc, fo, k⟩ := h
  refine ⟨_, rfl, a, c, rfl, hc, fo, fun H1 s1 => ⟨_, rfl, iteF ?_⟩⟩
  have bk1 := bk.same s1
  have hc1 := hc.mono (TM.of s1)
  refine ⟨_, rfl, hc1.fst ⟨rfl, _, rfl, ?_⟩⟩
  cases c with
  | leaf rows =>
    rw [show decide (V.str (Ct.leaf rows).word = V.str "tree") = false from strN wv_lt]
    refine iteF ⟨_, rfl, hc1.fst ⟨rfl, _, rfl, ?_⟩⟩
    rw [show decide (V.str (Ct.leaf rows).word = V.str "version") = false from strN wv_lv]
    exact iteF (k _ s1)
  | tree es =>
    obtain ⟨r, bs, h1, h2, h3, h4⟩ := id hc1
    have hz : es.length ≤ 20 := fo.1
    rw [show decide (V.str (Ct.tree es).word = V.str "tree") = true from decide_eq_true rfl]
    refine iteT (bk1.me (by decide) rfl ⟨_, rfl, ixT h1 rfl ⟨r, rfl, ⟨_, sqT h2⟩, fun L nL => ?_⟩⟩)
    refine lc_pairs (ys := es.map fun e => V.int e.2) nL h2 h3 (by omega) (by rw [List.length_map]) h4 ?_ ?_
    · intro n e y H' R he hy s q
      rw [List.getElem?_map, he] at hy
      cases Option.some.inj hy
      exact ⟨rfl, _, rfl, q _ (Same.refl _)⟩
    · intro H2 s2 hL
      refine ⟨by show (2 : Nat) ≤ sizeLine; decide, fun T nT => ?_⟩
      have s3 : Same H1 (upd H2 T (.tup [.str "leaf", .str "tree"])) := s2.trans (samN nT)
      have bk3 := bk1.same s3
      refine ⟨b, cs, as, L, T, es.map (·.2), ["leaf", "tree"], rfl, bk3, .inl (samN nT _ _ (by rw [hL, List.map_map]; rfl)), by rw [List.length_map]; omega, updS, fun H4 s4 => ⟨_, rfl, ?_⟩⟩
      have s5 := s3.trans s4
      have bk5 := bk1.same s5
      have eA : (es.map (·.2)).all (hasK cs ["leaf", "tree"]) = es.all fun e => hasK cs ["leaf", "tree"] e.2 := by rw [List.all_map]; rfl
      have kk : ∀ H', Same H H' → Q (.bl (es.all (fun e => hasK cs ["leaf", "tree"] e.2) && decide (depOf (deps cs) (.tree es) ≤ 8))) H' := k
      rw [eA]
      cases hA : es.all (fun e => hasK cs ["leaf", "tree"] e.2) with
      | false =>
        refine iteF ?_
        have := kk _ (s1.trans s5)
        rw [hA] at this
        exact this
      | true =>
        refine iteT (bk5.bo.me (by decide) rfl ⟨_, rfl, b, deps cs, a, .tree es, rfl, bk5.bc, bk5.bo, bk5.hE, hc1.mono (TM.of s5), fo, fun es' e' e he => ?_, fun H6 s6 => ⟨_, _, rfl, rfl, ?_⟩⟩)
        · cases e'
          have := hasK_lt (List.all_eq_true.mp hA e he)
          rw [deps_len]
          exact this
        · have := kk _ (s1.trans (s5.trans s6))
          rw [hA] at this
          exact this
  | ver ps r s =>
    obtain ⟨p, h1, h2⟩ := id hc1
    have hz : ps.length ≤ 4 := fo.1
    rw [show decide (V.str (Ct.ver ps r s).word = V.str "tree") = false from strN wv_tv.symm]
    refine iteF ⟨_, rfl, hc1.fst ⟨rfl, _, rfl, ?_⟩⟩
    rw [show decide (V.str (Ct.ver ps r s).word = V.str "version") = true from decide_eq_true rfl]
    refine iteT (bk1.me (by decide) rfl ⟨_, rfl, ixT h1 rfl ⟨by show (1 : Nat) ≤ sizeLine; decide, fun T nT => ?_⟩⟩)
    have s2 : Same H1 (upd H1 T (.tup [.str "version"])) := samN nT
    have bk2 := bk1.same s2
    refine ⟨b, cs, as, p, T, ps, ["version"], rfl, bk2, .inr (s2 _ _ h2), by omega, updS, fun H3 s3 => ⟨_, rfl, ?_⟩⟩
    have s13 := s2.trans s3
    have bk3 := bk1.same s13
    have kk : ∀ H', Same H H' → Q (.bl (ps.all (hasK cs ["version"]) && hasK cs ["tree"] r)) H' := k
    cases hA : ps.all (hasK cs ["version"]) with
    | false =>
      refine iteF ?_
      have := kk _ (s1.trans s13)
      rw [hA] at this
      exact this
    | true =>
      refine iteT (bk3.me (by decide) rfl ⟨_, rfl, ixT (s13 _ _ h1) rfl ⟨by show (1 : Nat) ≤ sizeLine; decide, fun L nL => ⟨by show (1 : Nat) ≤ sizeLine; decide, fun T2 nT2 => ?_⟩⟩⟩)
      have s4 : Same H3 (upd (upd H3 L (.lst [.int r])) T2 (.tup [.str "tree"])) := (samN nL).trans (samN nT2)
      have bk4 := bk3.same s4
      refine ⟨b, cs, as, L, T2, [r], ["tree"], rfl, bk4, .inl (samN nT2 _ _ updS), by show (1 : Nat) ≤ 1000; decide, updS, fun H5 s5 => ?_⟩
      have := kk _ (s1.trans (s13.trans (s4.trans s5)))
      rw [hA] at this
      rw [List.all_cons, List.all_nil, Bool.and_true]
      exact this
theorem pure_Book_give_next (h : sp_Book_give_next K vs H Q E) : t_Book_give_next K { nx := fun _ H' => Q .non H', rt := Q } (start N_Book_give_next vs) H := by
  obtain ⟨b, cs, as, a, c, rfl, bk, hc, fo, inb, new, few, k⟩ := h
  refine bk.lenC rfl ⟨_, _, rfl, rfl, _, rfl, ?_⟩
  rw [decide_eq_false (show ¬ (400 : Int) ≤ ((cs.length : Nat) : Int) by omega)]
  refine iteF ?_
  refine bk.lenC (σ := [some (.ref b.B), some (.ref a)]) (i := 0) rfl ?_
  refine bk.fG (σ := [some (.ref b.B), some (.ref a)]) (i := 0) rfl ⟨_, rfl, b.G, _, rfl, ⟨ents 0 cs as, c.key, a, bk.hG, ents_keys 0 cs as bk.at_, rfl, hc.nkey, c.depth, ?_, rfl⟩, ?_⟩
  · exact Nat.lt_of_le_of_lt (Nat.le_trans (ents_len 0 cs as) bk.few) (by decide)
  rw [nPut_new (ents_none 0 cs as new)]
  have eS := ents_snoc 0 cs as c a bk.at_.1
  rw [Nat.zero_add] at eS
  rw [← eS]
  have kb1 : Kb b H (upd H b.G (ND b.G (ents 0 (cs ++ [c]) (as ++ [a])))) := Kb.refl.up (.inr (.inr rfl))
  have tm1 : TM H (upd H b.G (ND b.G (ents 0 (cs ++ [c]) (as ++ [a])))) := bk.tup kb1
  have bo1 := bk.boK kb1
  have hL1 : upd H b.G (ND b.G (ents 0 (cs ++ [c]) (as ++ [a]))) b.L = some (.lst (as.map V.ref)) := updN bk.neG.1 bk.hL
  have hE1 : upd H b.G (ND b.G (ents 0 (cs ++ [c]) (as ++ [a]))) b.E = some (.lst ((deps cs).map V.int)) := updN bk.neG.2 bk.hE
  have hG1 : upd H b.G (ND b.G (ents 0 (cs ++ [c]) (as ++ [a]))) b.G = some (ND b.G (ents 0 (cs ++ [c]) (as ++ [a]))) := updS
  generalize upd H b.G (ND b.G (ents 0 (cs ++ [c]) (as ++ [a]))) = H1 at kb1 tm1 bo1 hL1 hE1 hG1 ⊢
  obtain ⟨dx1, fs1, hx1, _, hf2, _, hf4⟩ := id bo1
  refine ⟨_, rfl, b.B, _, dx1, fs1, _, rfl, hx1, bk.bc.cl, bk.bc.n2, hf2, .inl ⟨rfl, _, sqL hE1⟩, _, rfl, b.B, dx1, fs1, rfl, hx1, hf4 "depth" (by decide), ⟨_, rfl, b, deps cs, a, c, rfl, bk.bc, bo1, hE1, hc.mono tm1, fo, fun es e' e he => ?_, fun H2 s2 => ?_⟩⟩
  · subst e'
    unfold Ct.inB at inb
    rw [Bool.and_eq_true] at inb
    have := hasK_lt (List.all_eq_true.mp inb.1 e he)
    rw [deps_len]
    exact this
  have lenD : ((deps cs).map V.int).length < sizeLine := by
    rw [List.length_map, deps_len]
    exact Nat.lt_of_le_of_lt bk.few (by decide)
  refine ⟨b.E, _, _, rfl, rfl, s2 _ _ hE1, lenD, ?_⟩
  have kb3 : Kb b H (upd H2 b.E (.lst ((deps cs).map V.int ++ [.int (depOf (deps cs) c)]))) := (kb1.trans (.same s2)).up (.inr (.inl rfl))
  have bo3 := bk.boK kb3
  obtain ⟨dx3, fs3, hx3, hg1, _⟩ := id bo3
  refine ⟨_, rfl, b.B, _, dx3, fs3, _, rfl, hx3, bk.bc.cl, bk.bc.n1, hg1, .inl ⟨rfl, _, sqL (updN bk.ne (s2 _ _ hL1))⟩, _, rfl, b.L, _, _, rfl, rfl, updN bk.ne (s2 _ _ hL1), ?_, ?_⟩
  · rw [List.length_map, bk.at_.1]
    exact Nat.lt_of_le_of_lt bk.few (by decide)
  have kb4 : Kb b H (upd (upd H2 b.E (.lst ((deps cs).map V.int ++ [.int (depOf (deps cs) c)]))) b.L (.lst (as.map V.ref ++ [.ref a]))) := kb3.up (.inl rfl)
  refine k _ kb4 ⟨bk.bc, bk.boK kb4, ?_, ?_, ?_, (bk.at_.mono (bk.tup kb4)).snoc (hc.mono (bk.tup kb4)), ?_, ?_, ?_, bk.ne⟩
  · rw [updS, List.map_append]
    rfl
  · rw [upd_ne bk.ne.symm, updS, deps_snoc, List.map_append]
    rfl
  · exact updN bk.neG.1.symm (updN bk.neG.2.symm (s2 _ _ hG1))
  · rw [List.nodup_append]
    exact ⟨bk.nd, by simp, fun x hx y hy e => new (by rw [List.mem_singleton.mp hy] at e; rw [← e]; exact hx)⟩
  · rw [List.length_append, List.length_singleton]
    omega
  · intro d hd
    rcases List.mem_append.mp hd with hd | hd
    · exact ⟨(bk.ok d hd).1, Ct.inB_mono (bk.ok d hd).2⟩
    · cases List.mem_singleton.mp hd
      exact ⟨fo, Ct.inB_mono inb⟩
theorem pure_Book_named (h : sp_Book_named K vs H Q E) : t_Book_named K { nx := fun _ H' => Q .non H', rt := Q } (start N_Book_named vs) H := by
  obtain ⟨b, cs, as, a, c, rfl, bk, hc, fo, inb, few, k1, k2⟩ := h
  refine bk.me (by decide) rfl ⟨_, rfl, b, cs, as, a, c, rfl, bk, hc, fo, fun H1 s1 => ⟨_, rfl, ?_⟩⟩
  rw [inb]
  have bk1 := bk.same s1
  have hc1 := hc.mono (TM.of s1)
  refine iteF ⟨_, rfl, bk1.fG rfl ⟨b.G, _, rfl, ⟨_, c.key, a, bk1.hG, ents_keys 0 cs as bk1.at_, rfl, hc1.nkey, c.depth, rfl⟩, _, rfl, ?_⟩⟩
  by_cases hm : c ∈ cs
  · obtain ⟨i, hi⟩ := List.mem_iff_getElem?.mp hm
    have e := ents_some 0 cs as bk.at_.1 bk.nd hi
    rw [e]
    refine iteF ?_
    show tNGet (tFld K (tVar 0) "given") (tVar 1) [some (.ref b.B), some (.ref a)] H1 Q
    refine bk1.fG rfl ⟨_, rfl, b.G, _, rfl, ⟨_, c.key, a, bk1.hG, ents_keys 0 cs as bk1.at_, rfl, hc1.nkey, c.depth, e.symm⟩, ?_⟩
    rw [Nat.zero_add]
    exact k1 i _ hi s1
  · rw [ents_none 0 cs as hm]
    refine iteT (bk1.me (by decide) rfl ⟨_, rfl, b, cs, as, a, c, rfl, bk1, hc1, fo, inb, hm, few hm, fun H2 kb2 bk2 => ?_⟩)
    have hc2 := hc1.mono (bk1.tup kb2)
    have e := ents_some 0 (cs ++ [c]) (as ++ [a]) bk2.at_.1 bk2.nd (i := cs.length) (c := c) (by rw [List.getElem?_append_right (Nat.le_refl _), Nat.sub_self]; rfl)
    show tNGet (tFld K (tVar 0) "given") (tVar 1) [some (.ref b.B), some (.ref a)] H2 Q
    refine bk2.fG rfl ⟨_, rfl, b.G, _, rfl, ⟨_, c.key, a, bk2.hG, ents_keys 0 _ _ bk2.at_, rfl, hc2.nkey, c.depth, e.symm⟩, ?_⟩
    rw [Nat.zero_add]
    exact k2 hm _ (Kb.trans (.same s1) kb2) bk2
theorem pure_Book_name_of (h : sp_Book_name_of K vs H Q E) : t_Book_name_of K { nx := fun _ H' => Q .non H', rt := Q } (start N_Book_name_of vs) H := by
  obtain ⟨b, cs, as, a, c, rfl, bk, hc, fo, k1, k2⟩ := h
  refine bk.me (by decide) rfl ⟨_, rfl, b, cs, as, a, c, rfl, bk, hc, fo, fun H1 s1 => ⟨_, rfl, ?_⟩⟩
  have bk1 := bk.same s1
  have hc1 := hc.mono (TM.of s1)
  cases hb : c.inB cs with
  | false => exact iteF (k2 (fun hm => by rw [(bk.ok c hm).2] at hb; cases hb) _ s1)
  | true =>
    refine iteT (bk1.fG rfl ⟨b.G, _, rfl, bk1.hG, _, rfl, _, ⟨_, c.key, a, bk1.hG, ents_keys 0 cs as bk1.at_, rfl, hc1.nkey, c.depth, rfl⟩, ?_⟩)
    by_cases hm : c ∈ cs
    · obtain ⟨i, hi⟩ := List.mem_iff_getElem?.mp hm
      rw [ents_some 0 cs as bk.at_.1 bk.nd hi, Nat.zero_add]
      exact k1 i _ hi s1
    · rw [ents_none 0 cs as hm]
      exact k2 hm _ s1
end
end Fw

set_option Elab.async false
set_option linter.all false
set_option maxRecDepth 100000
set_option maxHeartbeats 4000000
/-! Contents as data. -/
namespace Fw
open PySem L2 RZ RT
abbrev enD (e : Str × Int) : PyData := .tuple [.str e.1, .int e.2]
def Ct.data : Ct → PyData
  | .leaf rows => .tuple [.str "leaf", .tuple (rows.map PyData.str)]
  | .tree es => .tuple [.str "tree", .tuple (es.map enD)]
  | .ver ps r s => .tuple [.str "version", .tuple (ps.map PyData.int), .int r, .int s]
theorem dp_strsC {K : PySem.W.Frag} {H : Hp} : ∀ zs : List Str, DpAll K H (zs.map V.str) (zs.map PyData.str)
  | [] => .nil
  | z :: zs => .cons (.str z) (dp_strsC zs)
theorem dp_entsC {K : PySem.W.Frag} {H : Hp} : ∀ (as : List Addr) (es : List (Str × Int)), as.length = es.length → (∀ (i : Nat) (b : Addr) (e : Str × Int), as[i]? = some b → es[i]? = some e → H b = some (.tup [.str e.1, .int e.2])) → DpAll K H (as.map V.ref) (es.map enD)
  | [], [], _, _ => .nil
  | [], _ :: _, h, _ => by simp at h
  | _ :: _, [], h, _ => by simp at h
  | a :: as, e :: es, h, f => .cons (.tup (sqT (f 0 a e rfl rfl)) (.cons (.str _) (.cons (.int _) .nil))) (dp_entsC as es (by simpa using h) fun i b e' h1 h2 => f (i + 1) b e' (by simpa using h1) (by simpa using h2))
theorem CtAt.dp {K : PySem.W.Frag} {H : Hp} {a : Addr} {c : Ct} (h : CtAt H a c) : Dp K H (.ref a) c.data := by
  cases c with
  | leaf rows =>
    obtain ⟨r, h1, h2⟩ := h
    exact .tup (sqT h1) (.cons (.str _) (.cons (.tup (sqT h2) (dp_strsC rows)) .nil))
  | tree es =>
    obtain ⟨r, as, h1, h2, h3, h4⟩ := h
    exact .tup (sqT h1) (.cons (.str _) (.cons (.tup (sqT h2) (dp_entsC as es h3 h4)) .nil))
  | ver ps r s =>
    obtain ⟨r, h1, h2⟩ := h
    exact .tup (sqT h1) (.cons (.str _) (.cons (.tup (sqT h2) (dp_intsD ps)) (.cons (.int _) (.cons (.int _) .nil))))
theorem dp_contents {K : PySem.W.Frag} {H : Hp} : ∀ (as : List Addr) (cs : List Ct), CsAt H as cs → DpAll K H (as.map V.ref) (cs.map Ct.data)
  | [], [], _ => .nil
  | [], _ :: _, h => by have := h.1; simp at this
  | _ :: _, [], h => by have := h.1; simp at this
  | a :: as, c :: cs, h => .cons (h.2 0 a c rfl rfl).dp (dp_contents as cs ⟨by simpa using h.1, fun i b d h1 h2 => h.2 (i + 1) b d (by simpa using h1) (by simpa using h2)⟩)
theorem okS_str {z : Str} (h : ∀ c ∈ z.cps.toList, c ≤ 126) : PyData.strOk z = true := by
  unfold PyData.strOk
  rw [← Array.all_toList, List.all_eq_true]
  intro c hc
  have := h c hc
  exact decide_eq_true (by omega)
theorem lay_strs : ∀ zs : List Str, (∀ z ∈ zs, PyData.strOk z = true) → PyData.canLayAll0 (zs.map PyData.str) = true
  | [], _ => rfl
  | z :: zs, h => by
    show (PyData.strOk z && PyData.canLayAll0 (zs.map PyData.str)) = true
    rw [h z List.mem_cons_self, lay_strs zs fun y hy => h y (List.mem_cons_of_mem _ hy)]
    rfl
theorem lay_ents : ∀ es : List (Str × Int), (∀ e ∈ es, PyData.strOk e.1 = true) → PyData.canLayAll0 (es.map enD) = true
  | [], _ => rfl
  | e :: es, h => by
    show ((PyData.strOk e.1 && true) && PyData.canLayAll0 (es.map enD)) = true
    rw [h e List.mem_cons_self, lay_ents es fun y hy => h y (List.mem_cons_of_mem _ hy)]
    rfl
theorem lay_intsC : ∀ ns : List Int, PyData.canLayAll0 (ns.map PyData.int) = true
  | [] => rfl
  | _ :: ns => lay_intsC ns
theorem dep_flatC {f : α → PyData} (h : ∀ a, (f a).depth ≤ 1) : ∀ l : List α, PyData.depthAll (l.map f) ≤ 1
  | [] => Nat.zero_le _
  | a :: l => by
    show max (PyData.depth (f a)) (PyData.depthAll (l.map f)) ≤ 1
    have := h a
    have := dep_flatC h l
    omega
theorem Ct.form_lay {c : Ct} (h : c.form) : c.data.canLay0 = true := by
  cases c with
  | leaf rows =>
    show (PyData.strOk "leaf" && (PyData.canLayAll0 (rows.map PyData.str) && true)) = true
    rw [lay_strs rows fun z hz => okS_str fun c hc => ((h.2 z hz).2 c hc).2.1]
    decide +kernel
  | tree es =>
    show (PyData.strOk "tree" && (PyData.canLayAll0 (es.map enD) && true)) = true
    rw [lay_ents es fun e he => okS_str fun c hc => Nat.le_trans ((h.2.1 e he).2.2 c hc).2 (by decide)]
    decide +kernel
  | ver ps r s =>
    show (PyData.strOk "version" && (PyData.canLayAll0 (ps.map PyData.int) && true)) = true
    rw [lay_intsC]
    decide +kernel
theorem Ct.data_depth (c : Ct) : c.data.depth ≤ 3 := by
  cases c with
  | leaf rows =>
    have := dep_flatC (f := PyData.str) (fun z => by show (0 : Nat) ≤ 1; decide) rows
    show max 0 (max (PyData.depthAll (rows.map PyData.str) + 1) 0) + 1 ≤ 3
    omega
  | tree es =>
    have := dep_flatC (f := enD) (fun z => by show max 0 (max 0 0) + 1 ≤ 1; decide) es
    show max 0 (max (PyData.depthAll (es.map enD) + 1) 0) + 1 ≤ 3
    omega
  | ver ps r s =>
    have := dep_flatC (f := PyData.int) (fun z => by show (0 : Nat) ≤ 1; decide) ps
    show max 0 (max (PyData.depthAll (ps.map PyData.int) + 1) (max 0 (max 0 0))) + 1 ≤ 3
    omega
theorem Ct.shaped {c : Ct} (h : c.form) : SeqAt.shaped c.data = true := by
  have := c.data_depth
  show (c.data.canLay0 && decide (c.data.depth ≤ 64)) = true
  rw [Ct.form_lay h, decide_eq_true (show c.data.depth ≤ 64 by omega)]
  rfl
theorem lay_contents : ∀ cs : List Ct, (∀ c ∈ cs, c.form) → PyData.canLayAll0 (cs.map Ct.data) = true
  | [], _ => rfl
  | c :: cs, h => by
    show (c.data.canLay0 && PyData.canLayAll0 (cs.map Ct.data)) = true
    rw [Ct.form_lay (h c List.mem_cons_self), lay_contents cs fun y hy => h y (List.mem_cons_of_mem _ hy)]
    rfl
theorem dep_contents : ∀ cs : List Ct, PyData.depthAll (cs.map Ct.data) ≤ 3
  | [] => Nat.zero_le _
  | c :: cs => by
    show max c.data.depth (PyData.depthAll (cs.map Ct.data)) ≤ 3
    have := c.data_depth
    have := dep_contents cs
    omega
theorem shaped_contents {cs : List Ct} (h : ∀ c ∈ cs, c.form) : SeqAt.shaped (.list (cs.map Ct.data)) = true := by
  have := dep_contents cs
  show (PyData.canLayAll0 (cs.map Ct.data) && decide (PyData.depthAll (cs.map Ct.data) + 1 ≤ 64)) = true
  rw [lay_contents cs h, decide_eq_true (by omega)]
  rfl
theorem eqv_strs : ∀ a b : List Str, PyData.eqvAll (a.map PyData.str) (b.map PyData.str) = decide (a = b)
  | [], [] => rfl
  | [], _ :: _ => rfl
  | _ :: _, [] => rfl
  | x :: a, y :: b => by
    show (x == y && PyData.eqvAll (a.map PyData.str) (b.map PyData.str)) = _
    rw [eqv_strs a b]
    by_cases h : x = y
    · by_cases h2 : a = b
      · simp [h, h2]
      · simp [h, h2]
    · simp [h]
theorem eqv_intsC : ∀ a b : List Int, PyData.eqvAll (a.map PyData.int) (b.map PyData.int) = decide (a = b)
  | [], [] => rfl
  | [], _ :: _ => rfl
  | _ :: _, [] => rfl
  | x :: a, y :: b => by
    show (x == y && PyData.eqvAll (a.map PyData.int) (b.map PyData.int)) = _
    rw [eqv_intsC a b]
    by_cases h : x = y
    · by_cases h2 : a = b
      · simp [h, h2]
      · simp [h, h2]
    · simp [h]
theorem eqv_ents : ∀ a b : List (Str × Int), PyData.eqvAll (a.map enD) (b.map enD) = decide (a = b)
  | [], [] => rfl
  | [], _ :: _ => rfl
  | _ :: _, [] => rfl
  | x :: a, y :: b => by
    show ((x.1 == y.1 && (x.2 == y.2 && true)) && PyData.eqvAll (a.map enD) (b.map enD)) = _
    rw [eqv_ents a b]
    obtain ⟨x1, x2⟩ := x
    obtain ⟨y1, y2⟩ := y
    by_cases h : x1 = y1
    · by_cases h2 : x2 = y2
      · by_cases h3 : a = b
        · simp [h, h2, h3]
        · simp [h, h2, h3]
      · simp [h, h2]
    · simp [h]
theorem eqv_hd {x y : Str} (h : x ≠ y) (xs ys : List PyData) : PyData.eqv (.tuple (.str x :: xs)) (.tuple (.str y :: ys)) = false := by
  show (x == y && PyData.eqvAll xs ys) = false
  rw [beq_eq_false_iff_ne.mpr h]
  rfl
theorem Ct.eqv (c d : Ct) : PyData.eqv c.data d.data = decide (c = d) := by
  cases c with
  | leaf a =>
    cases d with
    | leaf b =>
      show (("leaf" : Str) == "leaf" && (PyData.eqvAll (a.map PyData.str) (b.map PyData.str) && true)) = _
      rw [eqv_strs]
      simp
    | tree b => rw [decide_eq_false (by simp)]; exact eqv_hd wv_lt _ _
    | ver p r s => rw [decide_eq_false (by simp)]; exact eqv_hd wv_lv _ _
  | tree a =>
    cases d with
    | tree b =>
      show (("tree" : Str) == "tree" && (PyData.eqvAll (a.map enD) (b.map enD) && true)) = _
      rw [eqv_ents]
      simp
    | leaf b => rw [decide_eq_false (by simp)]; exact eqv_hd wv_lt.symm _ _
    | ver p r s => rw [decide_eq_false (by simp)]; exact eqv_hd wv_tv _ _
  | ver p r s =>
    cases d with
    | ver p2 r2 s2 =>
      show (("version" : Str) == "version" && (PyData.eqvAll (p.map PyData.int) (p2.map PyData.int) && (r == r2 && (s == s2 && true)))) = _
      rw [eqv_intsC]
      by_cases h1 : p = p2 <;> by_cases h2 : r = r2 <;> by_cases h3 : s = s2 <;> simp [h1, h2, h3]
    | leaf b => rw [decide_eq_false (by simp)]; exact eqv_hd wv_lv.symm _ _
    | tree b => rw [decide_eq_false (by simp)]; exact eqv_hd wv_tv.symm _ _
theorem units65b {k : Nat} {A : Around} (r : Room k A) : A.units + 65 < cLine := by have := r.un; omega
end Fw

set_option Elab.async false
set_option linter.all false
set_option maxRecDepth 100000
set_option maxHeartbeats 4000000
/-! What the laws draw for a book: labels, rows, entries, names. -/
namespace Fw
open PySem L2 RZ RT
def fInsert : V → List V → Hp → VK → Prop := fun x vs H Q => ∃ (l : Addr) (xs : List V) (i : Int) (y : V), x = .ref l ∧ vs = [.int i, y] ∧ H l = some (.lst xs) ∧ xs.length < sizeLine ∧ 0 ≤ i ∧ i < 2 ^ 63 ∧ Q .non (upd H l (.lst (xs.take i.toNat ++ [y] ++ xs.drop i.toNat)))
abbrev sp_l_alike (K : PySem.W.Frag) : Sp := sp_same2N K 6
abbrev N_l_alike : List Str := ["_law_found", "_law_due", "_law_k"]
def t_l_alike_loop (K : PySem.W.Frag) (n : Nat) : TS := (tSeq (tIfS (tTest (tOp rNe (tCB (fLen K) (tCons (tVar 0) tNil)) (tCB (fLen K) (tCons (tVar 1) tNil)))) (tRet (tC (.bl false))) tNext)
    (tSeq (tFor (iRng1 (tCons (tCB (fLen K) (tCons (tVar 1) tNil)) tNil)) (gName 2) (tIfS (tNot (tB (tCall (sp_same2N K n) [] E0 (tCons (tOp (rIx K) (tVar 0) (tVar 2)) (tCons (tOp (rIx K) (tVar 1) (tVar 2)) tNil))))) (tRet (tC (.bl false))) tNext))
    (tRet (tC (.bl true)))))
def t_l_alike (K : PySem.W.Frag) (n : Nat) : TS := (tSeq (tIfS (tB (tCB (rIsiT K) (tCons (tVar 1) (tCons (tTup (tCons (tC (.ty "tuple")) (tCons (tC (.ty "list")) tNil))) tNil)))) (tSeq (tIfS (tOr (tTest (tOp rNe (tCB (rIsi K) (tCons (tVar 1) (tCons (tC (.ty "tuple")) tNil))) (tCB (rIsi K) (tCons (tVar 0) (tCons (tC (.ty "tuple")) tNil))))) (tNot (tB (tCB (rIsiT K) (tCons (tVar 0) (tCons (tTup (tCons (tC (.ty "tuple")) (tCons (tC (.ty "list")) tNil))) tNil)))))) (tRet (tC (.bl false))) tNext)
    (t_l_alike_loop K n)) tNext)
    (tSeq (tIfS (tOr (tB (tCB (rIsi K) (tCons (tVar 1) (tCons (tC (.ty "bool")) tNil)))) (tB (tCB (rIsi K) (tCons (tVar 0) (tCons (tC (.ty "bool")) tNil))))) (tRet (tAndV (tCB (rIsi K) (tCons (tVar 1) (tCons (tC (.ty "bool")) tNil))) (tAndV (tCB (rIsi K) (tCons (tVar 0) (tCons (tC (.ty "bool")) tNil))) (tOp rEq (tVar 0) (tVar 1))))) tNext)
    (tSeq (tIfS (tB (tCB (rIsi K) (tCons (tVar 1) (tCons (tC (.ty "int")) tNil)))) (tRet (tAndV (tCB (rIsi K) (tCons (tVar 0) (tCons (tC (.ty "int")) tNil))) (tOp rEq (tVar 0) (tVar 1)))) tNext)
    (tSeq (tIfS (tB (tCB (rIsi K) (tCons (tVar 1) (tCons (tC (.ty "str")) tNil)))) (tRet (tAndV (tCB (rIsi K) (tCons (tVar 0) (tCons (tC (.ty "str")) tNil))) (tOp rEq (tVar 0) (tVar 1)))) tNext)
    (tRet (tAndV (tOp fIsN (tVar 1) (tC .non)) (tOp fIsN (tVar 0) (tC .non))))))))
theorem bbN (a b : Bool) : (decide (V.bl a = V.bl b)) = (a == b) := by cases a <;> cases b <;> rfl
theorem pure_l_alike {K : PySem.W.Frag} {n : Nat} {vs : List V} {H : Hp} {Q : VK} {E : XK} (h : sp_same2N K (n + 1) vs H Q E) : t_l_alike K n { nx := fun _ H' => Q .non H', rt := Q } (start N_l_alike vs) H := by
  obtain ⟨x, y, rfl, h, k⟩ := h
  rcases h with ⟨rfl, h⟩ | ⟨p, q, xs, ys, rfl, rfl, h, hl, hz, hs⟩
  · rcases h with rfl | ⟨i, rfl⟩ | ⟨b, rfl⟩ | ⟨z, rfl⟩
    · refine ⟨_, rfl, isi2 (fun _ _ => .base .non) k_nt k_nl fun T nT => ⟨_, rfl, iteF ?_⟩⟩
      refine ⟨_, rfl, isi (.base .non) k_nb ⟨_, rfl, iteF ⟨_, rfl, isi (.base .non) k_nb ⟨_, rfl, iteF ?_⟩⟩⟩⟩
      refine ⟨_, rfl, isi (.base .non) k_ni ⟨_, rfl, iteF ?_⟩⟩
      refine ⟨_, rfl, isi (.base .non) k_ns ⟨_, rfl, iteF ?_⟩⟩
      exact ⟨_, rfl, rfl, _, rfl, iteT ⟨_, rfl, rfl, k _ (Same.upd nT)⟩⟩
    · refine ⟨_, rfl, isi2 (fun _ _ => .base (.int i)) k_it k_il fun T nT => ⟨_, rfl, iteF ?_⟩⟩
      refine ⟨_, rfl, isi (.base (.int i)) k_ib ⟨_, rfl, iteF ⟨_, rfl, isi (.base (.int i)) k_ib ⟨_, rfl, iteF ?_⟩⟩⟩⟩
      refine ⟨_, rfl, isi (.base (.int i)) k_ii ⟨_, rfl, iteT ?_⟩⟩
      refine ⟨_, rfl, isi (.base (.int i)) k_ii ⟨_, rfl, iteT ⟨_, rfl, _, rfl, rfl, ?_⟩⟩⟩
      rw [decide_eq_true rfl]
      exact k _ (Same.upd nT)
    · refine ⟨_, rfl, isi2 (fun _ _ => .base (.bl b)) k_bt k_bl fun T nT => ⟨_, rfl, iteF ?_⟩⟩
      refine ⟨_, rfl, isi (.base (.bl b)) k_bb ⟨_, rfl, iteT ?_⟩⟩
      refine ⟨_, rfl, isi (.base (.bl b)) k_bb ⟨_, rfl, iteT ⟨_, rfl, isi (.base (.bl b)) k_bb ⟨_, rfl, iteT ⟨_, rfl, _, rfl, rfl, ?_⟩⟩⟩⟩⟩
      rw [decide_eq_true rfl]
      exact k _ (Same.upd nT)
    · refine ⟨_, rfl, isi2 (fun _ _ => .base (.str z)) k_st k_sl fun T nT => ⟨_, rfl, iteF ?_⟩⟩
      refine ⟨_, rfl, isi (.base (.str z)) k_sb ⟨_, rfl, iteF ⟨_, rfl, isi (.base (.str z)) k_sb ⟨_, rfl, iteF ?_⟩⟩⟩⟩
      refine ⟨_, rfl, isi (.base (.str z)) k_si ⟨_, rfl, iteF ?_⟩⟩
      refine ⟨_, rfl, isi (.base (.str z)) k_ss ⟨_, rfl, iteT ?_⟩⟩
      refine ⟨_, rfl, isi (.base (.str z)) k_ss ⟨_, rfl, iteT ⟨_, rfl, _, rfl, rfl, ?_⟩⟩⟩
      rw [decide_eq_true rfl]
      exact k _ (Same.upd nT)
  · have loop : ∀ (H0 : Hp) (N : L2.St → Hp → Prop), Same H H0 → (∃ o, (H p = some o ∧ (o = .lst xs ∨ o = .tup xs))) → (∃ o, (H q = some o ∧ (o = .lst ys ∨ o = .tup ys))) → ∀ z2 : Option V,
        t_l_alike_loop K n { nx := N, rt := Q } [some (.ref p), some (.ref q), z2] H0 := by
      intro H0 N s0 hp hq z2
      have hlen : ∀ {r : Addr} {zs : List V} {R : VK} {σ : L2.St} {H1 : Hp}, (∃ o, (H r = some o ∧ (o = .lst zs ∨ o = .tup zs))) → Same H H1 → R (.int zs.length) H1 → tNil σ H1 fun ws H2 => fLen K (.ref r :: ws) H2 R := by
        rintro r zs R σ H1 ⟨o, h1, rfl | rfl⟩ s h2
        · exact lenL (s _ _ h1) h2
        · exact lenT (s _ _ h1) h2
      have hix : ∀ {r : Addr} {zs : List V} {R : VK} {i : Int} {v : V} {H1 : Hp}, (∃ o, (H r = some o ∧ (o = .lst zs ∨ o = .tup zs))) → Same H H1 → atI zs i = some v → R v H1 → rIx K (.ref r) (.int i) H1 R := by
        rintro r zs R i v H1 ⟨o, h1, rfl | rfl⟩ s h2 h3
        · exact ixL (s _ _ h1) h2 h3
        · exact ixT (s _ _ h1) h2 h3
      refine ⟨_, rfl, hlen hp s0 ⟨_, rfl, hlen hq s0 ⟨rfl, _, rfl, ?_⟩⟩⟩
      rw [decide_eq_true (show V.int (xs.length : Int) = V.int (ys.length : Int) by rw [hl])]
      refine iteF ?_
      refine ⟨_, rfl, hlen hq s0 ⟨_, rfl, (len_le (by omega)).1, (len_le (by omega)).2, for_range (lo := 0) (n := ((ys.length : Int)).toNat) (fun i σ H' => Same H H' ∧ ∃ z, σ = [some (.ref p), some (.ref q), z]) ⟨s0, _, rfl⟩ ?_ ?_⟩⟩
      · rintro i σ H' hi ⟨s1, z, rfl⟩
        have hi1 : i < ys.length := by omega
        have hi2 : i < xs.length := by omega
        have e1 : atI xs (0 + (i : Int)) = some xs[i] := by rw [Int.zero_add]; exact atI_nat (List.getElem?_eq_getElem hi2)
        have e2 : atI ys (0 + (i : Int)) = some ys[i] := by rw [Int.zero_add]; exact atI_nat (List.getElem?_eq_getElem hi1)
        refine ⟨_, rfl, _, rfl, hix hp s1 e1 ⟨_, rfl, _, rfl, hix hq s1 e2 ⟨_, _, rfl, (hs i _ _ (List.getElem?_eq_getElem hi2) (List.getElem?_eq_getElem hi1)).mono s1, fun H2 s2 => ⟨_, rfl, iteF ?_⟩⟩⟩⟩
        exact ⟨s1.trans s2, _, rfl⟩
      · rintro σ H' ⟨s1, z, rfl⟩
        exact k _ s1
    rcases h with ⟨h1, h2⟩ | ⟨h1, h2⟩
    · have t1 : ∀ H', Same H H' → TyX K H' (.ref p) (.type "list") := fun H' s => .base (.lst (s _ _ h1))
      have t2 : ∀ H', Same H H' → TyX K H' (.ref q) (.type "list") := fun H' s => .base (.lst (s _ _ h2))
      refine ⟨_, rfl, isi2 t2 k_lt k_ll fun T nT => ⟨_, rfl, iteT ?_⟩⟩
      have s0 : Same H (upd H T (.tup [.ty "tuple", .ty "list"])) := Same.upd nT
      refine ⟨_, rfl, isi (t2 _ s0) k_lt ⟨_, rfl, isi (t1 _ s0) k_lt ⟨rfl, _, rfl, iteF ?_⟩⟩⟩
      refine ⟨_, rfl, isi2 (fun H' s => t1 H' (s0.trans s)) k_lt k_ll fun T2 nT2 => ⟨_, rfl, iteF ?_⟩⟩
      exact loop _ _ (s0.trans (Same.upd nT2)) ⟨_, h1, .inl rfl⟩ ⟨_, h2, .inl rfl⟩ _
    · have t1 : ∀ H', Same H H' → TyX K H' (.ref p) (.type "tuple") := fun H' s => .base (.tup (s _ _ h1))
      have t2 : ∀ H', Same H H' → TyX K H' (.ref q) (.type "tuple") := fun H' s => .base (.tup (s _ _ h2))
      refine ⟨_, rfl, isi2 t2 k_tt k_tl fun T nT => ⟨_, rfl, iteT ?_⟩⟩
      have s0 : Same H (upd H T (.tup [.ty "tuple", .ty "list"])) := Same.upd nT
      refine ⟨_, rfl, isi (t2 _ s0) k_tt ⟨_, rfl, isi (t1 _ s0) k_tt ⟨rfl, _, rfl, iteF ?_⟩⟩⟩
      refine ⟨_, rfl, isi2 (fun H' s => t1 H' (s0.trans s)) k_tt k_tl fun T2 nT2 => ⟨_, rfl, iteF ?_⟩⟩
      exact loop _ _ (s0.trans (Same.upd nT2)) ⟨_, h1, .inr rfl⟩ ⟨_, h2, .inr rfl⟩ _
/-! ### promises -/
def sp_l_label (_ : PySem.W.Frag) : Sp := fun vs H Q _ => ∃ (c D : Addr) (ns : List Int) (t : Nat), vs = [.ref D] ∧ Dk c D ns t H ∧ t + 10 < 1000000000 ∧
  ∀ (z : Str) (H' : Hp), OkLab z → Kp D H H' → Dk c D ns (t + 10) H' → Q (.str z) H'
def sp_l_give (_ : PySem.W.Frag) : Sp := fun vs H Q _ => ∃ (T a : Addr) (as : List Addr) (cs : List Ct) (c : Ct), vs = [.ref T, .ref a] ∧ H T = some (.lst (as.map V.ref)) ∧ CsAt H as cs ∧ CtAt H a c ∧ c.form ∧ (∀ d ∈ cs, d.form) ∧ cs.Nodup ∧ cs.length ≤ 1000 ∧
  (∀ i : Nat, cs[i]? = some c → Q (.int (i : Int)) H) ∧ (c ∉ cs → Q (.int (cs.length : Nat)) (upd H T (.lst ((as ++ [a]).map V.ref))))
def sp_l_rows (_ : PySem.W.Frag) : Sp := fun vs H Q _ => ∃ (c D r : Addr) (ns : List Int) (t : Nat) (rows : List Str), vs = [.ref D, .ref r] ∧ Dk c D ns t H ∧ H r = some (.tup (rows.map V.str)) ∧ rows.length ≤ 7 ∧ (∀ z ∈ rows, OkS z) ∧ t + 320 < 1000000000 ∧
  ∀ (r' : Addr) (rows' : List Str) (H' : Hp), H' r' = some (.tup (rows'.map V.str)) → rows'.length ≤ 7 → (∀ z ∈ rows', OkS z) → Kp D H H' → Dk c D ns (t + 320) H' → Q (.ref r') H'
def sp_l_entries (_ : PySem.W.Frag) : Sp := fun vs H Q _ => ∃ (c D w : Addr) (ns ls : List Int) (t : Nat), vs = [.ref D, .ref w] ∧ Dk c D ns t H ∧ H w = some (.lst (ls.map V.int)) ∧ w ≠ D ∧ ls ≠ [] ∧ ls.length ≤ 1000 ∧ t + 40 < 1000000000 ∧
  ∀ (r : Addr) (as : List Addr) (es : List (Str × Int)) (H' : Hp), H' r = some (.tup (as.map V.ref)) → as.length = es.length → (∀ (i : Nat) (b : Addr) (e : Str × Int), as[i]? = some b → es[i]? = some e → H' b = some (.tup [.str e.1, .int e.2])) → es.length ≤ 3 → (∀ e ∈ es, OkLab e.1 ∧ e.2 ∈ ls) → (es.Pairwise fun a b => ltS a.1 b.1) → Kp D H H' → Dk c D ns (t + 40) H' → Q (.ref r) H'
def sp_l_some (_ : PySem.W.Frag) : Sp := fun vs H Q _ => ∃ (c D w : Addr) (ns ls : List Int) (t : Nat) (most : Int), vs = [.ref D, .ref w, .int most] ∧ Dk c D ns t H ∧ H w = some (.lst (ls.map V.int)) ∧ w ≠ D ∧ ls.length ≤ 1000 ∧ 0 ≤ most ∧ most ≤ 40 ∧ t + 40 < 1000000000 ∧
  ∀ (r : Addr) (ys : List Int) (H' : Hp), H' r = some (.tup (ys.map V.int)) → ys.Pairwise (· < ·) → (∀ y ∈ ys, y ∈ ls) → (ys.length : Int) ≤ most → Kp D H H' → Dk c D ns (t + 40) H' → Q (.ref r) H'
section
variable {K : PySem.W.Frag} {vs : List V} {H : Hp} {Q : VK} {E : XK}
theorem len_l_label (h : sp_l_label K vs H Q E) : vs.length = 1 := by obtain ⟨_, _, _, _, rfl, _⟩ := h; rfl
theorem len_l_give (h : sp_l_give K vs H Q E) : vs.length = 2 := by obtain ⟨_, _, _, _, _, rfl, _⟩ := h; rfl
theorem len_l_rows (h : sp_l_rows K vs H Q E) : vs.length = 2 := by obtain ⟨_, _, _, _, _, _, rfl, _⟩ := h; rfl
theorem len_l_entries (h : sp_l_entries K vs H Q E) : vs.length = 2 := by obtain ⟨_, _, _, _, _, _, rfl, _⟩ := h; rfl
theorem len_l_some (h : sp_l_some K vs H Q E) : vs.length = 3 := by obtain ⟨_, _, _, _, _, _, _, rfl, _⟩ := h; rfl
end
abbrev N_l_label : List Str := ["_law_deck_here", "_law_letters", "_law_k"]
def t_l_label_long (K : PySem.W.Frag) : TS := (tSeq (tAsg (tC (.str "abcdefghijklmnopqrstuvwxyz")) (gName 1))
    (tRet (tM1 (fJoin K) (tC (.str "")) (tLc (iRng1 (tCons (tOp rAddI (tC (.int 1)) (tCall (sp_l_draw K) [] E0 (tCons (tVar 0) (tCons (tC (.int 8)) tNil)))) tNil)) (gName 2) tYes (tOp (rIx K) (tVar 1) (tCall (sp_l_draw K) [] E0 (tCons (tVar 0) (tCons (tC (.int 26)) tNil)))) [2]))))
def t_l_label (K : PySem.W.Frag) : TS := (tSeq (tIfS (tTest (tOp rGtI (tCall (sp_l_draw K) [] E0 (tCons (tVar 0) (tCons (tC (.int 3)) tNil))) (tC (.int 0)))) (tRet (tOp (rIx K) (tC (.str "abcd")) (tCall (sp_l_draw K) [] E0 (tCons (tVar 0) (tCons (tC (.int 4)) tNil))))) tNext)
    (t_l_label_long K))
abbrev N_l_give : List Str := ["_law_things", "_law_content"]
def t_l_give (K : PySem.W.Frag) : TS := (tSeq (tIfS (tTest (tOp (rInD K) (tVar 1) (tVar 0))) (tRet (tBM K "list" (rIndexD K) (tVar 0) (tCons (tVar 1) tNil))) tNext)
    (tSeq (tDrop (tBM K "list" rAppend (tVar 0) (tCons (tVar 1) tNil)))
    (tRet (tOp rSubI (tCB (fLen K) (tCons (tVar 0) tNil)) (tC (.int 1))))))
abbrev N_l_rows : List Str := ["_law_deck_here", "_law_elder", "_law_rows_here", "_law_k"]
def t_l_rows_d (K : PySem.W.Frag) : TS := (tRet (tCB (fTupleOf K) (tCons (tVar 2) tNil)))
def t_l_rows_c (K : PySem.W.Frag) : TS := (tSeq (tIfS (tTest (tOp rGtI (tCB (fLen K) (tCons (tVar 2) tNil)) (tC (.int 7)))) (tDrop (tBM K "list" rPopAt (tVar 2) (tCons (tCall (sp_l_draw K) [] E0 (tCons (tVar 0) (tCons (tCB (fLen K) (tCons (tVar 2) tNil)) tNil))) tNil))) tNext)
    (t_l_rows_d K))
def t_l_rows_b (K : PySem.W.Frag) : TS := (tSeq (tIfS (tTest (tOp rEq (tCall (sp_l_draw K) [] E0 (tCons (tVar 0) (tCons (tC (.int 2)) tNil))) (tC (.int 0)))) (tDrop (tBM K "list" fInsert (tVar 2) (tCons (tCall (sp_l_draw K) [] E0 (tCons (tVar 0) (tCons (tOp rAddI (tCB (fLen K) (tCons (tVar 2) tNil)) (tC (.int 1))) tNil))) (tCons (tCall (sp_l_text K) [] E0 (tCons (tVar 0) (tCons (tC (.int 3)) tNil))) tNil)))) tNext)
    (t_l_rows_c K))
def t_l_rows_a (K : PySem.W.Frag) : TS := (tSeq (tIfS (tTest (tOp rEq (tCall (sp_l_draw K) [] E0 (tCons (tVar 0) (tCons (tC (.int 2)) tNil))) (tC (.int 0)))) (tAsg (tLc (iRng1 (tCons (tCall (sp_l_draw K) [] E0 (tCons (tVar 0) (tCons (tC (.int 5)) tNil))) tNil)) (gName 3) tYes (tCall (sp_l_text K) [] E0 (tCons (tVar 0) (tCons (tC (.int 3)) tNil))) [3]) (gName 2)) tNext)
    (t_l_rows_b K))
def t_l_rows (K : PySem.W.Frag) : TS := (tSeq (tAsg (tCB (fListOf K) (tCons (tVar 1) tNil)) (gName 2))
    (t_l_rows_a K))
abbrev N_l_entries : List Str := ["_law_deck_here", "_law_lows", "_law_entries_here", "_law_k"]
def t_l_entries (K : PySem.W.Frag) : TS := (tSeq (tAsg tDNewK (gName 2))
    (tSeq (tFor (iRng1 (tCons (tCall (sp_l_draw K) [] E0 (tCons (tVar 0) (tCons (tC (.int 4)) tNil))) tNil)) (gName 3) (sDPut (tVar 2) (tCall (sp_l_label K) [] E0 (tCons (tVar 0) tNil)) (tOp (rIx K) (tVar 1) (tCall (sp_l_draw K) [] E0 (tCons (tVar 0) (tCons (tCB (fLen K) (tCons (tVar 1) tNil)) tNil))))))
    (tRet (tCB (fTupleOf K) (tCons (tCB rSortItD (tCons (tBM0 K "dict" rItemsD (tVar 2)) tNil)) tNil)))))
abbrev N_l_some : List Str := ["_law_deck_here", "_law_names", "_law_most", "_law_some_here", "_law_k"]
def t_l_some (K : PySem.W.Frag) : TS := (tSeq (tAsg (tLst tNil) (gName 3))
    (tSeq (tFor (iRng1 (tCons (tCB fMin2 (tCons (tVar 2) (tCons (tCB (fLen K) (tCons (tVar 1) tNil)) tNil))) tNil)) (gName 4) (tDrop (tBM K "list" rAppend (tVar 3) (tCons (tOp (rIx K) (tVar 1) (tCall (sp_l_draw K) [] E0 (tCons (tVar 0) (tCons (tCB (fLen K) (tCons (tVar 1) tNil)) tNil)))) tNil))))
    (tRet (tCB (fTupleOf K) (tCons (tSortSet K (tVar 3)) tNil)))))
theorem okLab1 {c : Nat} (h1 : 97 ≤ c) (h2 : c ≤ 122) : OkLab ⟨#[c]⟩ := ⟨Nat.le_refl _, by show (1 : Nat) ≤ 8; decide, fun x hx => by
  have : x = c := by simpa using hx
  rw [this]
  exact ⟨h1, h2⟩⟩
theorem abcd_ok : ∀ x ∈ ("abcd" : Str).cps.toList, 97 ≤ x ∧ x ≤ 122 := by
  have h : (("abcd" : Str).cps.toList.all fun x => decide (97 ≤ x) && decide (x ≤ 122)) = true := by decide +kernel
  intro x hx
  have := List.all_eq_true.mp h x hx
  simpa using this
theorem az_ok : ∀ x ∈ ("abcdefghijklmnopqrstuvwxyz" : Str).cps.toList, 97 ≤ x ∧ x ≤ 122 := by
  have h : (("abcdefghijklmnopqrstuvwxyz" : Str).cps.toList.all fun x => decide (97 ≤ x) && decide (x ≤ 122)) = true := by decide +kernel
  intro x hx
  have := List.all_eq_true.mp h x hx
  simpa using this
theorem az_len : ("abcdefghijklmnopqrstuvwxyz" : Str).cps.toList.length = 26 := by decide +kernel
theorem abcd_len : ("abcd" : Str).cps.toList.length = 4 := by decide +kernel
section
variable {K : PySem.W.Frag} {vs : List V} {H : Hp} {Q : VK} {E : XK}
theorem pure_l_label (h : sp_l_label K vs H Q E) : t_l_label K { nx := fun _ H' => Q .non H', rt := Q } (start N_l_label vs) H := by
  obtain ⟨c, D, ns, t, rfl, dk, ht, k⟩ := h
  refine ⟨_, rfl, c, D, ns, t, 3, rfl, dk, by omega, by decide, by decide, fun v H1 v0 v1 d1 fr1 => ⟨_, _, rfl, rfl, _, rfl, ite2 (fun _ => ?_) (fun _ => ?_)⟩⟩
  · refine ⟨_, rfl, c, D, ns, _, 4, rfl, d1, by omega, by decide, by decide, fun v2 H2 w0 w1 d2 fr2 => ?_⟩
    obtain ⟨j, rfl⟩ := Int.eq_ofNat_of_zero_le w0
    have hj : j < ("abcd" : Str).cps.toList.length := by rw [abcd_len]; omega
    have ho := abcd_ok _ (List.getElem_mem hj)
    refine ixS (by decide +kernel) (atI_nat (List.getElem?_eq_getElem hj)) (k _ _ (okLab1 ho.1 ho.2) ((Kp.fr fr1).trans (.fr fr2)) (d2.le (by omega)))
  · show t_l_label_long K { nx := fun _ H' => Q .non H', rt := Q } [some (.ref D), none, none] H1
    refine ⟨⟨_, rfl⟩, _, rfl, c, D, ns, _, 8, rfl, d1, by omega, by decide, by decide, fun n H2 n0 n1 d2 fr2 => ⟨_, _, rfl, rfl, _, rfl, by omega, by omega, fun L nL => ?_⟩⟩
    refine lc_deck (walk_range (lo := 0) (n := (1 + n).toNat)) yFn (fun x : Nat => V.str ⟨#[x]⟩) (fun x => 97 ≤ x ∧ x ≤ 122) 1 nL d2 (by omega) ?_ ?_
    · intro i x H3 R hi kp d3 r
      refine ⟨rfl, ⟨_, rfl, _, rfl, c, D, ns, _, 26, rfl, d3, by omega, by decide, by decide, fun v H4 v0 v1 d4 fr4 => ?_⟩⟩
      obtain ⟨j, rfl⟩ := Int.eq_ofNat_of_zero_le v0
      have hj : j < ("abcdefghijklmnopqrstuvwxyz" : Str).cps.toList.length := by rw [az_len]; omega
      exact ixS (by decide +kernel) (atI_nat (List.getElem?_eq_getElem hj)) (r _ _ (az_ok _ (List.getElem_mem hj)) (.fr fr4) d4)
    · intro ys H3 hl hp kp d3 hL
      have hlen : ys.length = (1 + n).toNat := hl
      refine ⟨_, L, (ys.map fun c => (⟨#[c]⟩ : Str)), rfl, rfl, .inl (sqL (by rw [hL, List.map_map]; rfl)), ?_, ?_⟩
      · rw [sum_ones, List.length_map]
        show ys.length + ys.length * 0 ≤ _
        omega
      · rw [join_chars]
        refine k _ _ ⟨?_, ?_, ?_⟩ ((Kp.fr fr1).trans ((Kp.fr fr2).trans kp)) (d3.le (by omega))
        · show 1 ≤ ys.toArray.size
          rw [List.size_toArray]
          omega
        · show ys.toArray.size ≤ 8
          rw [List.size_toArray]
          omega
        · intro x hx
          exact hp x (by simpa using hx)
theorem pure_l_give (h : sp_l_give K vs H Q E) : t_l_give K { nx := fun _ H' => Q .non H', rt := Q } (start N_l_give vs) H := by
  obtain ⟨T, a, as, cs, c, rfl, hT, hcs, hc, fo, fos, nd, few, k1, k2⟩ := h
  have any : ((cs.map Ct.data).any fun z => PyData.eqv z c.data) = decide (c ∈ cs) := by
    rw [List.any_map]
    by_cases h : c ∈ cs
    · rw [decide_eq_true h, List.any_eq_true]
      exact ⟨c, h, by show PyData.eqv c.data c.data = true; rw [Ct.eqv, decide_eq_true rfl]⟩
    · rw [decide_eq_false h, List.any_eq_false]
      intro d hd
      show ¬ PyData.eqv d.data c.data = true
      rw [Ct.eqv, decide_eq_true_eq]
      exact fun e => h (by rw [← e]; exact hd)
  refine ⟨_, rfl, _, rfl, c.data, cs.map Ct.data, hc.dp, .lst (sqL hT) (dp_contents as cs hcs), Ct.shaped fo, shaped_contents fos, _, rfl, ?_⟩
  rw [any]
  by_cases h : c ∈ cs
  · rw [decide_eq_true h]
    obtain ⟨i, hi⟩ := List.mem_iff_getElem?.mp h
    refine iteT ⟨_, rfl, .inl ⟨rfl, _, sqL hT⟩, _, rfl, T, .ref a, c.data, cs.map Ct.data, i, c.data, rfl, rfl, .lst (sqL hT) (dp_contents as cs hcs), hc.dp, shaped_contents fos, Ct.shaped fo, by rw [List.getElem?_map, hi]; rfl, by rw [Ct.eqv, decide_eq_true rfl], fun m z hm hz => ?_, k1 i hi⟩
    rw [List.getElem?_map] at hz
    cases e : cs[m]? with
    | none => rw [e] at hz; cases hz
    | some d =>
      rw [e] at hz
      cases Option.some.inj hz
      rw [Ct.eqv, decide_eq_false]
      rintro rfl
      have := (List.getElem?_inj (List.getElem?_eq_some_iff.mp e).1 nd).mp (e.trans hi.symm)
      omega
  · rw [decide_eq_false h]
    refine iteF ⟨_, rfl, .inl ⟨rfl, _, sqL hT⟩, _, rfl, T, _, _, rfl, rfl, hT, ?_, ?_⟩
    · rw [List.length_map, hcs.1]
      exact Nat.lt_of_le_of_lt few (by decide)
    · refine ⟨_, rfl, lenL updS ⟨_, _, rfl, rfl, ?_⟩⟩
      have := k2 h
      rw [List.map_append] at this
      rw [List.length_append, List.length_map, hcs.1]
      show Q (.int (((cs.length + 1 : Nat) : Int) - 1)) _
      rw [show (((cs.length + 1 : Nat) : Int) - 1) = ((cs.length : Nat) : Int) from by omega]
      exact this
/-- all but the deck and L stands -/
def Kp2 (D L : Addr) (H H' : Hp) : Prop := ∀ b o, H b = some o → b ≠ D → b ≠ L → H' b = some o
theorem Kp2.refl {D L : Addr} {H : Hp} : Kp2 D L H H := fun _ _ h _ _ => h
theorem Kp2.trans {D L : Addr} {H H1 H2 : Hp} (a : Kp2 D L H H1) (b : Kp2 D L H1 H2) : Kp2 D L H H2 := fun x o h h1 h2 => b x o (a x o h h1 h2) h1 h2
theorem Kp2.kp {D L : Addr} {H H' : Hp} (k : Kp D H H') : Kp2 D L H H' := fun b o h h1 _ => k b o h h1
theorem Kp2.up {D L : Addr} {H H' : Hp} {o : HO} (k : Kp2 D L H H') : Kp2 D L H (upd H' L o) := fun b u h h1 h2 => updN h2 (k b u h h1 h2)
theorem Kp2.out {D L : Addr} {H H1 H' : Hp} (s : Kp D H H1) (k : Kp2 D L H1 H') (nL : H L = none) : Kp D H H' := fun b o h h1 => k b o (s b o h h1) h1 (ne_of_none h nL)
theorem rows_d {c D L r0 : Addr} {ns : List Int} {t : Nat} {rows : List Str} {z3 : Option V} (dk : Dk c D ns t H) (hL : H L = some (.lst (rows.map V.str)))
    (k : ∀ (r' : Addr) (H' : Hp), H' r' = some (.tup (rows.map V.str)) → Kp2 D L H H' → Dk c D ns t H' → Q (.ref r') H') :
    t_l_rows_d K { nx := fun _ H' => Q .non H', rt := Q } [some (.ref D), some (.ref r0), some (.ref L), z3] H :=
  ⟨_, rfl, L, _, rfl, .inl ⟨sqL hL, fun r' nr => k r' _ updS (.kp (.new nr)) (dk.upd (dk.neC nr) (dk.neD nr))⟩⟩
theorem rows_c {c D L r0 : Addr} {ns : List Int} {t : Nat} {rows : List Str} {z3 : Option V} (dk : Dk c D ns t H) (hL : H L = some (.lst (rows.map V.str))) (nLD : L ≠ D) (nLc : L ≠ c) (few : rows.length ≤ 8) (ok : ∀ z ∈ rows, OkS z) (ht : t + 1 < 1000000000)
    (k : ∀ (r' : Addr) (rows' : List Str) (H' : Hp), H' r' = some (.tup (rows'.map V.str)) → rows'.length ≤ 7 → (∀ z ∈ rows', OkS z) → Kp2 D L H H' → Dk c D ns (t + 1) H' → Q (.ref r') H') :
    t_l_rows_c K { nx := fun _ H' => Q .non H', rt := Q } [some (.ref D), some (.ref r0), some (.ref L), z3] H := by
  refine ⟨_, rfl, lenL hL ⟨_, _, rfl, rfl, _, rfl, ite2 (fun e => ?_) (fun e => ?_)⟩⟩
  · have e := of_decide_eq_true e
    rw [List.length_map] at e
    refine ⟨_, rfl, .inl ⟨rfl, _, sqL hL⟩, _, rfl, _, rfl, lenL hL ⟨c, D, ns, t, _, rfl, dk, by omega, by rw [List.length_map]; omega, by rw [List.length_map]; exact small100 (by omega), fun v H1 v0 v1 d1 fr1 => ?_⟩⟩
    rw [List.length_map] at v1
    obtain ⟨j, rfl⟩ := Int.eq_ofNat_of_zero_le v0
    have hj : j < rows.length := by omega
    have hL1 : H1 L = some (.lst (rows.map V.str)) := by rw [fr1 _ nLD]; exact hL
    refine ⟨L, _, (j : Int), j, V.str rows[j], rfl, rfl, hL1, by omega, by omega, ?_, by rw [List.getElem?_map, List.getElem?_eq_getElem hj]; rfl, ?_⟩
    · rw [List.length_map]
      unfold seqIndex?
      simp
      omega
    · have e2 : (rows.map V.str).eraseIdx j = (rows.eraseIdx j).map V.str := (DT.map_erase V.str rows j).symm
      rw [e2]
      refine rows_d (d1.upd nLc nLD) updS fun r' H' hr kp d => k r' _ H' hr ?_ (fun z hz => ok z (List.mem_of_mem_eraseIdx hz)) ((Kp2.up (.kp (.fr fr1))).trans kp) d
      rw [List.length_eraseIdx]
      split <;> omega
  · have e : ¬ (7 : Int) < ((rows.map V.str).length : Int) := fun q => e (decide_eq_true q)
    rw [List.length_map] at e
    exact rows_d dk hL fun r' H' hr kp d => k r' rows H' hr (by omega) ok kp (d.le (by omega))
theorem rows_b {c D L r0 : Addr} {ns : List Int} {t : Nat} {rows : List Str} {z3 : Option V} (dk : Dk c D ns t H) (hL : H L = some (.lst (rows.map V.str))) (nLD : L ≠ D) (nLc : L ≠ c) (few : rows.length ≤ 7) (ok : ∀ z ∈ rows, OkS z) (ht : t + 60 < 1000000000)
    (k : ∀ (r' : Addr) (rows' : List Str) (H' : Hp), H' r' = some (.tup (rows'.map V.str)) → rows'.length ≤ 7 → (∀ z ∈ rows', OkS z) → Kp2 D L H H' → Dk c D ns (t + 60) H' → Q (.ref r') H') :
    t_l_rows_b K { nx := fun _ H' => Q .non H', rt := Q } [some (.ref D), some (.ref r0), some (.ref L), z3] H := by
  refine ⟨_, rfl, c, D, ns, t, 2, rfl, dk, by omega, by decide, by decide, fun v H1 v0 v1 d1 fr1 => ⟨rfl, _, rfl, ?_⟩⟩
  have hL1 : H1 L = some (.lst (rows.map V.str)) := by rw [fr1 _ nLD]; exact hL
  refine ite2 (fun _ => ?_) (fun _ => ?_)
  · refine ⟨_, rfl, .inl ⟨rfl, _, sqL hL1⟩, _, rfl, _, rfl, lenL hL1 ⟨_, _, rfl, rfl, c, D, ns, _, _, rfl, d1, by omega, by rw [List.length_map]; omega, by rw [List.length_map]; exact small100 (by omega), fun v H2 v0 v1 d2 fr2 => ?_⟩⟩
    rw [List.length_map] at v1
    have hL2 : H2 L = some (.lst (rows.map V.str)) := by rw [fr2 _ nLD]; exact hL1
    refine ⟨_, rfl, c, D, ns, _, 3, rfl, d2, by decide, by decide, by omega, fun z H3 oz kp3 d3 => ?_⟩
    have hL3 := kp3 _ _ hL2 nLD
    refine ⟨L, _, v, .str z, rfl, rfl, hL3, ?_, v0, by omega, ?_⟩
    · rw [List.length_map]
      exact Nat.lt_of_le_of_lt (show _ ≤ 1000 by omega) (by decide)
    · have e2 : (rows.map V.str).take v.toNat ++ [V.str z] ++ (rows.map V.str).drop v.toNat = (rows.take v.toNat ++ [z] ++ rows.drop v.toNat).map V.str := by
        rw [List.map_append, List.map_append, List.map_take, List.map_drop]
        rfl
      rw [e2]
      refine rows_c (d3.upd nLc nLD) updS nLD nLc ?_ ?_ (by omega) fun r' rows' H' hr hf ho kp d => k r' rows' H' hr hf ho ((Kp2.up ((Kp2.kp (.fr fr1)).trans ((Kp2.kp (.fr fr2)).trans (Kp2.kp kp3)))).trans kp) (d.le (by omega))
      · rw [List.length_append, List.length_append, List.length_take, List.length_drop, List.length_singleton]
        omega
      · intro y hy
        rw [List.mem_append, List.mem_append] at hy
        rcases hy with (hy | hy) | hy
        · exact ok y (List.mem_of_mem_take hy)
        · rw [List.mem_singleton.mp hy]; exact oz
        · exact ok y (List.mem_of_mem_drop hy)
  · exact rows_c d1 hL1 nLD nLc (by omega) ok (by omega) fun r' rows' H' hr hf ho kp d => k r' rows' H' hr hf ho ((Kp2.kp (.fr fr1)).trans kp) (d.le (by omega))
theorem pure_l_rows (h : sp_l_rows K vs H Q E) : t_l_rows K { nx := fun _ H' => Q .non H', rt := Q } (start N_l_rows vs) H := by
  obtain ⟨c, D, r, ns, t, rows, rfl, dk, hr, few, ok, ht, k⟩ := h
  refine ⟨_, rfl, r, _, rfl, .inr (sqT hr), fun L nL => ?_⟩
  show t_l_rows_a K { nx := fun _ H' => Q .non H', rt := Q } [some (.ref D), some (.ref r), some (.ref L), none] _
  have dk1 := dk.upd (o := .lst (rows.map V.str)) (dk.neC nL) (dk.neD nL)
  have s1 : Kp D H (upd H L (.lst (rows.map V.str))) := .new nL
  have hL1 : upd H L (.lst (rows.map V.str)) L = some (.lst (rows.map V.str)) := updS
  generalize upd H L (.lst (rows.map V.str)) = H1 at dk1 s1 hL1
  refine ⟨_, rfl, c, D, ns, t, 2, rfl, dk1, by omega, by decide, by decide, fun v H2 v0 v1 d2 fr2 => ⟨rfl, _, rfl, ?_⟩⟩
  have hL2 : H2 L = some (.lst (rows.map V.str)) := by rw [fr2 _ (dk.neD nL)]; exact hL1
  refine ite2 (fun _ => ?_) (fun _ => ?_)
  · refine ⟨_, rfl, c, D, ns, _, 5, rfl, d2, by omega, by decide, by decide, fun n H3 n0 n1 d3 fr3 => ⟨_, rfl, by omega, by omega, fun M nM => ?_⟩⟩
    refine lc_deck (walk_range (lo := 0) (n := n.toNat)) yFn V.str OkS 50 nM d3 (by omega) ?_ ?_
    · intro i x H4 R hi kp d4 q
      refine ⟨rfl, ⟨_, rfl, c, D, ns, _, 3, rfl, d4, by decide, by decide, by omega, fun z H5 o kp5 d5 => q z H5 o kp5 d5⟩⟩
    · intro ys H4 hl hp kp d4 hM
      have nM3 : H2 M = none := by rw [← fr3 M (d3.neD nM)]; exact nM
      refine rows_b (d4.le (show _ ≤ t + 1 + 1 + 50 * 5 by have : n.toNat ≤ 5 := by omega
                                                           have := Nat.mul_le_mul_left 50 this
                                                           omega)) hM (d3.neD nM) (d3.neC nM) (by omega) hp (by omega) fun r' rows' H' hr hf ho kp' d => k r' rows' H' hr hf ho ?_ (d.le (by omega))
      have a1 : Kp D H1 H4 := (Kp.fr fr2).trans ((Kp.fr fr3).trans kp)
      have nM1 : H1 M = none := by rw [← fr2 M (d3.neD nM)]; exact nM3
      exact s1.trans (Kp2.out a1 kp' nM1)
  · exact rows_b d2 hL2 (dk.neD nL) (dk.neC nL) few ok (by omega) fun r' rows' H' hr hf ho kp d => k r' rows' H' hr hf ho (Kp2.out (L := L) (H1 := H2) (fun b o h h1 => by rw [fr2 b h1]; exact s1 b o h h1) kp nL) (d.le (by omega))
theorem putK_lab (ks : List (Str × Int)) (z : Str) (v : Int) : ∃ ks' : List (Str × Int), putK (ks.map labK) (Sum.inr z) (.int v) = ks'.map labK ∧ (∀ e ∈ ks', e ∈ ks ∨ e = (z, v)) ∧ ks'.length ≤ ks.length + 1 := by
  unfold putK
  by_cases h : ((ks.map labK).any fun kv => decide (kv.1 = Sum.inr z)) = true
  · rw [if_pos h]
    refine ⟨ks.map fun e => if e.1 = z then (e.1, v) else e, ?_, fun e he => ?_, by rw [List.length_map]; omega⟩
    · rw [List.map_map, List.map_map]
      refine List.map_congr_left fun e _ => ?_
      show (if (Sum.inr e.1 : Key) = Sum.inr z then _ else _) = labK (if e.1 = z then _ else _)
      by_cases h2 : e.1 = z
      · rw [if_pos h2, if_pos (by rw [h2])]
      · rw [if_neg h2, if_neg (fun q => h2 (Sum.inr.inj q))]
    · obtain ⟨d, hd, rfl⟩ := List.mem_map.mp he
      by_cases h2 : d.1 = z
      · rw [if_pos h2]; exact .inr (by rw [h2])
      · rw [if_neg h2]; exact .inl hd
  · rw [if_neg h]
    refine ⟨ks ++ [(z, v)], by rw [List.map_append]; rfl, fun e he => ?_, by rw [List.length_append]; exact Nat.le_refl _⟩
    rcases List.mem_append.mp he with he | he
    · exact .inl he
    · exact .inr (List.mem_singleton.mp he)
theorem pure_l_entries (h : sp_l_entries K vs H Q E) : t_l_entries K { nx := fun _ H' => Q .non H', rt := Q } (start N_l_entries vs) H := by
  obtain ⟨c, D, w, ns, ls, t, rfl, dk, hw, nwD, ne, few, ht, k⟩ := h
  refine fun G nG => ?_
  have nGD := dk.neD nG
  have nGc := dk.neC nG
  have nwG : w ≠ G := ne_of_none hw nG
  refine ⟨_, rfl, c, D, ns, t, 4, rfl, dk.upd nGc nGD, by omega, by decide, by decide, fun n H1 n0 n1 d1 fr1 => ⟨_, rfl, by omega, by omega, ?_⟩⟩
  have lpos : 0 < ls.length := List.length_pos_iff.mpr ne
  refine for_range (lo := 0) (n := n.toNat) (fun i σ H' => Kp2 D G H H' ∧ Dk c D ns (t + 1 + 11 * i) H' ∧ (∃ ks : List (Str × Int), H' G = some (.dK (ks.map labK)) ∧ (∀ e ∈ ks, OkLab e.1 ∧ e.2 ∈ ls) ∧ ks.length ≤ i) ∧ ∃ z, σ = [some (.ref D), some (.ref w), some (.ref G), z]) ⟨(Kp2.kp (Kp.new nG)).trans (Kp2.kp (Kp.fr fr1)), d1, ⟨[], by rw [fr1 _ nGD, updS]; rfl, (fun e h => nomatch h), Nat.zero_le _⟩, _, rfl⟩ ?_ ?_
  · rintro i σ H' hi ⟨kp, d, ⟨ks, hG, hk, hl⟩, z, rfl⟩
    have hi4 : i < 4 := by omega
    have hw' := kp _ _ hw nwD nwG
    refine ⟨_, rfl, _, rfl, _, rfl, lenL hw' ⟨c, D, ns, _, _, rfl, d, by omega, by rw [List.length_map]; omega, by rw [List.length_map]; exact small100 (by omega), fun v H2 v0 v1 d2 fr2 => ?_⟩⟩
    rw [List.length_map] at v1
    obtain ⟨j, rfl⟩ := Int.eq_ofNat_of_zero_le v0
    have hj : j < ls.length := by omega
    refine ixL (by rw [fr2 _ nwD]; exact hw') (atI_nat (by rw [List.getElem?_map, List.getElem?_eq_getElem hj]; rfl)) ⟨_, rfl, _, rfl, c, D, ns, _, rfl, d2, by omega, fun lab H3 ol kp3 d3 => ?_⟩
    have hG3 : H3 G = some (.dK (ks.map labK)) := kp3 _ _ (by rw [fr2 _ nGD]; exact hG) nGD
    refine ⟨G, _, rfl, DPut.k (k := Sum.inr lab) hG3 ?_, ?_⟩
    · rw [List.length_map]
      exact Nat.lt_of_le_of_lt (show _ ≤ 1000 by omega) (by decide)
    obtain ⟨ks', e1, e2, e3⟩ := putK_lab ks lab ls[j]
    rw [show putK (ks.map labK) (Sum.inr lab) (V.int ls[j]) = ks'.map labK from e1]
    refine ⟨Kp2.up (kp.trans ((Kp2.kp (.fr fr2)).trans (Kp2.kp kp3))), (d3.upd nGc nGD).le (by omega), ⟨ks', updS, fun e he => ?_, by omega⟩, _, rfl⟩
    rcases e2 e he with h | h
    · exact hk e h
    · rw [h]
      exact ⟨ol, List.getElem_mem hj⟩
  · rintro σ H' ⟨kp, d, ⟨ks, hG, hk, hl⟩, z, rfl⟩
    refine ⟨_, rfl, .inr (.inr (.inl ⟨rfl, .inl ⟨_, hG⟩⟩)), G, _, rfl, rfl, hG, fun p np => ?_⟩
    have s1 : Same H' (upd H' p (L2.DX.itemsO p G)) := samN np
    refine ⟨p, G, ks, rfl, updS, s1 _ _ hG, by omega, fun H2 l ps s2 nl pm srt hl2 hps => ?_⟩
    have s3 := s1.trans s2
    have d3 : Dk c D ns (t + 1 + 11 * n.toNat) H2 := by
      obtain ⟨x1, x2, x3, i, m, u, x4, r⟩ := d
      exact ⟨x1, s3 _ _ x2, x3, i, m, u, s3 _ _ x4, r⟩
    have nf : n.toNat ≤ 3 := by omega
    have plen : ps.length ≤ 3 := by
      have := pm.length_eq
      rw [List.length_map] at this
      omega
    refine ⟨l, _, rfl, .inl ⟨sqL hl2, fun q nq => ?_⟩⟩
    have s4 : Same H2 (upd H2 q (.tup (ps.map fun z => V.ref z.1))) := samN nq
    refine k q (ps.map (·.1)) (ps.map (·.2)) _ (by rw [updS, List.map_map]; rfl) (by rw [List.length_map, List.length_map]) (fun i b e h1 h2 => ?_) (by rw [List.length_map]; exact plen) (fun e he => ?_) ?_ ?_ ((d3.upd (d3.neC nq) (d3.neD nq)).le (by omega))
    · rw [List.getElem?_map] at h1 h2
      cases e3 : ps[i]? with
      | none => rw [e3] at h1; cases h1
      | some x =>
        rw [e3] at h1 h2
        cases Option.some.inj h1
        cases Option.some.inj h2
        exact s4 _ _ (hps x (List.mem_of_getElem? e3)).2
    · exact hk e (pm.mem_iff.mp he)
    · rw [List.pairwise_map]
      exact srt
    · exact fun b o h h1 => (s3.trans s4) b o (kp b o h h1 (ne_of_none h nG))
theorem pure_l_some (h : sp_l_some K vs H Q E) : t_l_some K { nx := fun _ H' => Q .non H', rt := Q } (start N_l_some vs) H := by
  obtain ⟨c, D, w, ns, ls, t, most, rfl, dk, hw, nwD, few, m0, m1, ht, k⟩ := h
  refine ⟨by decide, fun L nL => ?_⟩
  have nLD := dk.neD nL
  have nLc := dk.neC nL
  have nwL : w ≠ L := ne_of_none hw nL
  refine ⟨_, rfl, _, rfl, lenL (updN nwL hw) ⟨_, _, rfl, ?_⟩⟩
  have hn : ∃ n : Nat, (if ((ls.map V.int).length : Int) < most then ((ls.map V.int).length : Int) else most) = (n : Int) ∧ (n : Int) ≤ most ∧ (n ≤ ls.length) := by
    rw [List.length_map]
    by_cases h : (ls.length : Int) < most
    · rw [if_pos h]; exact ⟨ls.length, rfl, by omega, by omega⟩
    · rw [if_neg h]; exact ⟨most.toNat, by omega, by omega, by omega⟩
  obtain ⟨n, en, n1, n2⟩ := hn
  rw [en]
  refine ⟨_, rfl, by omega, by omega, ?_⟩
  refine for_range (lo := 0) (n := (n : Int).toNat) (fun i σ H' => Kp2 D L H H' ∧ Dk c D ns (t + i) H' ∧ (∃ xs : List Int, H' L = some (.lst (xs.map V.int)) ∧ (∀ x ∈ xs, x ∈ ls) ∧ xs.length = i) ∧ ∃ z, σ = [some (.ref D), some (.ref w), some (.int most), some (.ref L), z]) ⟨Kp2.kp (Kp.new nL), dk.upd nLc nLD, ⟨[], updS, (fun e h => nomatch h), rfl⟩, _, rfl⟩ ?_ ?_
  · rintro i σ H' hi ⟨kp, d, ⟨xs, hL, hx, hl⟩, z, rfl⟩
    have hw' := kp _ _ hw nwD nwL
    refine ⟨_, rfl, .inl ⟨rfl, _, sqL hL⟩, _, rfl, _, rfl, _, rfl, lenL hw' ⟨c, D, ns, _, _, rfl, d, by omega, by rw [List.length_map]; omega, by rw [List.length_map]; exact small100 (by omega), fun v H2 v0 v1 d2 fr2 => ?_⟩⟩
    rw [List.length_map] at v1
    obtain ⟨j, rfl⟩ := Int.eq_ofNat_of_zero_le v0
    have hj : j < ls.length := by omega
    refine ixL (by rw [fr2 _ nwD]; exact hw') (atI_nat (by rw [List.getElem?_map, List.getElem?_eq_getElem hj]; rfl)) ⟨L, _, _, rfl, rfl, by rw [fr2 _ nLD]; exact hL, ?_, ?_⟩
    · rw [List.length_map]
      exact Nat.lt_of_le_of_lt (show _ ≤ 1000 by omega) (by decide)
    · refine ⟨Kp2.up (kp.trans (Kp2.kp (.fr fr2))), (d2.upd nLc nLD).le (by omega), ⟨xs ++ [ls[j]], by rw [updS, List.map_append]; rfl, fun x hx2 => ?_, by rw [List.length_append, hl]; rfl⟩, _, rfl⟩
      rcases List.mem_append.mp hx2 with h | h
      · exact hx x h
      · rw [List.mem_singleton.mp h]; exact List.getElem_mem hj
  · rintro σ H' ⟨kp, d, ⟨xs, hL, hx, hl⟩, z, rfl⟩
    refine ⟨_, rfl, L, xs, rfl, sqL hL, by omega, fun ys q p u nq np inc mem len => ?_⟩
    have s1 : Same H' (upd (upd H' q u) p (.lst (ys.map V.int))) := (samN nq).trans (samN np)
    refine ⟨p, _, rfl, .inl ⟨sqL updS, fun r nr => ?_⟩⟩
    have s2 := s1.trans (samN (o := .tup (ys.map V.int)) nr)
    have d2 : Dk c D ns (t + (n : Int).toNat) (upd (upd (upd H' q u) p (.lst (ys.map V.int))) r (.tup (ys.map V.int))) := by
      obtain ⟨x1, x2, x3, i, m, u, x4, r⟩ := d
      exact ⟨x1, s2 _ _ x2, x3, i, m, u, s2 _ _ x4, r⟩
    exact k r ys _ updS inc (fun y hy => hx y ((mem y).mp hy)) (by omega) (fun b o h h1 => s2 b o (kp b o h h1 (ne_of_none h nL))) (d2.le (by omega))
end
end Fw

set_option Elab.async false
set_option linter.all false
set_option maxRecDepth 100000
set_option maxHeartbeats 4000000
/-! The family of contents that a law draws. -/
namespace Fw
open PySem L2 RZ RT
def addC (cs : List Ct) (c : Ct) : List Ct := if c ∈ cs then cs else cs ++ [c]
structure FamOk (cs : List Ct) : Prop where
  nd : cs.Nodup
  form : ∀ c ∈ cs, c.form
  inb : ∀ (i : Nat) (c : Ct), cs[i]? = some c → c.inB (cs.take i) = true
theorem FamOk.nil : FamOk [] := ⟨List.nodup_nil, (fun c h => nomatch h), (fun i c h => by cases h)⟩
theorem FamOk.add {cs : List Ct} {c : Ct} (f : FamOk cs) (fo : c.form) (inb : c.inB cs = true) : FamOk (addC cs c) := by
  unfold addC
  by_cases h : c ∈ cs
  · rw [if_pos h]; exact f
  · rw [if_neg h]
    refine ⟨?_, fun d hd => ?_, fun i d hd => ?_⟩
    · rw [List.nodup_append]
      exact ⟨f.nd, by simp, fun x hx y hy e => h (by rw [List.mem_singleton.mp hy] at e; rw [← e]; exact hx)⟩
    · rcases List.mem_append.mp hd with hd | hd
      · exact f.form d hd
      · rw [List.mem_singleton.mp hd]; exact fo
    · by_cases hi : i < cs.length
      · rw [List.getElem?_append_left hi] at hd
        rw [List.take_append_of_le_length (Nat.le_of_lt hi)]
        exact f.inb i d hd
      · have hi2 := (List.getElem?_eq_some_iff.mp hd).1
        rw [List.length_append, List.length_singleton] at hi2
        have e : i = cs.length := by omega
        subst e
        rw [List.getElem?_append_right (Nat.le_refl _), Nat.sub_self] at hd
        cases Option.some.inj hd
        rw [List.take_append_of_le_length (Nat.le_refl _), List.take_length]
        exact inb
theorem addC_len (cs : List Ct) (c : Ct) : (addC cs c).length ≤ cs.length + 1 := by
  unfold addC
  split
  · omega
  · rw [List.length_append]; exact Nat.le_refl _
theorem addC_pre (cs : List Ct) (c : Ct) : ∃ m, addC cs c = cs ++ m := by
  unfold addC
  split
  · exact ⟨[], by simp⟩
  · exact ⟨[c], rfl⟩
theorem addC_app {c1 c2 : List Ct} {c : Ct} (h : c ∉ c1) : addC (c1 ++ c2) c = c1 ++ addC c2 c := by
  unfold addC
  by_cases h2 : c ∈ c2
  · rw [if_pos h2, if_pos (List.mem_append_right _ h2)]
  · rw [if_neg h2, if_neg (fun z => (List.mem_append.mp z).elim h h2), List.append_assoc]
theorem addC_ne (cs : List Ct) (c : Ct) : addC cs c ≠ [] := by
  unfold addC
  split
  · rename_i h; exact fun e => by rw [e] at h; cases h
  · simp
theorem addC_mem {cs : List Ct} {c d : Ct} (h : d ∈ addC cs c) : d ∈ cs ∨ d = c := by
  unfold addC at h
  split at h
  · exact .inl h
  · exact (List.mem_append.mp h).imp id fun z => List.mem_singleton.mp z
theorem hasK_add {cs : List Ct} {c : Ct} {ks : List Str} {i : Int} (h : hasK cs ks i = true) : hasK (addC cs c) ks i = true := by
  obtain ⟨m, e⟩ := addC_pre cs c
  rw [e]
  exact hasK_mono h
theorem hasK_at {cs : List Ct} {c : Ct} {ks : List Str} {i : Nat} (h : cs[i]? = some c) (hk : ks.contains c.word = true) : hasK cs ks (i : Int) = true := by
  unfold hasK
  have hi := (List.getElem?_eq_some_iff.mp h).1
  rw [decide_eq_true (show (0 : Int) ≤ (i : Int) by omega), decide_eq_true (show (i : Int) < (cs.length : Int) by omega), Int.toNat_natCast, List.getD_eq_getElem?_getD, h]
  exact hk
def isTree : Ct → Bool
  | .tree _ => true
  | _ => false
theorem foldl_max_le : ∀ (l : List Int) (x m : Int), x ≤ m → (∀ y ∈ l, y ≤ m) → l.foldl max x ≤ m
  | [], _, _, h, _ => h
  | y :: l, x, m, h, hl => by
    rw [List.foldl_cons]
    exact foldl_max_le l _ m (Int.max_le.mpr ⟨h, hl y List.mem_cons_self⟩) fun z hz => hl z (List.mem_cons_of_mem _ hz)
theorem dmax_le {l : List Int} {m : Int} (h0 : 0 ≤ m) (h : ∀ y ∈ l, y ≤ m) : dmax l ≤ m := by
  cases l with
  | nil => exact h0
  | cons x l => exact foldl_max_le l x m (h x List.mem_cons_self) fun y hy => h y (List.mem_cons_of_mem _ hy)
theorem depOf_le {ds : List Int} {c : Ct} {m : Int} (h0 : 0 ≤ m) (h : ∀ d ∈ ds, d ≤ m) : depOf ds c ≤ 1 + m := by
  cases c with
  | leaf rows => show (0 : Int) ≤ 1 + m; omega
  | ver ps r s => show (0 : Int) ≤ 1 + m; omega
  | tree es =>
    show 1 + dmax _ ≤ 1 + m
    have := dmax_le (l := es.map fun e => ds.getD e.2.toNat 0) h0 fun y hy => by
      obtain ⟨e, _, rfl⟩ := List.mem_map.mp hy
      rw [List.getD_eq_getElem?_getD]
      cases q : ds[e.2.toNat]? with
      | none => exact h0
      | some z => exact h z (List.mem_of_getElem? q)
    omega
theorem deps_bd : ∀ (more cs : List Ct), (∀ d ∈ deps cs, d ≤ (cs.countP isTree : Int)) → ∀ d ∈ deps (cs ++ more), d ≤ ((cs ++ more).countP isTree : Int)
  | [], cs, h => by rw [List.append_nil]; exact h
  | c :: more, cs, h => by
    have := deps_bd more (cs ++ [c]) fun d hd => by
      rw [deps_snoc] at hd
      rw [List.countP_append]
      rcases List.mem_append.mp hd with hd | hd
      · have := h d hd
        omega
      · rw [List.mem_singleton.mp hd]
        cases c with
        | leaf rows => show (0 : Int) ≤ _; omega
        | ver ps r s => show (0 : Int) ≤ _; omega
        | tree es =>
          have h1 := depOf_le (ds := deps cs) (c := .tree es) (m := (cs.countP isTree : Int)) (by omega) h
          have h2 : [Ct.tree es].countP isTree = 1 := rfl
          rw [h2]
          omega
    rw [List.append_assoc] at this
    exact this
theorem deps_le (cs : List Ct) : ∀ d ∈ deps cs, d ≤ (cs.countP isTree : Int) := by
  have := deps_bd cs [] fun d h => nomatch h
  exact this
theorem count_two {c1 c2 : List Ct} (h1 : ∀ c ∈ c1, isTree c = false) : (c1 ++ c2).countP isTree ≤ c2.length := by
  rw [List.countP_append, List.countP_eq_zero.mpr fun c hc => by rw [h1 c hc]; simp, Nat.zero_add]
  exact List.countP_le_length
/-- a tree over what is there, in a book of few trees -/
theorem inB_tree {cs : List Ct} {es : List (Str × Int)} (h : ∀ e ∈ es, hasK cs ["leaf", "tree"] e.2 = true) (few : cs.countP isTree ≤ 7) : (Ct.tree es).inB cs = true := by
  unfold Ct.inB
  rw [Bool.and_eq_true]
  refine ⟨List.all_eq_true.mpr h, decide_eq_true ?_⟩
  have := depOf_le (ds := deps cs) (c := .tree es) (m := (cs.countP isTree : Int)) (by omega) (deps_le cs)
  omega
theorem give_ok {K : PySem.W.Frag} {H : Hp} {Q : VK} {E : XK} {T a : Addr} {as : List Addr} {cs : List Ct} {c : Ct} (hT : H T = some (.lst (as.map V.ref))) (hcs : CsAt H as cs) (hc : CtAt H a c) (fo : c.form) (f : FamOk cs) (few : cs.length ≤ 1000)
    (k : ∀ (i : Nat) (as' : List Addr) (H' : Hp), H' T = some (.lst (as'.map V.ref)) → CsAt H' as' (addC cs c) → (addC cs c)[i]? = some c → (∀ b, b ≠ T → H' b = H b) → Q (.int (i : Int)) H') : sp_l_give K [.ref T, .ref a] H Q E := by
  refine ⟨T, a, as, cs, c, rfl, hT, hcs, hc, fo, f.form, f.nd, few, fun i hi => ?_, fun hn => ?_⟩
  · have e : addC cs c = cs := if_pos (List.mem_of_getElem? hi)
    refine k i as H hT ?_ ?_ fun b _ => rfl
    · rw [e]; exact hcs
    · rw [e]; exact hi
  · have e : addC cs c = cs ++ [c] := if_neg hn
    have tm : TM H (upd H T (.lst ((as ++ [a]).map V.ref))) := fun b xs h => updN (ne_of h hT fun z => by cases z) h
    refine k cs.length (as ++ [a]) _ updS ?_ ?_ fun b nb => upd_ne nb
    · rw [e]; exact (hcs.mono tm).snoc (hc.mono tm)
    · rw [e, List.getElem?_append_right (Nat.le_refl _), Nat.sub_self]; rfl
/-- all but these stands -/
def Kf (F : List Addr) (H H' : Hp) : Prop := ∀ b o, H b = some o → b ∉ F → H' b = some o
theorem Kf.refl {F : List Addr} {H : Hp} : Kf F H H := fun _ _ h _ => h
theorem Kf.trans {F : List Addr} {H H1 H2 : Hp} (a : Kf F H H1) (b : Kf F H1 H2) : Kf F H H2 := fun x o h n => b x o (a x o h n) n
theorem Kf.kp {F : List Addr} {D : Addr} {H H' : Hp} (k : Kp D H H') (h : D ∈ F) : Kf F H H' := fun b o e n => k b o e fun z => n (by rw [z]; exact h)
theorem Kf.same {F : List Addr} {H H' : Hp} (k : Same H H') : Kf F H H' := fun b o e _ => k b o e
theorem Kf.but {F : List Addr} {T : Addr} {H H' : Hp} (k : ∀ b, b ≠ T → H' b = H b) (h : T ∈ F) : Kf F H H' := fun b o e n => (k b fun z => n (by rw [z]; exact h)).trans e
theorem Kf.up {F : List Addr} {T : Addr} {H H' : Hp} {o : HO} (k : Kf F H H') (h : T ∈ F) : Kf F H (upd H' T o) := fun b u e n => updN (fun z => n (by rw [z]; exact h)) (k b u e n)
theorem Kf.sub {F G : List Addr} {H H' : Hp} (k : Kf F H H') (h : ∀ x ∈ F, x ∈ G) : Kf G H H' := fun b o e n => k b o e fun z => n (h b z)
/-- what is new may change -/
theorem Kf.out {F : List Addr} {D : Addr} {H H1 H' : Hp} (s : Kp D H H1) (k : Kf F H1 H') (nF : ∀ x ∈ F, x = D ∨ H x = none) : Kp D H H' := fun b o h n => k b o (s b o h n) fun z => by
  rcases nF b z with e | e
  · exact n e
  · rw [h] at e; cases e
theorem Dk.but {c D T : Addr} {ns : List Int} {t : Nat} {H H' : Hp} (d : Dk c D ns t H) (k : ∀ b, b ≠ T → H' b = H b) (h1 : T ≠ c) (h2 : T ≠ D) : Dk c D ns t H' := by
  obtain ⟨a, b, e, i, n, u, hh, r⟩ := d
  exact ⟨a, (k _ h1.symm).trans b, e, i, n, u, (k _ h2.symm).trans hh, r⟩
def sp_l_family (_ : PySem.W.Frag) : Sp := fun vs H Q _ => ∃ (c D : Addr) (ns : List Int) (t : Nat) (l tr v : Int), vs = [.ref D, .int l, .int tr, .int v] ∧ Dk c D ns t H ∧ 1 ≤ l ∧ l ≤ 40 ∧ 0 ≤ tr ∧ tr ≤ 7 ∧ 0 ≤ v ∧ v ≤ 40 ∧ (0 < v → 0 < tr) ∧ t + 20000 < 1000000000 ∧
  ∀ (T : Addr) (as : List Addr) (c1 c2 c3 : List Ct) (H' : Hp), H T = none → H' T = some (.lst (as.map V.ref)) → CsAt H' as (c1 ++ c2 ++ c3) → FamOk (c1 ++ c2 ++ c3) → (∀ d ∈ c1, d.word = "leaf") → c1 ≠ [] → (∀ d ∈ c2, d.word = "tree") → (0 < tr → c2 ≠ []) → (∀ d ∈ c3, d.word = "version") →
    (c1.length : Int) ≤ l → (c2.length : Int) ≤ tr → (c3.length : Int) ≤ v → Kp D H H' → Dk c D ns (t + 20000) H' → Q (.ref T) H'
theorem len_l_family {K : PySem.W.Frag} {vs : List V} {H : Hp} {Q : VK} {E : XK} (h : sp_l_family K vs H Q E) : vs.length = 4 := by obtain ⟨_, _, _, _, _, _, _, rfl, _⟩ := h; rfl
abbrev N_l_family : List Str := ["_law_deck_here", "_law_leaves", "_law_trees", "_law_versions", "_law_things", "_law_rows_here", "_law_lows", "_law_k", "_law_roots", "_law_stands", "_law_parents", "_law_root"]
def t_l_family_vers (K : PySem.W.Frag) : TS := (tSeq (tFor (iRng1 (tCons (tVar 3) tNil)) (gName 7) (tSeq (tAsg (tCall (sp_l_some K) [] E0 (tCons (tVar 0) (tCons (tSl (rSlL K) (tVar 9) (tPart (tUn rNegI (tC (.int 5)))) tNoPart) (tCons (tCall (sp_l_draw K) [] E0 (tCons (tVar 0) (tCons (tC (.int 4)) tNil))) tNil)))) (gName 10))
    (tSeq (tAsg (tOp (rIx K) (tVar 8) (tCall (sp_l_draw K) [] E0 (tCons (tVar 0) (tCons (tCB (fLen K) (tCons (tVar 8) tNil)) tNil)))) (gName 11))
    (tDrop (tBM K "list" rAppend (tVar 9) (tCons (tCall (sp_l_give K) [] E0 (tCons (tVar 4) (tCons (tTup (tCons (tC (.str "version")) (tCons (tVar 10) (tCons (tVar 11) (tCons (tCall (sp_l_draw K) [] E0 (tCons (tVar 0) (tCons (tOp rAddI (tOp rPowI (tC (.int 10)) (tC (.int 18))) (tC (.int 1))) tNil))) tNil))))) tNil))) tNil))))))
    (tRet (tVar 4)))
def t_l_family_mid2 (K : PySem.W.Frag) : TS := (tSeq (tAsg (tLst tNil) (gName 9))
    (t_l_family_vers K))
def t_l_family_trees (K : PySem.W.Frag) : TS := (tSeq (tFor (iRng1 (tCons (tVar 2) tNil)) (gName 7) (tDrop (tBM K "list" rAppend (tVar 8) (tCons (tCall (sp_l_give K) [] E0 (tCons (tVar 4) (tCons (tTup (tCons (tC (.str "tree")) (tCons (tCall (sp_l_entries K) [] E0 (tCons (tVar 0) (tCons (tOp rCat (tVar 6) (tVar 8)) tNil))) tNil))) tNil))) tNil))))
    (t_l_family_mid2 K))
def t_l_family_mid (K : PySem.W.Frag) : TS := (tSeq (tAsg (tLst tNil) (gName 8))
    (t_l_family_trees K))
def t_l_family_leaves (K : PySem.W.Frag) : TS := (tSeq (tFor (iRng1 (tCons (tVar 1) tNil)) (gName 7) (tSeq (tAsg (tCall (sp_l_rows K) [] E0 (tCons (tVar 0) (tCons (tVar 5) tNil))) (gName 5))
    (tDrop (tBM K "list" rAppend (tVar 6) (tCons (tCall (sp_l_give K) [] E0 (tCons (tVar 4) (tCons (tTup (tCons (tC (.str "leaf")) (tCons (tVar 5) tNil))) tNil))) tNil)))))
    (t_l_family_mid K))
def t_l_family (K : PySem.W.Frag) : TS := (tSeq (tAsg (tLst tNil) (gName 4))
    (tSeq (tAsg (tTup tNil) (gName 5))
    (tSeq (tAsg (tLst tNil) (gName 6))
    (t_l_family_leaves K))))
theorem word_tree {c : Ct} (h : c.word = "leaf" ∨ c.word = "version") : isTree c = false := by
  cases c with
  | leaf rows => rfl
  | ver ps r s => rfl
  | tree es => rcases h with h | h
               · exact absurd h wv_lt.symm
               · exact absurd h wv_tv
theorem con1 {a : Str} : ([a] : List Str).contains a = true := by simp
theorem con2 {a b : Str} : ([a, b] : List Str).contains a = true := by simp
theorem con3 {a b : Str} : ([a, b] : List Str).contains b = true := by simp
theorem cut_ints (xs : List Int) (lo hi : Option Int) : ∃ ys : List Int, cutV (xs.map V.int) lo hi = ys.map V.int ∧ (∀ y ∈ ys, y ∈ xs) ∧ ys.length ≤ xs.length := by
  unfold cutV
  rw [List.length_map]
  refine ⟨(xs.drop (HT.sIx xs.length 0 lo)).take (HT.sIx xs.length xs.length hi - HT.sIx xs.length 0 lo), by rw [List.map_take, List.map_drop], fun y hy => List.mem_of_mem_drop (List.mem_of_mem_take hy), ?_⟩
  rw [List.length_take, List.length_drop]
  omega
section
variable {K : PySem.W.Frag} {vs : List V} {H : Hp} {Q : VK} {E : XK}
theorem fam_vers {c D T W R S : Addr} {ns : List Int} {t : Nat} {l tr v : Int} {as : List Addr} {c1 c2 : List Ct} {rs : List Int} {z5 z7 z10 z11 : Option V} (dk : Dk c D ns t H) (ne : D ≠ T ∧ D ≠ R ∧ D ≠ S ∧ T ≠ R ∧ T ≠ S ∧ R ≠ S ∧ c ≠ T ∧ c ≠ S) (hT : H T = some (.lst (as.map V.ref))) (hcs : CsAt H as (c1 ++ c2)) (f : FamOk (c1 ++ c2))
    (hR : H R = some (.lst (rs.map V.int))) (rk : ∀ x ∈ rs, hasK (c1 ++ c2) ["tree"] x = true) (rz : rs.length ≤ 1000) (hS : H S = some (.lst [])) (k1 : ∀ d ∈ c1, d.word = "leaf") (k2 : ∀ d ∈ c2, d.word = "tree") (v0 : 0 ≤ v) (v1 : v ≤ 40) (vt : 0 < v → rs ≠ []) (cl : c1.length + c2.length ≤ 100) (ht : t + 2000 < 1000000000)
    (k : ∀ (as' : List Addr) (c3 : List Ct) (H' : Hp), H' T = some (.lst (as'.map V.ref)) → CsAt H' as' (c1 ++ c2 ++ c3) → FamOk (c1 ++ c2 ++ c3) → (∀ d ∈ c3, d.word = "version") → (c3.length : Int) ≤ v → Kf [D, T, S] H H' → Dk c D ns (t + 2000) H' → Q (.ref T) H') :
    t_l_family_vers K { nx := fun _ H' => Q .non H', rt := Q } [some (.ref D), some (.int l), some (.int tr), some (.int v), some (.ref T), z5, some (.ref W), z7, some (.ref R), some (.ref S), z10, z11] H := by
  obtain ⟨nDT, nDR, nDS, nTR, nTS, nRS, ncT, ncS⟩ := ne
  refine ⟨_, rfl, _, rfl, by omega, by omega, ?_⟩
  refine for_range (lo := 0) (n := v.toNat) (fun i σ H' => Kf [D, T, S] H H' ∧ Dk c D ns (t + 45 * i) H' ∧ (∃ (as' : List Addr) (c3 : List Ct) (ss : List Int), H' T = some (.lst (as'.map V.ref)) ∧ CsAt H' as' (c1 ++ c2 ++ c3) ∧ FamOk (c1 ++ c2 ++ c3) ∧ (∀ d ∈ c3, d.word = "version") ∧ c3.length ≤ i ∧ H' S = some (.lst (ss.map V.int)) ∧ (∀ x ∈ ss, hasK (c1 ++ c2 ++ c3) ["version"] x = true) ∧ ss.length = i) ∧ ∃ z7 z10 z11, σ = [some (.ref D), some (.int l), some (.int tr), some (.int v), some (.ref T), z5, some (.ref W), z7, some (.ref R), some (.ref S), z10, z11])
    ⟨.refl, dk, ⟨as, [], [], hT, by rw [List.append_nil]; exact hcs, by rw [List.append_nil]; exact f, (fun d h => nomatch h), Nat.le_refl _, hS, (fun d h => nomatch h), rfl⟩, _, _, _, rfl⟩ ?_ ?_
  · rintro i σ H1 hi ⟨kf, d1, ⟨as1, c3, ss, hT1, hcs1, f1, k3, hl3, hS1, sk, sl⟩, z7, z10, z11, rfl⟩
    have hi40 : i < 40 := by omega
    -- parents
    refine ⟨_, rfl, _, rfl, _, rfl, _, rfl, S, _, rfl, sqL hS1, fun P nP => ?_⟩
    obtain ⟨qs, eq, hq, lq⟩ := cut_ints ss (some (-5)) none
    have nPD := d1.neD nP
    have nPc := d1.neC nP
    have hP2 : upd H1 P (.lst (qs.map V.int)) P = some (.lst (qs.map V.int)) := updS
    show tCons (tCall (sp_l_draw K) [] E0 (tCons (tVar 0) (tCons (tC (.int 4)) tNil))) tNil _ (upd H1 P (.lst (cutV (ss.map V.int) (some (-5)) none))) _
    rw [eq]
    have d2 := d1.upd (o := .lst (qs.map V.int)) nPc nPD
    have s2 : Same H1 (upd H1 P (.lst (qs.map V.int))) := samN nP
    generalize upd H1 P (.lst (qs.map V.int)) = H2 at hP2 d2 s2
    refine ⟨_, rfl, c, D, ns, _, 4, rfl, d2, by omega, by decide, by decide, fun m H3 m0 m1 d3 fr3 => ?_⟩
    refine ⟨c, D, P, ns, qs, _, m, rfl, d3, by rw [fr3 _ nPD]; exact hP2, nPD, by omega, m0, by omega, by omega, fun p ps H4 hp inc sub lp kp4 d4 => ?_⟩
    -- root
    have kf4 : Kf [D, T, S] H1 H4 := (Kf.same s2).trans ((Kf.but fr3 (by simp)).trans (Kf.kp kp4 (by simp)))
    have keep4 : ∀ b o, H1 b = some o → b ≠ D → H4 b = some o := fun b o e n => kp4 b o ((fr3 b n).trans (s2 b o e)) n
    have hR4 : H4 R = some (.lst (rs.map V.int)) := keep4 _ _ (kf _ _ hR (by simp [nDR.symm, nTR.symm, nRS])) nDR.symm
    have rpos : 0 < rs.length := List.length_pos_iff.mpr (vt (by omega))
    refine ⟨_, rfl, _, rfl, _, rfl, lenL hR4 ⟨c, D, ns, _, _, rfl, d4, by omega, by rw [List.length_map]; omega, by rw [List.length_map]; exact small100 (by omega), fun w H5 w0 w1 d5 fr5 => ?_⟩⟩
    rw [List.length_map] at w1
    obtain ⟨j, rfl⟩ := Int.eq_ofNat_of_zero_le w0
    have hj : j < rs.length := by omega
    refine ixL (by rw [fr5 _ nDR.symm]; exact hR4) (atI_nat (by rw [List.getElem?_map, List.getElem?_eq_getElem hj]; rfl)) ?_
    have keep5 : ∀ b o, H1 b = some o → b ≠ D → H5 b = some o := fun b o e n => (fr5 b n).trans (keep4 b o e n)
    have hS5 := keep5 _ _ hS1 nDS.symm
    have hT5 := keep5 _ _ hT1 nDT.symm
    -- the version
    refine ⟨_, rfl, .inl ⟨rfl, _, sqL hS5⟩, _, rfl, ?_⟩
    refine ⟨_, rfl, _, rfl, _, rfl, ⟨_, _, rfl, rfl, ⟨by decide, by decide, by decide⟩, _, _, rfl, rfl, c, D, ns, _, _, rfl, d5, by omega, by decide +kernel, by decide +kernel, fun st H6 st0 st1 d6 fr6 => ⟨by show (4 : Nat) ≤ sizeLine; decide, fun A nA => ?_⟩⟩⟩
    have hp6 : H6 p = some (.tup (ps.map V.int)) := by
      have npD : p ≠ D := by
        obtain ⟨xs, e⟩ := d4.someD
        exact ne_of hp e (by intro z; cases z)
      rw [fr6 _ npD, fr5 _ npD]
      exact hp
    have keep6 : ∀ b o, H1 b = some o → b ≠ D → H6 b = some o := fun b o e n => (fr6 b n).trans (keep5 b o e n)
    have sA : Same H6 (upd H6 A (.tup [.str "version", .ref p, .int rs[j], .int st])) := samN nA
    have hc : CtAt (upd H6 A (.tup [.str "version", .ref p, .int rs[j], .int st])) A (.ver ps rs[j] st) := ⟨p, updS, sA _ _ hp6⟩
    have d7 := d6.upd (o := .tup [.str "version", .ref p, .int rs[j], .int st]) (d6.neC nA) (d6.neD nA)
    generalize upd H6 A (.tup [.str "version", .ref p, .int rs[j], .int st]) = H7 at sA hc d7
    have keep7 : ∀ b o, H1 b = some o → b ≠ D → H7 b = some o := fun b o e n => sA b o (keep6 b o e n)
    have tm7 : TM H1 H7 := fun b xs h => keep7 b _ h (by
      obtain ⟨ys, e⟩ := d1.someD
      exact ne_of h e (by intro z; cases z))
    have st1 : st < 1000000000000000001 := st1
    have fo : (Ct.ver ps rs[j] st).form := ⟨by omega, inc, st0, by omega⟩
    have inb : (Ct.ver ps rs[j] st).inB (c1 ++ c2 ++ c3) = true := by
      unfold Ct.inB
      rw [Bool.and_eq_true]
      exact ⟨List.all_eq_true.mpr fun x hx => sk x (hq x (sub x hx)), hasK_mono (rk _ (List.getElem_mem hj))⟩
    have nin : (Ct.ver ps rs[j] st) ∉ c1 ++ c2 := fun h => by
      rcases List.mem_append.mp h with h | h
      · exact wv_lv (k1 _ h).symm
      · exact wv_tv (k2 _ h).symm
    dsimp only [tNil]
    show sp_l_give K [V.ref T, V.ref A] _ _ E0
    refine give_ok (keep7 _ _ hT1 nDT.symm) (hcs1.mono tm7) hc fo f1 (by rw [List.length_append, List.length_append]; omega) fun n as2 H8 hT8 hcs8 hn fr8 => ?_
    have e8 := addC_app (c2 := c3) nin
    have hS8 : H8 S = some (.lst (ss.map V.int)) := by rw [fr8 _ nTS.symm]; exact keep7 _ _ hS1 nDS.symm
    refine ⟨S, _, _, rfl, rfl, hS8, ?_, ?_⟩
    · rw [List.length_map]
      exact Nat.lt_of_le_of_lt (show _ ≤ 1000 by omega) (by decide)
    have f8 := f1.add fo inb
    rw [e8] at hcs8 hn f8
    have tm9 : TM H8 (upd H8 S (.lst (ss.map V.int ++ [.int (n : Int)]))) := fun b xs h => updN (ne_of h hS8 (by intro z; cases z)) h
    refine ⟨kf.trans ((kf4.trans ((Kf.but fr5 (by simp)).trans ((Kf.but fr6 (by simp)).trans ((Kf.same sA).trans (Kf.but fr8 (by simp)))))).up (by simp)), ((d7.but fr8 ncT.symm nDT.symm).upd ncS.symm nDS.symm).le (by omega), ⟨as2, addC c3 (.ver ps rs[j] st), ss ++ [(n : Int)], updN nTS hT8, hcs8.mono tm9, f8, fun d hd => ?_, ?_, by rw [updS, List.map_append]; rfl, fun x hx => ?_, by rw [List.length_append, sl]; rfl⟩, _, _, _, rfl⟩
    · rcases addC_mem hd with h | h
      · exact k3 d h
      · rw [h]; rfl
    · have := addC_len c3 (.ver ps rs[j] st)
      omega
    · rcases List.mem_append.mp hx with h | h
      · rw [← e8]; exact hasK_add (sk x h)
      · rw [List.mem_singleton.mp h]; exact hasK_at hn con1
  · rintro σ H1 ⟨kf, d1, ⟨as1, c3, ss, hT1, hcs1, f1, k3, hl3, hS1, sk, sl⟩, z7, z10, z11, rfl⟩
    exact ⟨_, rfl, k as1 c3 H1 hT1 hcs1 f1 k3 (by omega) kf (d1.le (by omega))⟩
theorem fam_trees {c D T W R : Addr} {ns : List Int} {t : Nat} {l tr v : Int} {as : List Addr} {c1 : List Ct} {ls : List Int} {z5 z7 z9 z10 z11 : Option V} (dk : Dk c D ns t H) (ne : D ≠ T ∧ D ≠ R ∧ D ≠ W ∧ T ≠ R ∧ T ≠ W ∧ R ≠ W ∧ c ≠ T ∧ c ≠ R) (hT : H T = some (.lst (as.map V.ref))) (hcs : CsAt H as c1) (f : FamOk c1)
    (hW : H W = some (.lst (ls.map V.int))) (lk : ∀ x ∈ ls, hasK c1 ["leaf", "tree"] x = true) (lz : ls.length ≤ 100) (lne : ls ≠ []) (hR : H R = some (.lst [])) (k1 : ∀ d ∈ c1, d.word = "leaf") (t0 : 0 ≤ tr) (t1 : tr ≤ 7) (v0 : 0 ≤ v) (v1 : v ≤ 40) (vt : 0 < v → 0 < tr) (cl : c1.length ≤ 50) (ht : t + 3000 < 1000000000)
    (k : ∀ (T' : Addr) (as' : List Addr) (c2 c3 : List Ct) (H' : Hp), T' = T → H' T = some (.lst (as'.map V.ref)) → CsAt H' as' (c1 ++ c2 ++ c3) → FamOk (c1 ++ c2 ++ c3) → (∀ d ∈ c2, d.word = "tree") → (0 < tr → c2 ≠ []) → (∀ d ∈ c3, d.word = "version") → (c2.length : Int) ≤ tr → (c3.length : Int) ≤ v → Kf [D, T, R] H H' → Dk c D ns (t + 3000) H' → Q (.ref T) H') :
    t_l_family_trees K { nx := fun _ H' => Q .non H', rt := Q } [some (.ref D), some (.int l), some (.int tr), some (.int v), some (.ref T), z5, some (.ref W), z7, some (.ref R), z9, z10, z11] H := by
  obtain ⟨nDT, nDR, nDW, nTR, nTW, nRW, ncT, ncR⟩ := ne
  refine ⟨_, rfl, _, rfl, by omega, by omega, ?_⟩
  refine for_range (lo := 0) (n := tr.toNat) (fun i σ H' => Kf [D, T, R] H H' ∧ Dk c D ns (t + 45 * i) H' ∧ (∃ (as' : List Addr) (c2 : List Ct) (rs : List Int), H' T = some (.lst (as'.map V.ref)) ∧ CsAt H' as' (c1 ++ c2) ∧ FamOk (c1 ++ c2) ∧ (∀ d ∈ c2, d.word = "tree") ∧ c2.length ≤ i ∧ (0 < i → c2 ≠ []) ∧ H' R = some (.lst (rs.map V.int)) ∧ (∀ x ∈ rs, hasK (c1 ++ c2) ["tree"] x = true) ∧ rs.length = i) ∧ ∃ z7 z9 z10 z11, σ = [some (.ref D), some (.int l), some (.int tr), some (.int v), some (.ref T), z5, some (.ref W), z7, some (.ref R), z9, z10, z11])
    ⟨.refl, dk, ⟨as, [], [], hT, by rw [List.append_nil]; exact hcs, by rw [List.append_nil]; exact f, (fun d h => nomatch h), Nat.le_refl _, (fun z => absurd z (Nat.lt_irrefl _)), hR, (fun d h => nomatch h), rfl⟩, _, _, _, _, rfl⟩ ?_ ?_
  · rintro i σ H1 hi ⟨kf, d1, ⟨as1, c2, rs, hT1, hcs1, f1, k2, hl2, _, hR1, rk, rl⟩, z7, z9, z10, z11, rfl⟩
    have hi7 : i < 7 := by omega
    have hW1 := kf _ _ hW (by simp [nDW.symm, nTW.symm, nRW.symm])
    refine ⟨_, rfl, .inl ⟨rfl, _, sqL hR1⟩, _, rfl, ?_⟩
    refine ⟨_, rfl, _, rfl, _, rfl, W, R, _, _, rfl, rfl, hW1, hR1, ?_, fun P nP => ?_⟩
    · rw [List.length_map, List.length_map]
      exact Nat.le_trans (show _ ≤ 1000 by omega) (by decide)
    have nPD := d1.neD nP
    have nPc := d1.neC nP
    have d2 := d1.upd (o := .lst (ls.map V.int ++ rs.map V.int)) nPc nPD
    have s2 : Same H1 (upd H1 P (.lst (ls.map V.int ++ rs.map V.int))) := samN nP
    have hP2 : upd H1 P (.lst (ls.map V.int ++ rs.map V.int)) P = some (.lst ((ls ++ rs).map V.int)) := by rw [updS, List.map_append]
    generalize upd H1 P (.lst (ls.map V.int ++ rs.map V.int)) = H2 at hP2 d2 s2
    refine ⟨c, D, P, ns, ls ++ rs, _, rfl, d2, hP2, nPD, by simp [lne], by rw [List.length_append]; omega, by omega, fun r bs es H3 hr lb hb le hes pw kp3 d3 => ⟨by show (2 : Nat) ≤ sizeLine; decide, fun A nA => ?_⟩⟩
    have keep3 : ∀ b o, H1 b = some o → b ≠ D → H3 b = some o := fun b o e n => kp3 b o (s2 b o e) n
    have sA : Same H3 (upd H3 A (.tup [.str "tree", .ref r])) := samN nA
    have hc : CtAt (upd H3 A (.tup [.str "tree", .ref r])) A (.tree es) := ⟨r, bs, updS, sA _ _ hr, lb, fun i b e x y => sA _ _ (hb i b e x y)⟩
    have d4 := d3.upd (o := .tup [.str "tree", .ref r]) (d3.neC nA) (d3.neD nA)
    generalize upd H3 A (.tup [.str "tree", .ref r]) = H4 at sA hc d4
    have keep4 : ∀ b o, H1 b = some o → b ≠ D → H4 b = some o := fun b o e n => sA b o (keep3 b o e n)
    have tm4 : TM H1 H4 := fun b xs h => keep4 b _ h (by
      obtain ⟨ys, e⟩ := d1.someD
      exact ne_of h e (by intro z; cases z))
    have fo : (Ct.tree es).form := ⟨by omega, fun e he => (hes e he).1, pw⟩
    have inb : (Ct.tree es).inB (c1 ++ c2) = true := by
      refine inB_tree (fun e he => ?_) (Nat.le_trans (count_two fun d hd => word_tree (.inl (k1 d hd))) (by omega))
      rcases List.mem_append.mp (hes e he).2 with h | h
      · exact hasK_mono (lk _ h)
      · have := rk _ h
        unfold hasK at this ⊢
        simp only [Bool.and_eq_true, decide_eq_true_eq] at this ⊢
        refine ⟨this.1, this.2.1, ?_⟩
        have q := this.2.2
        simp at q ⊢
        exact .inr q
    have nin : (Ct.tree es) ∉ c1 := fun h => wv_lt (k1 _ h).symm
    dsimp only [tNil]
    show sp_l_give K [V.ref T, V.ref A] _ _ E0
    refine give_ok (keep4 _ _ hT1 nDT.symm) (hcs1.mono tm4) hc fo f1 (by rw [List.length_append]; omega) fun n as2 H8 hT8 hcs8 hn fr8 => ?_
    have e8 := addC_app (c2 := c2) nin
    have hR8 : H8 R = some (.lst (rs.map V.int)) := by rw [fr8 _ nTR.symm]; exact keep4 _ _ hR1 nDR.symm
    refine ⟨R, _, _, rfl, rfl, hR8, ?_, ?_⟩
    · rw [List.length_map]
      exact Nat.lt_of_le_of_lt (show _ ≤ 1000 by omega) (by decide)
    have f8 := f1.add fo inb
    rw [e8] at hcs8 hn f8
    have tm9 : TM H8 (upd H8 R (.lst (rs.map V.int ++ [.int (n : Int)]))) := fun b xs h => updN (ne_of h hR8 (by intro z; cases z)) h
    refine ⟨kf.trans (((Kf.same s2).trans ((Kf.kp kp3 (by simp)).trans ((Kf.same sA).trans (Kf.but fr8 (by simp))))).up (by simp)), ((d4.but fr8 ncT.symm nDT.symm).upd ncR.symm nDR.symm).le (by omega), ⟨as2, addC c2 (.tree es), rs ++ [(n : Int)], updN nTR hT8, hcs8.mono tm9, f8, fun d hd => ?_, ?_, fun _ => addC_ne _ _, by rw [updS, List.map_append]; rfl, fun x hx => ?_, by rw [List.length_append, rl]; rfl⟩, _, _, _, _, rfl⟩
    · rcases addC_mem hd with h | h
      · exact k2 d h
      · rw [h]; rfl
    · have := addC_len c2 (.tree es)
      omega
    · rcases List.mem_append.mp hx with h | h
      · rw [← e8]; exact hasK_add (rk x h)
      · rw [List.mem_singleton.mp h]; exact hasK_at hn con1
  · rintro σ H1 ⟨kf, d1, ⟨as1, c2, rs, hT1, hcs1, f1, k2, hl2, ne2, hR1, rk, rl⟩, z7, z9, z10, z11, rfl⟩
    refine ⟨by decide, fun S nS => ?_⟩
    have sS : Same H1 (upd H1 S (.lst [])) := samN nS
    refine fam_vers (d1.upd (d1.neC nS) (d1.neD nS)) ⟨nDT, nDR, (d1.neD nS).symm, nTR, ne_of_none hT1 nS, ne_of_none hR1 nS, ncT, (d1.neC nS).symm⟩ (sS _ _ hT1) (hcs1.mono (TM.of sS)) f1 (sS _ _ hR1) rk (by omega) updS k1 k2 v0 v1 (fun h e => ?_) (by omega) (by omega) fun as' c3 H' hT' hcs' f' k3 l3 kf' d' => ?_
    · have := vt h
      rw [e] at rl
      have : tr.toNat = 0 := rl.symm
      omega
    · have nS0 : H S = none ∨ S = D ∨ S = T ∨ S = R := by
        by_cases q : S ∈ [D, T, R]
        · simp at q; exact .inr q
        · cases e : H S with
          | none => exact .inl rfl
          | some o => rw [kf S o e q] at nS; cases nS
      have nSD := d1.neD nS
      have nST : S ≠ T := (ne_of_none hT1 nS).symm
      have nSR : S ≠ R := (ne_of_none hR1 nS).symm
      have nS0 : H S = none := by
        rcases nS0 with h | h | h | h
        · exact h
        · exact absurd h nSD
        · exact absurd h nST
        · exact absurd h nSR
      refine k T as' c2 c3 H' rfl hT' hcs' f' k2 (fun h => ne2 (by omega)) k3 (by omega) l3 (fun b o e n => ?_) (d'.le (by omega))
      have hb : b ≠ S := ne_of_none e nS0
      have n2 : b ∉ [D, T, S] := fun z => by
        simp at z n
        rcases z with z | z | z
        · exact n.1 z
        · exact n.2.1 z
        · exact hb z
      exact kf' b o (sS b o (kf b o e n)) n2
theorem pure_l_family (h : sp_l_family K vs H Q E) : t_l_family K { nx := fun _ H' => Q .non H', rt := Q } (start N_l_family vs) H := by
  obtain ⟨c, D, ns, t, l, tr, v, rfl, dk, l0, l1, t0, t1, v0, v1, vt, ht, k⟩ := h
  refine ⟨by decide, fun T nT => ?_⟩
  have d1 := dk.upd (o := .lst []) (dk.neC nT) (dk.neD nT)
  have k1 : Kp D H (upd H T (.lst [])) := .new nT
  have hT1 : upd H T (.lst []) T = some (.lst ([].map V.ref)) := updS
  have nDT := (dk.neD nT).symm
  have ncT := (dk.neC nT).symm
  generalize upd H T (.lst []) = H1 at d1 k1 hT1
  refine ⟨by decide, fun r nr => ?_⟩
  have nTr : T ≠ r := ne_of_none hT1 nr
  have d2 := d1.upd (o := .tup []) (d1.neC nr) (d1.neD nr)
  have k2 : Kp D H (upd H1 r (.tup [])) := k1.trans (.new nr)
  have hT2 : upd H1 r (.tup []) T = some (.lst ([].map V.ref)) := updN nTr hT1
  have hr2 : upd H1 r (.tup []) r = some (.tup (([] : List Str).map V.str)) := updS
  generalize upd H1 r (.tup []) = H2 at d2 k2 hT2 hr2
  refine ⟨by decide, fun W nW => ?_⟩
  have nTW : T ≠ W := ne_of_none hT2 nW
  have nrW : r ≠ W := ne_of_none hr2 nW
  have nDW := (d2.neD nW).symm
  have ncW := (d2.neC nW).symm
  have d3 := d2.upd (o := .lst []) ncW.symm nDW.symm
  have k3 : Kp D H (upd H2 W (.lst [])) := k2.trans (.new nW)
  have hT3 : upd H2 W (.lst []) T = some (.lst ([].map V.ref)) := updN nTW hT2
  have hr3 : upd H2 W (.lst []) r = some (.tup (([] : List Str).map V.str)) := updN nrW hr2
  have hW3 : upd H2 W (.lst []) W = some (.lst (([] : List Int).map V.int)) := updS
  have nW0 : H W = none := k2.free nW nDW.symm
  generalize upd H2 W (.lst []) = H3 at d3 k3 hT3 hr3 hW3
  show t_l_family_leaves K { nx := fun _ H' => Q .non H', rt := Q } [some (.ref D), some (.int l), some (.int tr), some (.int v), some (.ref T), some (.ref r), some (.ref W), none, none, none, none, none] H3
  refine ⟨_, rfl, _, rfl, by omega, by omega, ?_⟩
  refine for_range (lo := 0) (n := l.toNat) (fun i σ H' => Kf [D, T, W] H3 H' ∧ Dk c D ns (t + 320 * i) H' ∧ (∃ (as' : List Addr) (c1 : List Ct) (ls : List Int) (r' : Addr) (rows : List Str), H' T = some (.lst (as'.map V.ref)) ∧ CsAt H' as' c1 ∧ FamOk c1 ∧ (∀ d ∈ c1, d.word = "leaf") ∧ c1.length ≤ i ∧ (0 < i → c1 ≠ []) ∧ H' W = some (.lst (ls.map V.int)) ∧ (∀ x ∈ ls, hasK c1 ["leaf", "tree"] x = true) ∧ ls.length = i ∧ H' r' = some (.tup (rows.map V.str)) ∧ rows.length ≤ 7 ∧ (∀ z ∈ rows, OkS z) ∧ ∃ z7, σ = [some (.ref D), some (.int l), some (.int tr), some (.int v), some (.ref T), some (.ref r'), some (.ref W), z7, none, none, none, none]))
    ⟨.refl, d3, ⟨[], [], [], r, [], hT3, CsAt.nil, FamOk.nil, (fun d h => nomatch h), Nat.le_refl _, (fun z => absurd z (Nat.lt_irrefl _)), hW3, (fun d h => nomatch h), rfl, hr3, Nat.zero_le _, (fun d h => nomatch h), _, rfl⟩⟩ ?_ ?_
  · rintro i σ H4 hi ⟨kf, d4, ⟨as1, c1, ls, r', rows, hT4, hcs1, f1, kl, hl1, _, hW4, lk, ll, hr4, few, ok, z7, rfl⟩⟩
    have hi40 : i < 40 := by omega
    refine ⟨_, rfl, _, rfl, c, D, r', ns, _, rows, rfl, d4, hr4, few, ok, by omega, fun q rows' H5 hq few' ok' kp5 d5 => ?_⟩
    have hW5 := kp5 _ _ hW4 nDW.symm
    refine ⟨_, rfl, .inl ⟨rfl, _, sqL hW5⟩, _, rfl, ?_⟩
    refine ⟨_, rfl, by show (2 : Nat) ≤ sizeLine; decide, fun A nA => ?_⟩
    have sA : Same H5 (upd H5 A (.tup [.str "leaf", .ref q])) := samN nA
    have hc : CtAt (upd H5 A (.tup [.str "leaf", .ref q])) A (.leaf rows') := ⟨q, updS, sA _ _ hq⟩
    have d6 := d5.upd (o := .tup [.str "leaf", .ref q]) (d5.neC nA) (d5.neD nA)
    generalize upd H5 A (.tup [.str "leaf", .ref q]) = H6 at sA hc d6
    have keep6 : ∀ b o, H4 b = some o → b ≠ D → H6 b = some o := fun b o e n => sA b o (kp5 b o e n)
    have tm6 : TM H4 H6 := fun b xs h => keep6 b _ h (by
      obtain ⟨ys, e⟩ := d4.someD
      exact ne_of h e (by intro z; cases z))
    have fo : (Ct.leaf rows').form := ⟨by omega, ok'⟩
    dsimp only [tNil]
    show sp_l_give K [V.ref T, V.ref A] _ _ E0
    refine give_ok (keep6 _ _ hT4 nDT.symm) (hcs1.mono tm6) hc fo f1 (by omega) fun n as2 H8 hT8 hcs8 hn fr8 => ?_
    have hW8 : H8 W = some (.lst (ls.map V.int)) := by rw [fr8 _ nTW.symm]; exact keep6 _ _ hW4 nDW.symm
    refine ⟨W, _, _, rfl, rfl, hW8, ?_, ?_⟩
    · rw [List.length_map]
      exact Nat.lt_of_le_of_lt (show _ ≤ 1000 by omega) (by decide)
    have f8 := f1.add fo rfl
    have tm9 : TM H8 (upd H8 W (.lst (ls.map V.int ++ [.int (n : Int)]))) := fun b xs h => updN (ne_of h hW8 (by intro z; cases z)) h
    have hq6 := sA _ _ hq
    have hq8 : H8 q = some (.tup (rows'.map V.str)) := by
      rw [fr8 _ (ne_of hq6 (keep6 _ _ hT4 nDT.symm) (by intro z; cases z))]
      exact hq6
    refine ⟨kf.trans (((Kf.kp kp5 (by simp)).trans ((Kf.same sA).trans (Kf.but fr8 (by simp)))).up (by simp)), ((d6.but fr8 ncT.symm nDT.symm).upd ncW.symm nDW.symm).le (by omega), ⟨as2, addC c1 (.leaf rows'), ls ++ [(n : Int)], q, rows', updN nTW hT8, hcs8.mono tm9, f8, fun d hd => ?_, ?_, fun _ => addC_ne _ _, by rw [updS, List.map_append]; rfl, fun x hx => ?_, by rw [List.length_append, ll]; rfl, tm9 _ _ hq8, few', ok', _, rfl⟩⟩
    · rcases addC_mem hd with h | h
      · exact kl d h
      · rw [h]; rfl
    · have := addC_len c1 (.leaf rows')
      omega
    · rcases List.mem_append.mp hx with h | h
      · exact hasK_add (lk x h)
      · rw [List.mem_singleton.mp h]; exact hasK_at hn con2
  · rintro σ H4 ⟨kf, d4, ⟨as1, c1, ls, r', rows, hT4, hcs1, f1, kl, hl1, ne1, hW4, lk, ll, hr4, few, ok, z7, rfl⟩⟩
    refine ⟨by decide, fun R nR => ?_⟩
    have sR : Same H4 (upd H4 R (.lst [])) := samN nR
    have lne : ls ≠ [] := fun e => by
      rw [e] at ll
      have : l.toNat = 0 := ll.symm
      omega
    refine fam_trees (d4.upd (d4.neC nR) (d4.neD nR)) ⟨nDT, (d4.neD nR).symm, nDW, ne_of_none hT4 nR, nTW, (ne_of_none hW4 nR).symm, ncT, (d4.neC nR).symm⟩ (sR _ _ hT4) (hcs1.mono (TM.of sR)) f1 (sR _ _ hW4) lk (by omega) lne updS kl t0 t1 v0 v1 vt (by omega) (by omega) fun T' as' c2 c3 H' eT hT' hcs' f' k2' ne2 k3' l2 l3 kf' d' => ?_
    have nRD := d4.neD nR
    have nRT : R ≠ T := (ne_of_none hT4 nR).symm
    have nRW : R ≠ W := (ne_of_none hW4 nR).symm
    have nR3 : H3 R = none := by
      cases e : H3 R with
      | none => rfl
      | some o => rw [kf R o e (by simp [nRD, nRT, nRW])] at nR; cases nR
    have nR0 : H R = none := k3.free nR3 nRD
    refine k T as' c1 c2 c3 H' nT hT' hcs' f' kl (ne1 (by omega)) k2' ne2 k3' (by omega) l2 l3 ?_ (d'.le (by omega))
    intro b o e n
    have b1 : b ≠ T := ne_of_none e nT
    have b2 : b ≠ W := ne_of_none e nW0
    have b3 : b ≠ R := ne_of_none e nR0
    exact kf' b o (sR b o (kf b o (k3 b o e n) (by simp [n, b1, b2]))) (by simp [n, b1, b3])
end
end Fw

set_option Elab.async false
set_option linter.all false
set_option maxRecDepth 100000
set_option maxHeartbeats 4000000
/-! What a book tells of a name, looked at by a law. -/
namespace Fw
open PySem L2 RZ RT
theorem Ct.same {H : Hp} {a b : Addr} {c : Ct} (f : c.form) (x : CtAt H a c) (y : CtAt H b c) : SameV H 6 (.ref a) (.ref b) := by
  have st : ∀ {n : Nat} (z : Str), SameV H (n + 1) (.str z) (.str z) := fun z => Or.inl ⟨rfl, .inr (.inr (.inr ⟨z, rfl⟩))⟩
  cases c with
  | leaf rows =>
    obtain ⟨r, h1, h2⟩ := x
    obtain ⟨r', h3, h4⟩ := y
    refine SameV.tup h1 h3 rfl (by show (2 : Nat) ≤ 100000; decide) fun i u v hu hv => ?_
    match i, hu, hv with
    | 0, hu, hv => cases Option.some.inj hu; cases Option.some.inj hv; exact st _
    | 1, hu, hv =>
      cases Option.some.inj hu
      cases Option.some.inj hv
      exact SameV.tup h2 h4 rfl (by rw [List.length_map]; have := f.1; omega) SameV.strs
  | tree es =>
    obtain ⟨r, as, h1, h2, h3, h4⟩ := x
    obtain ⟨r', as', g1, g2, g3, g4⟩ := y
    have hz : es.length ≤ 20 := f.1
    refine SameV.tup h1 g1 rfl (by show (2 : Nat) ≤ 100000; decide) fun i u v hu hv => ?_
    match i, hu, hv with
    | 0, hu, hv => cases Option.some.inj hu; cases Option.some.inj hv; exact st _
    | 1, hu, hv =>
      cases Option.some.inj hu
      cases Option.some.inj hv
      refine SameV.tup h2 g2 (by rw [List.length_map, List.length_map, h3, g3]) (by rw [List.length_map]; omega) fun j u v hu hv => ?_
      rw [List.getElem?_map] at hu hv
      cases e1 : as[j]? with
      | none => rw [e1] at hu; cases hu
      | some p =>
        cases e2 : as'[j]? with
        | none => rw [e2] at hv; cases hv
        | some q =>
          rw [e1] at hu
          rw [e2] at hv
          cases Option.some.inj hu
          cases Option.some.inj hv
          have hj : j < es.length := by rw [← h3]; exact (List.getElem?_eq_some_iff.mp e1).1
          have ee : es[j]? = some es[j] := List.getElem?_eq_getElem hj
          refine SameV.tup (h4 j p _ e1 ee) (g4 j q _ e2 ee) rfl (by show (2 : Nat) ≤ 100000; decide) fun k u v hu hv => ?_
          match k, hu, hv with
          | 0, hu, hv => cases Option.some.inj hu; cases Option.some.inj hv; exact st _
          | 1, hu, hv => cases Option.some.inj hu; cases Option.some.inj hv; exact SameV.int rfl
  | ver ps r s =>
    obtain ⟨p, h1, h2⟩ := x
    obtain ⟨q, h3, h4⟩ := y
    refine SameV.tup h1 h3 rfl (by show (4 : Nat) ≤ 100000; decide) fun i u v hu hv => ?_
    match i, hu, hv with
    | 0, hu, hv => cases Option.some.inj hu; cases Option.some.inj hv; exact st _
    | 1, hu, hv =>
      cases Option.some.inj hu
      cases Option.some.inj hv
      exact SameV.tup h2 h4 rfl (by rw [List.length_map]; have := f.1; omega) SameV.ints
    | 2, hu, hv => cases Option.some.inj hu; cases Option.some.inj hv; exact SameV.int rfl
    | 3, hu, hv => cases Option.some.inj hu; cases Option.some.inj hv; exact SameV.int rfl
theorem Ct.parts_len {c : Ct} (f : c.form) : c.parts.length ≤ 20 := by
  cases c with
  | leaf rows => exact Nat.zero_le _
  | tree es => show (es.map (·.2)).length ≤ 20; rw [List.length_map]; exact f.1
  | ver ps r s =>
    show (ps ++ [r]).length ≤ 20
    have := f.1
    rw [List.length_append, List.length_singleton]
    omega
section
variable [HasW]
def sp_l_parts (_ : PySem.W.Frag) : Sp := fun vs H Q _ => ∃ (a : Addr) (c : Ct), vs = [.ref a] ∧ CtAt H a c ∧ c.form ∧ ∀ (r : Addr) (H' : Hp), Same H H' → H' r = some (.lst (c.parts.map V.int)) → Q (.ref r) H'
def sp_l_told (K : PySem.W.Frag) : Sp := fun vs H Q _ => ∃ (b : BkA) (T : Addr) (cs : List Ct) (as tas : List Addr) (i : Nat) (a : Addr) (c : Ct), vs = [.ref b.B, .ref T, .int (i : Int)] ∧ BkAt K H b cs as ∧ H T = some (.lst (tas.map V.ref)) ∧ tas[i]? = some a ∧ cs[i]? = some c ∧ CtAt H a c ∧
  ∀ H', Same H H' → Q (.bl true) H'
end
theorem len_l_parts {K : PySem.W.Frag} {vs : List V} {H : Hp} {Q : VK} {E : XK} (h : sp_l_parts K vs H Q E) : vs.length = 1 := by obtain ⟨_, _, rfl, _⟩ := h; rfl
theorem len_l_told [HasW] {K : PySem.W.Frag} {vs : List V} {H : Hp} {Q : VK} {E : XK} (h : sp_l_told K vs H Q E) : vs.length = 3 := by obtain ⟨_, _, _, _, _, _, _, _, rfl, _⟩ := h; rfl
section
variable [HasW]
abbrev N_l_parts : List Str := ["_law_content", "_law_label_here", "_law_name"]
def t_l_parts (K : PySem.W.Frag) : TS := (tSeq (tIfS (tTest (tOp rEq (tOp (rIx K) (tVar 0) (tC (.int 0))) (tC (.str "leaf")))) (tRet (tLst tNil)) tNext)
    (tSeq (tIfS (tTest (tOp rEq (tOp (rIx K) (tVar 0) (tC (.int 0))) (tC (.str "tree")))) (tRet (tLc (iTup K (tOp (rIx K) (tVar 0) (tC (.int 1)))) (gTup K 2 (gCons (gName 1) (gCons (gName 2) gNil))) tYes (tVar 2) [1, 2])) tNext)
    (tRet (tOp rCat (tCB (fListOf K) (tCons (tOp (rIx K) (tVar 0) (tC (.int 1))) tNil)) (tLst (tCons (tOp (rIx K) (tVar 0) (tC (.int 2))) tNil))))))
abbrev N_l_told : List Str := ["_law_book", "_law_things", "_law_name"]
def t_l_told_c (K : PySem.W.Frag) : TS := (tRet (tAndV (tCall (sp_l_alike K) [] E0 (tCons (tMeth (He.ga K "Book") "name_of" (sp_Book_name_of K) [] E0 (tVar 0) (tCons (tOp (rIx K) (tVar 1) (tVar 2)) tNil)) (tCons (tVar 2) tNil))) (tCall (sp_l_alike K) [] E0 (tCons (tMeth (He.ga K "Book") "named" (sp_Book_named K) [] E0 (tVar 0) (tCons (tOp (rIx K) (tVar 1) (tVar 2)) tNil)) (tCons (tVar 2) tNil)))))
def t_l_told_b (K : PySem.W.Frag) : TS := (tSeq (tIfS (tNot (tB (tCall (sp_l_alike K) [] E0 (tCons (tMeth (He.ga K "Book") "parts" (sp_Book_parts K) [] E0 (tVar 0) (tCons (tVar 2) tNil)) (tCons (tCB (fTupleOf K) (tCons (tCall (sp_l_parts K) [] E0 (tCons (tOp (rIx K) (tVar 1) (tVar 2)) tNil)) tNil)) tNil))))) (tRet (tC (.bl false))) tNext)
    (t_l_told_c K))
def t_l_told (K : PySem.W.Frag) : TS := (tSeq (tIfS (tOr (tNot (tB (tCall (sp_l_alike K) [] E0 (tCons (tMeth (He.ga K "Book") "thing" (sp_Book_thing K) [] E0 (tVar 0) (tCons (tVar 2) tNil)) (tCons (tOp (rIx K) (tVar 1) (tVar 2)) tNil))))) (tNot (tB (tCall (sp_l_alike K) [] E0 (tCons (tMeth (He.ga K "Book") "kind" (sp_Book_kind K) [] E0 (tVar 0) (tCons (tVar 2) tNil)) (tCons (tOp (rIx K) (tOp (rIx K) (tVar 1) (tVar 2)) (tC (.int 0))) tNil)))))) (tRet (tC (.bl false))) tNext)
    (t_l_told_b K))
end
/-- the parts behind the word -/
theorem CtAt.snd {K : PySem.W.Frag} {H : Hp} {a : Addr} {c : Ct} {Q : VK} (h : CtAt H a c) (q : ∀ r, Q (.ref r) H) : rIx K (.ref a) (.int 1) H Q := by
  cases c with
  | leaf rows => obtain ⟨r, h1, h2⟩ := h; exact ixT h1 rfl (q _)
  | tree es => obtain ⟨r, as, h1, h2⟩ := h; exact ixT h1 rfl (q _)
  | ver ps r s => obtain ⟨r, h1, h2⟩ := h; exact ixT h1 rfl (q _)
section
variable [HasW] {K : PySem.W.Frag} {vs : List V} {H : Hp} {Q : VK} {E : XK}
theorem pure_l_parts (h : sp_l_parts K vs H Q E) : t_l_parts K { nx := fun _ H' => Q .non H', rt := Q } (start N_l_parts vs) H := by
  obtain ⟨a, c, rfl, hc, fo, k⟩ := h
  refine ⟨_, rfl, hc.fst ⟨rfl, _, rfl, ?_⟩⟩
  cases c with
  | leaf rows =>
    rw [show decide (V.str (Ct.leaf rows).word = V.str "leaf") = true from decide_eq_true rfl]
    exact iteT ⟨by decide, fun p np => k p _ (samN np) updS⟩
  | tree es =>
    obtain ⟨r, bs, h1, h2, h3, h4⟩ := hc
    have hz : es.length ≤ 20 := fo.1
    rw [show decide (V.str (Ct.tree es).word = V.str "leaf") = false from strN wv_lt.symm]
    refine iteF ⟨_, rfl, ixT h1 rfl ⟨rfl, _, rfl, ?_⟩⟩
    rw [decide_eq_true rfl]
    refine iteT ⟨_, rfl, ixT h1 rfl ⟨r, rfl, ⟨_, sqT h2⟩, fun L nL => ?_⟩⟩
    refine lc_pairs (ys := es.map fun e => V.int e.2) nL h2 h3 (by omega) (by rw [List.length_map]) h4 ?_ ?_
    · intro n e y H' R he hy s q
      rw [List.getElem?_map, he] at hy
      cases Option.some.inj hy
      exact ⟨rfl, _, rfl, q _ (Same.refl _)⟩
    · intro H' s hL
      refine k L _ s ?_
      rw [hL]
      show some (HO.lst (es.map fun e => V.int e.2)) = some (HO.lst ((es.map (·.2)).map V.int))
      rw [List.map_map]
      rfl
  | ver ps r s =>
    obtain ⟨q, h1, h2⟩ := hc
    have hz : ps.length ≤ 4 := fo.1
    rw [show decide (V.str (Ct.ver ps r s).word = V.str "leaf") = false from strN wv_lv.symm]
    refine iteF ⟨_, rfl, ixT h1 rfl ⟨rfl, _, rfl, ?_⟩⟩
    rw [strN wv_tv.symm]
    refine iteF ⟨_, rfl, ixT h1 rfl ⟨q, _, rfl, .inr (sqT h2), fun L nL => ?_⟩⟩
    have s1 : Same H (upd H L (.lst (ps.map V.int))) := samN nL
    refine ⟨_, rfl, ixT (s1 _ _ h1) rfl ⟨by show (1 : Nat) ≤ sizeLine; decide, fun M nM => ?_⟩⟩
    have s2 := s1.trans (samN (o := .lst [.int r]) nM)
    refine ⟨L, M, _, _, rfl, rfl, samN nM _ _ updS, updS, ?_, fun p np => k p _ (s2.trans (samN np)) ?_⟩
    · rw [List.length_map]
      exact Nat.le_trans (show _ ≤ 1000 by rw [List.length_singleton]; omega) (by decide)
    · rw [updS]
      show some (HO.lst (ps.map V.int ++ [.int r])) = some (HO.lst ((ps ++ [r]).map V.int))
      rw [List.map_append]
      rfl
theorem pure_l_told (h : sp_l_told K vs H Q E) : t_l_told K { nx := fun _ H' => Q .non H', rt := Q } (start N_l_told vs) H := by
  obtain ⟨b, T, cs, as, tas, i, a, c, rfl, bk, hT, ha, hi, hc, k⟩ := h
  obtain ⟨a0, ha0, hc0⟩ := bk.at_.get hi
  have fo := (bk.ok c (List.mem_of_getElem? hi)).1
  have iT : ∀ {H' : Hp} {R : VK}, Same H H' → R (.ref a) H' → rIx K (.ref T) (.int (i : Int)) H' R := fun s q => ixL (s _ _ hT) (atI_nat (by rw [List.getElem?_map, ha]; rfl)) q
  have st : ∀ {H' : Hp} {n : Nat} (z : Str), SameV H' (n + 1) (.str z) (.str z) := fun z => Or.inl ⟨rfl, .inr (.inr (.inr ⟨z, rfl⟩))⟩
  refine bk.me (by decide) rfl ⟨_, rfl, b, cs, as, i, a0, rfl, bk, ha0, ⟨_, rfl, _, rfl, iT (Same.refl _) ⟨_, _, rfl, Ct.same fo hc0 hc, fun H1 s1 => ⟨_, rfl, iteF ?_⟩⟩⟩⟩
  have bk1 := bk.same s1
  refine bk1.me (by decide) rfl ⟨_, rfl, b, cs, as, i, c, rfl, bk1, hi, ⟨_, rfl, _, rfl, iT s1 ((hc.mono (TM.of s1)).fst ⟨_, _, rfl, st _, fun H2 s2 => ⟨_, rfl, iteF ?_⟩⟩)⟩⟩
  have s12 := s1.trans s2
  have bk2 := bk.same s12
  show t_l_told_b K { nx := fun _ H' => Q .non H', rt := Q } [some (.ref b.B), some (.ref T), some (.int (i : Int))] H2
  refine bk2.me (by decide) rfl ⟨_, rfl, b, cs, as, i, c, rfl, bk2, hi, fun r H3 s3 hr => ?_⟩
  have s13 := s12.trans s3
  refine ⟨_, rfl, _, rfl, iT s13 ⟨a, c, rfl, hc.mono (TM.of s13), fo, fun r2 H4 s4 hr2 => ⟨r2, _, rfl, .inl ⟨sqL hr2, fun r3 nr3 => ?_⟩⟩⟩⟩
  have s5 : Same H4 (upd H4 r3 (.tup (c.parts.map V.int))) := samN nr3
  have s15 := (s13.trans s4).trans s5
  refine ⟨_, _, rfl, SameV.tup (s5 _ _ (s4 _ _ hr)) updS rfl (by rw [List.length_map]; have := Ct.parts_len fo; omega) SameV.ints, fun H6 s6 => ⟨_, rfl, iteF ?_⟩⟩
  have s16 := s15.trans s6
  have bk6 := bk.same s16
  show t_l_told_c K { nx := fun _ H' => Q .non H', rt := Q } [some (.ref b.B), some (.ref T), some (.int (i : Int))] H6
  refine bk6.me (by decide) rfl ⟨_, rfl, _, rfl, iT s16 ⟨b, cs, as, a, c, rfl, bk6, hc.mono (TM.of s16), fo, fun j H7 hj s7 => ?_, fun hn => absurd (List.mem_of_getElem? hi) hn⟩⟩
  have ej : j = i := (List.getElem?_inj (List.getElem?_eq_some_iff.mp hj).1 bk.nd).mp (hj.trans hi.symm)
  subst ej
  refine ⟨_, rfl, _, _, rfl, SameV.int rfl, fun H8 s8 => ⟨_, rfl, iteT ?_⟩⟩
  have s18 := s16.trans (s7.trans s8)
  have bk8 := bk.same s18
  refine bk8.me (by decide) rfl ⟨_, rfl, _, rfl, iT s18 ⟨b, cs, as, a, c, rfl, bk8, hc.mono (TM.of s18), fo, (bk.ok c (List.mem_of_getElem? hi)).2, fun hn => absurd (List.mem_of_getElem? hi) hn, fun j2 H9 hj2 s9 => ?_, fun hn => absurd (List.mem_of_getElem? hi) hn⟩⟩
  have ej : j2 = j := (List.getElem?_inj (List.getElem?_eq_some_iff.mp hj2).1 bk.nd).mp (hj2.trans hi.symm)
  subst ej
  exact ⟨_, rfl, _, _, rfl, SameV.int rfl, fun H10 s10 => k _ (s18.trans (s9.trans s10))⟩
end
/-- what changes elsewhere -/
theorem BkAt.kf [HasW] {K : PySem.W.Frag} {H H' : Hp} {b : BkA} {cs : List Ct} {as F : List Addr} (k : BkAt K H b cs as) (x : Kf F H H') (h : ∀ y ∈ [b.B, b.L, b.E, b.G], y ∉ F) (ht : TM H H') : BkAt K H' b cs as := by
  obtain ⟨dx, fs, hB, r⟩ := k.bo
  exact ⟨k.bc, ⟨dx, fs, x _ _ hB (h _ (by simp)), r⟩, x _ _ k.hL (h _ (by simp)), x _ _ k.hE (h _ (by simp)), x _ _ k.hG (h _ (by simp)), k.at_.mono ht, k.nd, k.few, k.ok, k.ne⟩
theorem Kb.kf {b : BkA} {H H' : Hp} (k : Kb b H H') : Kf [b.L, b.E, b.G] H H' := fun a o h n => k a o h (fun z => n (by simp [z])) (fun z => n (by simp [z])) fun z => n (by simp [z])
theorem Kf.tm {F : List Addr} {H H' : Hp} (k : Kf F H H') (h : ∀ x ∈ F, ∀ ys, H x ≠ some (.tup ys)) : TM H H' := fun a xs e => k a _ e fun z => h a z xs e
end Fw

set_option Elab.async false
set_option linter.all false
set_option maxRecDepth 100000
set_option maxHeartbeats 4000000
/-! Tuples joined and cut, whichever object it is. -/
namespace Fw
open PySem L2 RZ RT
theorem cutV_to {xs : List V} {n : Nat} : cutV xs none (some (n : Int)) = xs.take n := by
  unfold cutV
  rw [HT.sIx_none, HT.sIx_nat, List.drop_zero, Nat.sub_zero]
  rcases Nat.le_total n xs.length with z | z
  · rw [Nat.min_eq_left z]
  · rw [Nat.min_eq_right z, List.take_length, List.take_of_length_le z]
section
variable {K : PySem.W.Frag} {H : Hp} {Q : VK}
theorem catV {a b : Addr} {xs ys : List V} (ha : H a = some (.tup xs)) (hb : H b = some (.tup ys)) (hz : xs.length + ys.length ≤ 1000) (k : ∀ r H', Same H H' → H' r = some (.tup (xs ++ ys)) → Q (.ref r) H') : rCatA K (.ref a) (.ref b) H Q := by
  refine ⟨a, b, xs, ys, rfl, rfl, sqT ha, sqT hb, Nat.le_trans hz (by decide), fun e => ?_, fun _ e => ?_, fun _ _ p np => k p _ (Same.upd np) updS⟩
  · subst e
    exact k b H (.refl _) hb
  · subst e
    exact k a H (.refl _) (by rw [List.append_nil]; exact ha)
theorem slToV {a : Addr} {xs : List V} {n : Nat} (ha : H a = some (.tup xs)) (k : ∀ r H', Same H H' → H' r = some (.tup (xs.take n)) → Q (.ref r) H') : rSlA K (.ref a) none (some (n : Int)) H Q := by
  refine ⟨a, xs, rfl, sqT ha, fun ⟨_, e⟩ => k a H (.refl _) ?_, fun _ p np => k p _ (Same.upd np) (by rw [updS, cutV_to])⟩
  rw [HT.sIx_nat] at e
  rw [List.take_of_length_le (by omega)]
  exact ha
end
end Fw

set_option Elab.async false
set_option linter.all false
set_option maxRecDepth 100000
set_option maxHeartbeats 4000000
/-! What a choice of a pack costs. -/
namespace Fw
open PySem L2 RZ RT
/-- a row of a choice: the leaf, its base, its script -/
abbrev Ch := Int × Option Int × List Pc
def obV : Option Int → V
  | none => .non
  | some b => .int b
def rowsAt (cs : List Ct) (n : Int) : List Str := match cs.getD n.toNat (.leaf []) with
  | .leaf rows => rows
  | _ => []
def chP (cs : List Ct) (x : Int) (r : Ch) : Int := match r.2.1 with
  | none => 2 * ((rowsAt cs r.1).length : Int)
  | some _ => x + cost 3 2 r.2.2
def ChAt (H : Hp) (a : Addr) (r : Ch) : Prop := ∃ s, H a = some (.tup [.int r.1, obV r.2.1, .ref s]) ∧ ScAt H s r.2.2
theorem ChAt.mono {H H' : Hp} {a : Addr} {r : Ch} (h : ChAt H a r) (m : TM H H') : ChAt H' a r := by
  obtain ⟨s, h1, h2⟩ := h
  exact ⟨s, m _ _ h1, h2.mono m⟩
def ChsAt (H : Hp) (as : List Addr) (rs : List Ch) : Prop := as.length = rs.length ∧ ∀ (i : Nat) (a : Addr) (r : Ch), as[i]? = some a → rs[i]? = some r → ChAt H a r
theorem ChsAt.mono {H H' : Hp} {as : List Addr} {rs : List Ch} (h : ChsAt H as rs) (m : TM H H') : ChsAt H' as rs := ⟨h.1, fun i a c h1 h2 => (h.2 i a c h1 h2).mono m⟩
theorem ChsAt.nil {H : Hp} : ChsAt H [] [] := ⟨rfl, fun i a p h => by cases h⟩
theorem ChsAt.snoc {H : Hp} {as : List Addr} {cs : List Ch} {T : Addr} {c : Ch} (h : ChsAt H as cs) (hT : ChAt H T c) : ChsAt H (as ++ [T]) (cs ++ [c]) := by
  refine ⟨by rw [List.length_append, List.length_append, h.1]; rfl, fun i a m h1 h2 => ?_⟩
  by_cases hi : i < as.length
  · rw [List.getElem?_append_left hi] at h1
    rw [List.getElem?_append_left (by rw [← h.1]; exact hi)] at h2
    exact h.2 i a m h1 h2
  · have hi2 : i < (as ++ [T]).length := (List.getElem?_eq_some_iff.mp h1).1
    rw [List.length_append, List.length_singleton] at hi2
    have e : i = as.length := by omega
    rw [List.getElem?_append_right (by omega), e, Nat.sub_self] at h1
    rw [List.getElem?_append_right (by rw [← h.1]; omega), e, h.1, Nat.sub_self] at h2
    cases Option.some.inj h1
    cases Option.some.inj h2
    exact hT
theorem ChsAt.get {H : Hp} {as : List Addr} {cs : List Ch} (h : ChsAt H as cs) {i : Nat} {x : V} (hx : (as.map V.ref)[i]? = some x) : ∃ a c, x = .ref a ∧ as[i]? = some a ∧ cs[i]? = some c ∧ ChAt H a c := by
  rw [List.getElem?_map] at hx
  cases q : as[i]? with
  | none => rw [q] at hx; cases hx
  | some a =>
    rw [q] at hx
    have hi : i < cs.length := by rw [← h.1]; exact (List.getElem?_eq_some_iff.mp q).1
    exact ⟨a, cs[i], (Option.some.inj hx).symm, rfl, List.getElem?_eq_getElem hi, h.2 i _ _ q (List.getElem?_eq_getElem hi)⟩
structure ChOk (cs : List Ct) (r : Ch) : Prop where
  leaf : ∃ (i : Nat) (rows : List Str), r.1 = (i : Int) ∧ cs[i]? = some (.leaf rows)
  sc : ScOk r.2.2
theorem ChOk.mono {cs more : List Ct} {r : Ch} (h : ChOk cs r) : ChOk (cs ++ more) r := by
  obtain ⟨i, rows, e, hi⟩ := h.leaf
  exact ⟨⟨i, rows, e, by rw [List.getElem?_append_left (List.getElem?_eq_some_iff.mp hi).1]; exact hi⟩, h.sc⟩
theorem rowsAt_at {cs : List Ct} {i : Nat} {rows : List Str} (h : cs[i]? = some (.leaf rows)) : rowsAt cs (i : Int) = rows := by
  unfold rowsAt
  rw [Int.toNat_natCast, List.getD_eq_getElem?_getD, h]
  rfl
def Ct.size : Ct → Nat
  | .leaf rows => rows.length
  | .tree es => es.length
  | .ver ps _ _ => ps.length
def plP (c : Ct) : Int := 2 * ((c.size : Int) + (if c.word = "version" then 1 else 0))
theorem Ct.size_le {c : Ct} (h : c.form) : c.size ≤ 40 := by
  cases c with
  | leaf rows => exact h.1
  | tree es => exact Nat.le_trans h.1 (by decide)
  | ver ps r s => exact Nat.le_trans h.1 (by decide)
theorem CtAt.two {K : PySem.W.Frag} {H : Hp} {a : Addr} {c : Ct} {Q : VK} (h : CtAt H a c) (q : ∀ r xs, H r = some (.tup xs) → xs.length = c.size → Q (.ref r) H) : rIx K (.ref a) (.int 1) H Q := by
  cases c with
  | leaf rows => obtain ⟨r, h1, h2⟩ := h; exact ixT h1 rfl (q _ _ h2 (List.length_map ..))
  | tree es => obtain ⟨r, as, h1, h2, h3, _⟩ := h; exact ixT h1 rfl (q _ _ h2 (by rw [List.length_map, h3]; rfl))
  | ver ps r s => obtain ⟨r, h1, h2⟩ := h; exact ixT h1 rfl (q _ _ h2 (List.length_map ..))
section
variable [HasW]
def sp_Book_leaf_rows (K : PySem.W.Frag) : Sp := fun vs H Q _ => ∃ (b : BkA) (cs : List Ct) (as : List Addr) (i : Nat) (rows : List Str), vs = [.ref b.B, .int (i : Int)] ∧ BkAt K H b cs as ∧ cs[i]? = some (.leaf rows) ∧ ∀ r, RwAt H r rows → Q (.ref r) H
def sp_plain_price (K : PySem.W.Frag) : Sp := fun vs H Q _ => ∃ (b : BkA) (cs : List Ct) (as : List Addr) (i : Nat) (rows : List Str), vs = [.ref b.B, .int (i : Int)] ∧ BkAt K H b cs as ∧ cs[i]? = some (.leaf rows) ∧ Q (.int (2 * (rows.length : Int))) H
def sp_sending_price (K : PySem.W.Frag) : Sp := fun vs H Q _ => ∃ (b : BkA) (cs : List Ct) (as : List Addr) (a : Addr) (r : Ch) (x : Int), vs = [.ref b.B, .ref a, .int x] ∧ BkAt K H b cs as ∧ ChAt H a r ∧ ChOk cs r ∧ ∀ H', Same H H' → Q (.int (chP cs x r)) H'
def sp_price_of (K : PySem.W.Frag) : Sp := fun vs H Q _ => ∃ (b : BkA) (cs : List Ct) (as : List Addr) (C : Addr) (rs : List Addr) (chs : List Ch) (x : Int), vs = [.ref b.B, .ref C, .int x] ∧ BkAt K H b cs as ∧ H C = some (.tup (rs.map V.ref)) ∧ ChsAt H rs chs ∧ (∀ r ∈ chs, ChOk cs r) ∧ chs.length ≤ 1000 ∧ ∀ H', Same H H' → Q (.int (chs.map (chP cs x)).sum) H'
def sp_row_price (K : PySem.W.Frag) : Sp := fun vs H Q _ => ∃ (x : V) (a : Addr), vs = [x, .ref a] ∧ ((∃ (l : Int) (o : V) (s : Addr) (ps : List Pc), H a = some (.tup [.int l, .str "over", o, .ref s]) ∧ ScAt H s ps ∧ ScOk ps ∧ ∀ H', Same H H' → Q (.int (2 + cost 3 2 ps)) H') ∨ (∃ (l : Int) (t : Addr) (c : Ct), H a = some (.tup [.int l, .str "plain", .ref t]) ∧ CtAt H t c ∧ Q (.int (plP c)) H))
end
section
variable [HasW] {K : PySem.W.Frag} {vs : List V} {H : Hp} {Q : VK} {E : XK}
theorem len_Book_leaf_rows (h : sp_Book_leaf_rows K vs H Q E) : vs.length = 2 := by obtain ⟨_, _, _, _, _, rfl, _⟩ := h; rfl
theorem len_plain_price (h : sp_plain_price K vs H Q E) : vs.length = 2 := by obtain ⟨_, _, _, _, _, rfl, _⟩ := h; rfl
theorem len_sending_price (h : sp_sending_price K vs H Q E) : vs.length = 3 := by obtain ⟨_, _, _, _, _, _, rfl, _⟩ := h; rfl
theorem len_price_of (h : sp_price_of K vs H Q E) : vs.length = 3 := by obtain ⟨_, _, _, _, _, _, _, rfl, _⟩ := h; rfl
theorem len_row_price (h : sp_row_price K vs H Q E) : vs.length = 2 := by obtain ⟨_, _, rfl, _⟩ := h; rfl
end
section
variable [HasW]
abbrev N_Book_leaf_rows : List Str := ["self", "leaf"]
def t_Book_leaf_rows (K : PySem.W.Frag) : TS := (tRet (tOp (rIx K) (tMeth (He.ga K "Book") "thing" (sp_Book_thing K) [] E0 (tVar 0) (tCons (tVar 1) tNil)) (tC (.int 1))))
abbrev N_plain_price : List Str := ["book", "leaf"]
def t_plain_price (K : PySem.W.Frag) : TS := (tRet (tOp rMulI (tC (.int 2)) (tCB (fLen K) (tCons (tMeth (He.ga K "Book") "leaf_rows" (sp_Book_leaf_rows K) [] E0 (tVar 0) (tCons (tVar 1) tNil)) tNil))))
abbrev N_sending_price : List Str := ["book", "triple", "over", "leaf", "base", "script"]
def t_sending_price (K : PySem.W.Frag) : TS := (tSeq (tAsg (tVar 1) (gTup K 3 (gCons (gName 3) (gCons (gName 4) (gCons (gName 5) gNil)))))
    (tRet (tIf (tTest (tOp fIsN (tVar 4) (tC .non))) (tCall (sp_plain_price K) [] E0 (tCons (tVar 0) (tCons (tVar 3) tNil))) (tOp rAddI (tVar 2) (tCall (sp_price K) [.int 3, .int 2] E0 (tCons (tVar 5) tNil))))))
abbrev N_price_of : List Str := ["book", "choice", "over", "triple"]
def t_price_of (K : PySem.W.Frag) : TS := (tRet (tCB (rSum K) (tCons (tLc (iTup K (tVar 1)) (gName 3) tYes (tCall (sp_sending_price K) [] E0 (tCons (tVar 0) (tCons (tVar 3) (tCons (tVar 2) tNil)))) [3]) tNil)))
abbrev N_row_price : List Str := ["book", "row", "content"]
def t_row_price (K : PySem.W.Frag) : TS := (tSeq (tIfS (tTest (tOp rEq (tOp (rIx K) (tVar 1) (tC (.int 1))) (tC (.str "over")))) (tRet (tOp rAddI (tC (.int 2)) (tCall (sp_price K) [.int 3, .int 2] E0 (tCons (tOp (rIx K) (tVar 1) (tC (.int 3))) tNil)))) tNext)
    (tSeq (tAsg (tOp (rIx K) (tVar 1) (tC (.int 2))) (gName 2))
    (tRet (tOp rMulI (tC (.int 2)) (tOp rAddI (tCB (fLen K) (tCons (tOp (rIx K) (tVar 2) (tC (.int 1))) tNil)) (tIf (tTest (tOp rEq (tOp (rIx K) (tVar 2) (tC (.int 0))) (tC (.str "version")))) (tC (.int 1)) (tC (.int 0))))))))
end
theorem over_plain : decide (V.str "plain" = V.str "over") = false := by decide +kernel
section
variable [HasW] {K : PySem.W.Frag} {vs : List V} {H : Hp} {Q : VK} {E : XK}
theorem pure_Book_leaf_rows (h : sp_Book_leaf_rows K vs H Q E) : t_Book_leaf_rows K { nx := fun _ H' => Q .non H', rt := Q } (start N_Book_leaf_rows vs) H := by
  obtain ⟨b, cs, as, i, rows, rfl, bk, hi, k⟩ := h
  obtain ⟨a, ha, r, h1, h2⟩ := bk.at_.get hi
  exact bk.me (by decide) rfl ⟨_, rfl, b, cs, as, i, a, rfl, bk, ha, ixT h1 rfl (k r h2)⟩
theorem pure_plain_price (h : sp_plain_price K vs H Q E) : t_plain_price K { nx := fun _ H' => Q .non H', rt := Q } (start N_plain_price vs) H := by
  obtain ⟨b, cs, as, i, rows, rfl, bk, hi, k⟩ := h
  refine bk.me (by decide) rfl ⟨_, rfl, b, cs, as, i, rows, rfl, bk, hi, fun r hr => lenT hr ⟨_, _, rfl, rfl, .inl ⟨by decide, by decide⟩, ?_⟩⟩
  rw [List.length_map]
  exact k
theorem pure_sending_price (h : sp_sending_price K vs H Q E) : t_sending_price K { nx := fun _ H' => Q .non H', rt := Q } (start N_sending_price vs) H := by
  obtain ⟨b, cs, as, a, ⟨l, ob, ps⟩, x, rfl, bk, ⟨s, ha, sc⟩, ok, k⟩ := h
  obtain ⟨i, rows, e1, hi⟩ := ok.leaf
  have oks : ScOk ps := ok.sc
  refine ⟨_, rfl, a, _, rfl, sqT ha, rfl, _, _, rfl, _, _, rfl, _, _, rfl, rfl, _, rfl, rfl, _, rfl, ?_⟩
  have e1 : l = (i : Int) := e1
  subst e1
  cases ob with
  | none =>
    refine iteT ⟨_, rfl, _, rfl, b, cs, as, i, rows, rfl, bk, hi, ?_⟩
    have := k H (Same.refl _)
    rw [show chP cs x ((i : Int), none, ps) = 2 * (rows.length : Int) from by unfold chP; rw [rowsAt_at hi]] at this
    exact this
  | some o => exact iteF ⟨_, rfl, _, rfl, s, ps, 3, 2, rfl, sc, oks, by decide, by decide, by decide, by decide, fun H' s' => ⟨_, _, rfl, rfl, k H' s'⟩⟩
theorem pure_price_of (h : sp_price_of K vs H Q E) : t_price_of K { nx := fun _ H' => Q .non H', rt := Q } (start N_price_of vs) H := by
  obtain ⟨b, cs, as, C, rs, chs, x, rfl, bk, hC, hch, ok, few, k⟩ := h
  refine ⟨_, rfl, C, rfl, ⟨_, sqT hC⟩, fun L nL => ?_⟩
  refine lc_grow (walk_tup (xs := rs.map V.ref)) yAt (ys := (chs.map (chP cs x)).map V.int) nL (by rw [List.length_map, List.length_map, List.length_map, hch.1]) (by rw [List.length_map, hch.1]; omega) (fun H' s => sqT (s _ _ hC)) ?_ ?_
  · rintro i z y H' R hi ⟨_, hx⟩ hy s r
    obtain ⟨a, c, rfl, h1, h2, h3⟩ := (hch.mono (.of s)).get hx
    rw [List.getElem?_map, List.getElem?_map, h2] at hy
    cases Option.some.inj hy
    exact ⟨rfl, _, rfl, _, rfl, _, rfl, b, cs, as, a, c, x, rfl, bk.same s, h3, ok c (List.mem_of_getElem? h2), fun H'' s'' => r H'' s''⟩
  · intro H' s hL
    exact ⟨L, _, rfl, sqL hL, k H' s⟩
theorem pure_row_price (h : sp_row_price K vs H Q E) : t_row_price K { nx := fun _ H' => Q .non H', rt := Q } (start N_row_price vs) H := by
  obtain ⟨x, a, rfl, ⟨l, o, s, ps, ha, sc, ok, k⟩ | ⟨l, t, c, ha, hc, k⟩⟩ := h
  · refine ⟨_, rfl, ixT ha rfl ⟨rfl, _, rfl, ?_⟩⟩
    rw [decide_eq_true rfl]
    exact iteT ⟨_, rfl, ixT ha rfl ⟨s, ps, 3, 2, rfl, sc, ok, by decide, by decide, by decide, by decide, fun H' s' => ⟨_, _, rfl, rfl, k H' s'⟩⟩⟩
  · refine ⟨_, rfl, ixT ha rfl ⟨rfl, _, rfl, ?_⟩⟩
    rw [over_plain]
    refine iteF ⟨_, rfl, ixT ha rfl ⟨_, rfl, hc.two fun r xs hr hl => lenT hr ⟨_, rfl, hc.fst ⟨rfl, _, rfl, ?_⟩⟩⟩⟩
    rw [strD, hl]
    unfold plP at k
    by_cases w : c.word = "version"
    · rw [if_pos w] at k
      rw [decide_eq_true w]
      exact iteT ⟨_, _, rfl, rfl, _, _, rfl, rfl, .inl ⟨by decide, by decide⟩, k⟩
    · rw [if_neg w] at k
      rw [decide_eq_false w]
      exact iteF ⟨_, _, rfl, rfl, _, _, rfl, rfl, .inl ⟨by decide, by decide⟩, k⟩
end
end Fw

set_option Elab.async false
set_option linter.all false
set_option maxRecDepth 100000
set_option maxHeartbeats 4000000
namespace Fw
open PySem L2 RZ RT
section
variable [HasW]
def sp_l_book (K : PySem.W.Frag) : Sp := fun vs H Q _ => ∃ (T : Addr) (as : List Addr) (cs : List Ct), vs = [.ref T] ∧ BkC K ∧ H T = some (.lst (as.map V.ref)) ∧ CsAt H as cs ∧ FamOk cs ∧ cs.length ≤ 400 ∧
  ∀ (b : BkA) (H' : Hp), Same H H' → (∀ y ∈ [b.B, b.L, b.E, b.G], H y = none) → BkAt K H' b cs as → Q (.ref b.B) H'
end
section
variable [HasW] {K : PySem.W.Frag} {vs : List V} {H : Hp} {Q : VK} {E : XK}
theorem len_l_book (h : sp_l_book K vs H Q E) : vs.length = 1 := by obtain ⟨_, _, _, rfl, _⟩ := h; rfl
end
section
variable [HasW]
abbrev N_l_book : List Str := ["_law_things", "_law_book_here", "_law_content"]
def t_l_book (K : PySem.W.Frag) : TS := (tSeq (tAsg (tMake (He.ga K "Book") (sp_Book_init K) [] E0 tNil) (gName 1))
    (tSeq (tFor (iList K (tVar 0)) (gName 2) (tDrop (tMeth (He.ga K "Book") "named" (sp_Book_named K) [] E0 (tVar 1) (tCons (tVar 2) tNil))))
    (tRet (tVar 1))))
end
theorem tk_snoc {α : Type} {l : List α} {i : Nat} {a : α} (h : l[i]? = some a) : l.take (i + 1) = l.take i ++ [a] := by
  rw [List.take_succ, h]
  rfl
theorem no_take {cs : List Ct} (nd : cs.Nodup) {i : Nat} {c : Ct} (h : cs[i]? = some c) : c ∉ cs.take i := fun hm => by
  obtain ⟨j, hj⟩ := List.mem_iff_getElem?.mp hm
  have hl := (List.getElem?_eq_some_iff.mp hj).1
  rw [List.length_take] at hl
  rw [List.getElem?_take_of_lt (by omega)] at hj
  exact absurd ((List.getElem?_inj (List.getElem?_eq_some_iff.mp hj).1 nd).mp (hj.trans h.symm)) (by omega)
section
variable [HasW] {K : PySem.W.Frag} {vs : List V} {H : Hp} {Q : VK} {E : XK}
theorem newBook (bc : BkC K) {σ : L2.St} (k : ∀ (b : BkA) (H' : Hp), Same H H' → (∀ y ∈ [b.B, b.L, b.E, b.G], H y = none) → BkAt K H' b [] [] → Q (.ref b.B) H') : tMake (He.ga K "Book") (sp_Book_init K) [] E0 tNil σ H Q := by
  intro x dx nx ndx ne
  have s1 : Same H (upd (upd H dx (.own x)) x (.ins (He.ga K "Book") dx [])) := fun b o e => updN (ne_of_none e nx) (updN (ne_of_none e ndx) e)
  have old : ∀ {y : Addr}, upd (upd H dx (.own x)) x (.ins (He.ga K "Book") dx []) y = none → H y = none := by
    intro y h
    cases q : H y with
    | none => rfl
    | some o => rw [s1 _ _ q] at h; cases h
  refine ⟨x, dx, rfl, bc, updS, fun b H' eb keep nL nE nG bk => ⟨rfl, ?_⟩⟩
  subst eb
  refine k b H' (fun a o e => keep a o (s1 a o e) (ne_of_none e nx)) (fun y hy => ?_) bk
  simp only [List.mem_cons, List.not_mem_nil, or_false] at hy
  rcases hy with rfl | rfl | rfl | rfl
  · exact nx
  · exact old nL
  · exact old nE
  · exact old nG
theorem pure_l_book (h : sp_l_book K vs H Q E) : t_l_book K { nx := fun _ H' => Q .non H', rt := Q } (start N_l_book vs) H := by
  obtain ⟨T, as, cs, rfl, bc, hT, hcs, f, few, k⟩ := h
  unfold t_l_book
  dsimp only [tSeq, tAsg]
  refine newBook bc fun b H1 s1 fr bk => ?_
  have hal : as.length = cs.length := hcs.1
  refine ⟨_, rfl, T, rfl, ⟨_, sqL (s1 _ _ hT)⟩, ?_⟩
  have nT : ∀ {H' : Hp}, Kf [b.L, b.E, b.G] H1 H' → H' T = some (.lst (as.map V.ref)) := fun kf => kf _ _ (s1 _ _ hT) fun z => by
    have := fr T (List.mem_cons_of_mem _ z)
    rw [hT] at this
    cases this
  refine for_it (walk_list (xs := as.map V.ref)) (fun i σ H' => Kf [b.L, b.E, b.G] H1 H' ∧ BkAt K H' b (cs.take i) (as.take i) ∧ ∃ z, σ = [some (.ref T), some (.ref b.B), z]) ⟨.refl, bk, _, rfl⟩ (fun i σ H' _ e => sqL (nT e.1)) ?_ ?_
  · rintro i y σ H2 H3 hi ⟨kf, bk2, z, rfl⟩ ⟨rfl, hy⟩
    rw [List.length_map] at hi
    have ha : as[i]? = some as[i] := List.getElem?_eq_getElem hi
    rw [List.getElem?_map, ha] at hy
    cases Option.some.inj hy
    have hd : cs[i]? = some cs[i] := List.getElem?_eq_getElem (by omega)
    have tm : TM H H3 := fun a xs e => kf _ _ (s1 _ _ e) fun z => by
      have := fr a (List.mem_cons_of_mem _ z)
      rw [e] at this
      cases this
    have nin := no_take f.nd hd
    have lt : (cs.take i).length = i := by rw [List.length_take]; omega
    refine bk2.me (by decide) rfl ⟨_, rfl, b, _, _, as[i], cs[i], rfl, bk2, (hcs.2 i _ _ ha hd).mono tm, f.form _ (List.getElem_mem _), f.inb i _ hd, fun _ => by rw [lt]; omega, fun j H' hj _ => absurd (List.mem_of_getElem? hj) nin, fun _ H4 kb bk4 => ⟨kf.trans kb.kf, ?_, _, rfl⟩⟩
    rw [tk_snoc ha, tk_snoc hd]
    exact bk4
  · rintro σ H2 ⟨kf, bk2, z, rfl⟩
    rw [List.length_map, List.take_length, hal, List.take_length] at bk2
    refine ⟨_, rfl, k b H2 (fun a o e => kf _ _ (s1 _ _ e) fun z => ?_) fr bk2⟩
    have := fr a (List.mem_cons_of_mem _ z)
    rw [e] at this
    cases this
end
end Fw

set_option Elab.async false
set_option linter.all false
set_option maxRecDepth 100000
set_option maxHeartbeats 4000000
/-! What law k44 draws, and its own prices. -/
namespace Fw
open PySem L2 RZ RT
section
variable [HasW]
def sp_l_script_price (_ : PySem.W.Frag) : Sp := fun vs H Q _ => ∃ (a : Addr) (ps : List Pc), vs = [.ref a] ∧ ScAt H a ps ∧ ScOk ps ∧ Q (.int (cost 3 2 ps)) H
def sp_l_choice_price (_ : PySem.W.Frag) : Sp := fun vs H Q _ => ∃ (T C : Addr) (as : List Addr) (cs : List Ct) (rs : List Addr) (chs : List Ch) (x : Int), vs = [.ref T, .ref C, .int x] ∧ H T = some (.lst (as.map V.ref)) ∧ CsAt H as cs ∧ H C = some (.tup (rs.map V.ref)) ∧ ChsAt H rs chs ∧ (∀ r ∈ chs, ChOk cs r) ∧ Q (.int (chs.map (chP cs x)).sum) H
def sp_l_leaves (_ : PySem.W.Frag) : Sp := fun vs H Q _ => ∃ (c D : Addr) (ns : List Int) (t : Nat) (most : Int), vs = [.ref D, .int most] ∧ Dk c D ns t H ∧ 0 ≤ most ∧ most ≤ 20 ∧ t + 10000 < 1000000000 ∧
  ∀ (T : Addr) (as : List Addr) (cs : List Ct) (H' : Hp), H T = none → H' T = some (.lst (as.map V.ref)) → CsAt H' as cs → FamOk cs → (∀ d ∈ cs, d.word = "leaf") → (cs.length : Int) ≤ most → Kp D H H' → Dk c D ns (t + 10000) H' → Q (.ref T) H'
def sp_l_parted (_ : PySem.W.Frag) : Sp := fun vs H Q _ => ∃ (c D T : Addr) (ns : List Int) (t : Nat) (xs : List V), vs = [.ref D, .ref T] ∧ Dk c D ns t H ∧ T ≠ D ∧ H T = some (.lst xs) ∧ xs.length ≤ 100 ∧ t + 200 < 1000000000 ∧
  ∀ (P A B : Addr) (ls bs : List Int) (H' : Hp), H' P = some (.tup [.ref A, .ref B]) → H' A = some (.tup (ls.map V.int)) → H' B = some (.tup (bs.map V.int)) → (∀ x ∈ ls, 0 ≤ x ∧ x < (xs.length : Nat)) → (∀ x ∈ bs, 0 ≤ x ∧ x < (xs.length : Nat)) → ls.length ≤ xs.length → bs.length ≤ xs.length → Kp D H H' → Dk c D ns (t + 200) H' → Q (.ref P) H'
def sp_l_own_script (_ : PySem.W.Frag) : Sp := fun vs H Q _ => ∃ (c D B R : Addr) (ns : List Int) (t : Nat) (bs rows : List Str), vs = [.ref D, .ref B, .ref R] ∧ Dk c D ns t H ∧ RwAt H B bs ∧ RwAt H R rows ∧ bs.length ≤ 40 ∧ rows.length ≤ 40 ∧ (∀ z ∈ bs, OkS z) ∧ (∀ z ∈ rows, OkS z) ∧ t + 200 < 1000000000 ∧
  ∀ (s : Addr) (ps : List Pc) (H' : Hp), ScAt H' s ps → ScOk ps → Kp D H H' → Dk c D ns (t + 200) H' → Q (.ref s) H'
def sp_l_own_choice (_ : PySem.W.Frag) : Sp := fun vs H Q _ => ∃ (c D T A B : Addr) (ns : List Int) (t : Nat) (as : List Addr) (cs : List Ct) (ls bs : List Int), vs = [.ref D, .ref T, .ref A, .ref B] ∧ Dk c D ns t H ∧ T ≠ D ∧ H T = some (.lst (as.map V.ref)) ∧ CsAt H as cs ∧ (∀ d ∈ cs, d.form ∧ d.word = "leaf") ∧ H A = some (.tup (ls.map V.int)) ∧ H B = some (.tup (bs.map V.int)) ∧ (∀ x ∈ ls, 0 ≤ x ∧ x < (cs.length : Nat)) ∧ (∀ x ∈ bs, 0 ≤ x ∧ x < (cs.length : Nat)) ∧ ls.length ≤ 100 ∧ bs.length ≤ 100 ∧ t + 100000 < 1000000000 ∧
  ∀ (C : Addr) (rs : List Addr) (chs : List Ch) (H' : Hp), H' C = some (.tup (rs.map V.ref)) → ChsAt H' rs chs → (∀ r ∈ chs, ChOk cs r) → chs.length ≤ 100 → Kp D H H' → Dk c D ns (t + 100000) H' → Q (.ref C) H'
end
section
variable [HasW] {K : PySem.W.Frag} {vs : List V} {H : Hp} {Q : VK} {E : XK}
theorem len_l_script_price (h : sp_l_script_price K vs H Q E) : vs.length = 1 := by obtain ⟨_, _, rfl, _⟩ := h; rfl
theorem len_l_choice_price (h : sp_l_choice_price K vs H Q E) : vs.length = 3 := by obtain ⟨_, _, _, _, _, _, _, rfl, _⟩ := h; rfl
theorem len_l_leaves (h : sp_l_leaves K vs H Q E) : vs.length = 2 := by obtain ⟨_, _, _, _, _, rfl, _⟩ := h; rfl
theorem len_l_parted (h : sp_l_parted K vs H Q E) : vs.length = 2 := by obtain ⟨_, _, _, _, _, _, rfl, _⟩ := h; rfl
theorem len_l_own_script (h : sp_l_own_script K vs H Q E) : vs.length = 3 := by obtain ⟨_, _, _, _, _, _, _, _, rfl, _⟩ := h; rfl
theorem len_l_own_choice (h : sp_l_own_choice K vs H Q E) : vs.length = 4 := by obtain ⟨_, _, _, _, _, _, _, _, _, _, _, rfl, _⟩ := h; rfl
end
section
variable [HasW]
abbrev N_l_script_price : List Str := ["_law_script", "_law_cost", "_law_piece"]
def t_l_script_price (K : PySem.W.Frag) : TS := (tSeq (tAsg (tC (.int 0)) (gName 1))
    (tSeq (tFor (iTup K (tVar 0)) (gName 2) (tIfS (tTest (tOp rEq (tOp (rIx K) (tVar 2) (tC (.int 0))) (tC (.str "take")))) (tAsg (tOp rAddI (tVar 1) (tC (.int 3))) (gName 1)) (tAsg (tOp rAddI (tVar 1) (tOp rMulI (tC (.int 2)) (tCB (fLen K) (tCons (tOp (rIx K) (tVar 2) (tC (.int 1))) tNil)))) (gName 1))))
    (tRet (tVar 1))))
abbrev N_l_choice_price : List Str := ["_law_things", "_law_choice", "_law_extra", "_law_cost", "_law_row"]
def t_l_choice_price (K : PySem.W.Frag) : TS := (tSeq (tAsg (tC (.int 0)) (gName 3))
    (tSeq (tFor (iTup K (tVar 1)) (gName 4) (tIfS (tTest (tOp fIsN (tOp (rIx K) (tVar 4) (tC (.int 1))) (tC .non))) (tAsg (tOp rAddI (tVar 3) (tOp rMulI (tC (.int 2)) (tCB (fLen K) (tCons (tOp (rIx K) (tOp (rIx K) (tVar 0) (tOp (rIx K) (tVar 4) (tC (.int 0)))) (tC (.int 1))) tNil)))) (gName 3)) (tAsg (tOp rAddI (tOp rAddI (tVar 3) (tVar 2)) (tCall (sp_l_script_price K) [] E0 (tCons (tOp (rIx K) (tVar 4) (tC (.int 2))) tNil))) (gName 3))))
    (tRet (tVar 3))))
abbrev N_l_leaves : List Str := ["_law_deck_here", "_law_most", "_law_things", "_law_rows_here", "_law_k"]
def t_l_leaves_loop (K : PySem.W.Frag) : TS := (tSeq (tFor (iRng1 (tCons (tCall (sp_l_draw K) [] E0 (tCons (tVar 0) (tCons (tOp rAddI (tVar 1) (tC (.int 1))) tNil))) tNil)) (gName 4) (tSeq (tAsg (tCall (sp_l_rows K) [] E0 (tCons (tVar 0) (tCons (tVar 3) tNil))) (gName 3))
    (tDrop (tCall (sp_l_give K) [] E0 (tCons (tVar 2) (tCons (tTup (tCons (tC (.str "leaf")) (tCons (tVar 3) tNil))) tNil))))))
    (tRet (tVar 2)))
def t_l_leaves (K : PySem.W.Frag) : TS := (tSeq (tAsg (tLst tNil) (gName 2))
    (tSeq (tAsg (tTup tNil) (gName 3))
    (t_l_leaves_loop K)))
abbrev N_l_parted : List Str := ["_law_deck_here", "_law_things", "_law_leaves_here", "_law_bases", "_law_name", "_law_side"]
def t_l_parted_loop (K : PySem.W.Frag) : TS := (tSeq (tFor (iRng1 (tCons (tCB (fLen K) (tCons (tVar 1) tNil)) tNil)) (gName 4) (tSeq (tAsg (tCall (sp_l_draw K) [] E0 (tCons (tVar 0) (tCons (tC (.int 5)) tNil))) (gName 5))
    (tIfS (tTest (tOp rGtI (tVar 5) (tC (.int 1)))) (tDrop (tBM K "list" rAppend (tVar 2) (tCons (tVar 4) tNil))) (tIfS (tTest (tOp rEq (tVar 5) (tC (.int 1)))) (tDrop (tBM K "list" rAppend (tVar 3) (tCons (tVar 4) tNil))) tNext))))
    (tRet (tTup (tCons (tCB (fTupleOf K) (tCons (tVar 2) tNil)) (tCons (tCB (fTupleOf K) (tCons (tVar 3) tNil)) tNil)))))
def t_l_parted (K : PySem.W.Frag) : TS := (tSeq (tAsg (tLst tNil) (gName 2))
    (tSeq (tAsg (tLst tNil) (gName 3))
    (t_l_parted_loop K)))
abbrev N_l_own_script : List Str := ["_law_deck_here", "_law_base", "_law_rows_here", "_law_script", "_law_k", "_law_many", "_law_found", "_law_at"]
def t_l_own_script_step (K : PySem.W.Frag) : TS := (tAsg (tOp rAddI (tVar 4) (tVar 5)) (gName 4))
def t_l_own_script_grow (K : PySem.W.Frag) : TS := (tSeq (tIfS (tAnd (tTest (tOp rGeI (tVar 6) (tC (.int 0)))) (tTest (tOp rGtI (tCall (sp_l_draw K) [] E0 (tCons (tVar 0) (tCons (tC (.int 4)) tNil))) (tC (.int 0))))) (tAsg (tOp (rCatA K) (tVar 3) (tTup (tCons (tTup (tCons (tC (.str "take")) (tCons (tVar 6) (tCons (tVar 5) tNil)))) tNil))) (gName 3)) (tAsg (tOp (rCatA K) (tVar 3) (tTup (tCons (tTup (tCons (tC (.str "put")) (tCons (tCB (fTupleOf K) (tCons (tSl (rSlA K) (tVar 2) (tPart (tVar 4)) (tPart (tOp rAddI (tVar 4) (tVar 5)))) tNil)) tNil))) tNil))) (gName 3)))
    (t_l_own_script_step K))
def t_l_own_script_find (K : PySem.W.Frag) : TS := (tSeq (tFor (iRng1 (tCons (tOp rAddI (tOp rSubI (tCB (fLen K) (tCons (tVar 1) tNil)) (tVar 5)) (tC (.int 1))) tNil)) (gName 7) (tIfS (tTest (tOp (rEqD K) (tSl (rSlA K) (tVar 1) (tPart (tVar 7)) (tPart (tOp rAddI (tVar 7) (tVar 5)))) (tSl (rSlA K) (tVar 2) (tPart (tVar 4)) (tPart (tOp rAddI (tVar 4) (tVar 5)))))) (tAsg (tVar 7) (gName 6)) tNext))
    (t_l_own_script_grow K))
def t_l_own_script_turn (K : PySem.W.Frag) : TS := (tSeq (tAsg (tOp rAddI (tC (.int 1)) (tCall (sp_l_draw K) [] E0 (tCons (tVar 0) (tCons (tOp rSubI (tCB (fLen K) (tCons (tVar 2) tNil)) (tVar 4)) tNil)))) (gName 5))
    (tSeq (tAsg (tUn rNegI (tC (.int 1))) (gName 6))
    (t_l_own_script_find K)))
def t_l_own_script_loop (K : PySem.W.Frag) : TS := (tSeq (tAsg (tC (.int 0)) (gName 4))
    (tSeq (tWhile (tTest (tOp rLtI (tVar 4) (tCB (fLen K) (tCons (tVar 2) tNil)))) (t_l_own_script_turn K))
    (tRet (tVar 3))))
def t_l_own_script (K : PySem.W.Frag) : TS := (tSeq (tAsg (tTup tNil) (gName 3))
    (t_l_own_script_loop K))
abbrev N_l_own_choice : List Str := ["_law_deck_here", "_law_things", "_law_leaves_here", "_law_bases", "_law_choice", "_law_k", "_law_some", "_law_base", "_law_script"]
def t_l_own_choice_add (K : PySem.W.Frag) : TS := (tDrop (tBM K "list" rAppend (tVar 4) (tCons (tTup (tCons (tOp (rIx K) (tVar 2) (tVar 5)) (tCons (tVar 7) (tCons (tVar 8) tNil)))) tNil)))
def t_l_own_choice_script (K : PySem.W.Frag) : TS := (tSeq (tAsg (tTup tNil) (gName 8))
    (tSeq (tIfS (tTest (tOp fNotN (tVar 7) (tC .non))) (tAsg (tCall (sp_l_own_script K) [] E0 (tCons (tVar 0) (tCons (tOp (rIx K) (tOp (rIx K) (tVar 1) (tVar 7)) (tC (.int 1))) (tCons (tOp (rIx K) (tOp (rIx K) (tVar 1) (tOp (rIx K) (tVar 2) (tVar 5))) (tC (.int 1))) tNil)))) (gName 8)) tNext)
    (t_l_own_choice_add K)))
def t_l_own_choice_base (K : PySem.W.Frag) : TS := (tSeq (tIfS (tAnd (tTest (tOp rGtI (tCB (fLen K) (tCons (tVar 6) tNil)) (tC (.int 0)))) (tTest (tOp rGtI (tCall (sp_l_draw K) [] E0 (tCons (tVar 0) (tCons (tC (.int 3)) tNil))) (tC (.int 0))))) (tAsg (tOp (rIx K) (tVar 6) (tCall (sp_l_draw K) [] E0 (tCons (tVar 0) (tCons (tCB (fLen K) (tCons (tVar 6) tNil)) tNil)))) (gName 7)) tNext)
    (t_l_own_choice_script K))
def t_l_own_choice_loop (K : PySem.W.Frag) : TS := (tSeq (tFor (iRng1 (tCons (tCB (fLen K) (tCons (tVar 2) tNil)) tNil)) (gName 5) (tSeq (tAsg (tOp (rCatA K) (tVar 3) (tSl (rSlA K) (tVar 2) tNoPart (tPart (tVar 5)))) (gName 6))
    (tSeq (tAsg (tC .non) (gName 7))
    (t_l_own_choice_base K))))
    (tRet (tCB (fTupleOf K) (tCons (tVar 4) tNil))))
def t_l_own_choice (K : PySem.W.Frag) : TS := (tSeq (tAsg (tLst tNil) (gName 4))
    (t_l_own_choice_loop K))
end
theorem sum_snoc {α : Type} {f : α → Int} {l : List α} {i : Nat} {a : α} (h : l[i]? = some a) : ((l.take (i + 1)).map f).sum = ((l.take i).map f).sum + f a := by
  rw [List.take_add_one, h, List.map_append, List.sum_append]
  show _ + (f a + 0) = _
  omega
theorem word_leaf {c : Ct} (h : c.word = "leaf") : ∃ rows, c = .leaf rows := by
  cases c with
  | leaf rows => exact ⟨rows, rfl⟩
  | tree es => exact absurd h.symm wv_lt
  | ver ps r s => exact absurd h.symm wv_lv
section
variable [HasW] {K : PySem.W.Frag} {vs : List V} {H : Hp} {Q : VK} {E : XK}
theorem pure_l_script_price (h : sp_l_script_price K vs H Q E) : t_l_script_price K { nx := fun _ H' => Q .non H', rt := Q } (start N_l_script_price vs) H := by
  obtain ⟨a, ps, rfl, ⟨as, ha, hp⟩, ok, k⟩ := h
  refine ⟨_, rfl, a, rfl, ⟨_, sqT ha⟩, ?_⟩
  refine for_tup (K := K) (a := a) (xs := as.map V.ref) (fun i σ H' => H' = H ∧ ∃ z, σ = [some (.ref a), some (.int (cost 3 2 (ps.take i))), z]) ⟨rfl, none, rfl⟩ (fun i σ H' _ p => by rw [p.1]; exact sqT ha) ?_ ?_
  · rintro i x σ H' hx ⟨rfl, z, rfl⟩
    obtain ⟨b, q, rfl, h1, h2, h3⟩ := sc_get hp hx
    cases q with
    | take c m =>
      refine ⟨_, rfl, ixT h3 rfl ⟨rfl, _, rfl, ?_⟩⟩
      rw [decide_eq_true rfl]
      refine iteT ⟨_, rfl, _, _, rfl, rfl, rfl, some (.ref b), ?_⟩
      rw [cost_snoc h2]
      rfl
    | put rs =>
      obtain ⟨q, h4, h5⟩ := h3
      refine ⟨_, rfl, ixT h4 rfl ⟨rfl, _, rfl, ?_⟩⟩
      rw [put_take]
      refine iteF ⟨_, rfl, _, rfl, ixT h4 rfl (lenT h5 ⟨_, _, rfl, rfl, .inl ⟨by decide, by decide⟩, _, _, rfl, rfl, rfl, some (.ref b), ?_⟩)⟩
      rw [cost_snoc h2, List.length_map]
      rfl
  · rintro σ H' ⟨rfl, z, rfl⟩
    rw [List.length_map, hp.1, List.take_of_length_le (Nat.le_refl _)]
    exact ⟨_, rfl, k⟩
theorem pure_l_choice_price (h : sp_l_choice_price K vs H Q E) : t_l_choice_price K { nx := fun _ H' => Q .non H', rt := Q } (start N_l_choice_price vs) H := by
  obtain ⟨T, C, as, cs, rs, chs, x, rfl, hT, hcs, hC, hch, ok, k⟩ := h
  refine ⟨_, rfl, C, rfl, ⟨_, sqT hC⟩, ?_⟩
  refine for_tup (K := K) (a := C) (xs := rs.map V.ref) (fun i σ H' => H' = H ∧ ∃ z, σ = [some (.ref T), some (.ref C), some (.int x), some (.int ((chs.take i).map (chP cs x)).sum), z]) ⟨rfl, none, rfl⟩ (fun i σ H' _ p => by rw [p.1]; exact sqT hC) ?_ ?_
  · rintro i y σ H' hx ⟨rfl, z, rfl⟩
    obtain ⟨a, ⟨l, ob, ps⟩, rfl, h1, h2, s, ha, sc⟩ := hch.get hx
    have o := ok _ (List.mem_of_getElem? h2)
    obtain ⟨j, rows, e1, hj⟩ := o.leaf
    have e1 : l = (j : Int) := e1
    subst e1
    refine ⟨_, rfl, ixT ha rfl ⟨rfl, _, rfl, ?_⟩⟩
    cases ob with
    | none =>
      obtain ⟨b, hb, q, h4, h5⟩ := hcs.get hj
      refine iteT ⟨_, rfl, _, rfl, _, rfl, ixT ha rfl (ixL hT (atI_nat (by rw [List.getElem?_map, hb]; rfl)) (ixT h4 rfl (lenT h5 ⟨_, _, rfl, rfl, .inl ⟨by decide, by decide⟩, _, _, rfl, rfl, rfl, some (.ref a), ?_⟩)))⟩
      rw [sum_snoc h2, List.length_map, show chP cs x ((j : Int), none, ps) = 2 * (rows.length : Int) from by unfold chP; rw [rowsAt_at hj]]
      rfl
    | some w =>
      refine iteF ⟨_, rfl, _, rfl, _, _, rfl, rfl, _, rfl, ixT ha rfl ⟨s, ps, rfl, sc, o.sc, _, _, rfl, rfl, rfl, some (.ref a), ?_⟩⟩
      rw [sum_snoc h2, show chP cs x ((j : Int), some w, ps) = x + cost 3 2 ps from rfl, ← Int.add_assoc]
      rfl
  · rintro σ H' ⟨rfl, z, rfl⟩
    rw [List.length_map, hch.1, List.take_of_length_le (Nat.le_refl _)]
    exact ⟨_, rfl, k⟩
theorem pure_l_leaves (h : sp_l_leaves K vs H Q E) : t_l_leaves K { nx := fun _ H' => Q .non H', rt := Q } (start N_l_leaves vs) H := by
  obtain ⟨c, D, ns, t, most, rfl, dk, m0, m1, ht, k⟩ := h
  refine ⟨by decide, fun T nT => ?_⟩
  have d1 := dk.upd (o := .lst []) (dk.neC nT) (dk.neD nT)
  have k1 : Kp D H (upd H T (.lst [])) := .new nT
  have hT1 : upd H T (.lst []) T = some (.lst ([].map V.ref)) := updS
  have nDT := (dk.neD nT).symm
  have ncT := (dk.neC nT).symm
  generalize upd H T (.lst []) = H1 at d1 k1 hT1
  refine ⟨by decide, fun r nr => ?_⟩
  have nTr : T ≠ r := ne_of_none hT1 nr
  have d2 := d1.upd (o := .tup []) (d1.neC nr) (d1.neD nr)
  have k2 : Kp D H (upd H1 r (.tup [])) := k1.trans (.new nr)
  have hT2 : upd H1 r (.tup []) T = some (.lst ([].map V.ref)) := updN nTr hT1
  have hr2 : upd H1 r (.tup []) r = some (.tup (([] : List Str).map V.str)) := updS
  generalize upd H1 r (.tup []) = H2 at d2 k2 hT2 hr2
  show t_l_leaves_loop K { nx := fun _ H' => Q .non H', rt := Q } [some (.ref D), some (.int most), some (.ref T), some (.ref r), none] H2
  refine ⟨_, rfl, _, rfl, _, _, rfl, rfl, c, D, ns, t, most + 1, rfl, d2, by omega, by omega, small100 (by omega), fun n H3 n0 n1 d3 fr3 => ⟨_, rfl, by omega, by omega, ?_⟩⟩
  have kf3 : Kf [D, T] H2 H3 := Kf.kp (.fr fr3) (by simp)
  have hT3 : H3 T = some (.lst ([].map V.ref)) := by rw [fr3 _ nDT.symm]; exact hT2
  have hr3 : H3 r = some (.tup (([] : List Str).map V.str)) := by rw [fr3 _ (d1.neD nr)]; exact hr2
  refine for_range (lo := 0) (n := n.toNat) (fun i σ H' => Kf [D, T] H2 H' ∧ Dk c D ns (t + 1 + 320 * i) H' ∧ (∃ (as' : List Addr) (c1 : List Ct) (r' : Addr) (rows : List Str), H' T = some (.lst (as'.map V.ref)) ∧ CsAt H' as' c1 ∧ FamOk c1 ∧ (∀ d ∈ c1, d.word = "leaf") ∧ c1.length ≤ i ∧ H' r' = some (.tup (rows.map V.str)) ∧ rows.length ≤ 7 ∧ (∀ z ∈ rows, OkS z) ∧ ∃ z, σ = [some (.ref D), some (.int most), some (.ref T), some (.ref r'), z]))
    ⟨kf3, d3, ⟨[], [], r, [], hT3, CsAt.nil, FamOk.nil, (fun d h => nomatch h), Nat.le_refl _, hr3, Nat.zero_le _, (fun d h => nomatch h), _, rfl⟩⟩ ?_ ?_
  · rintro i σ H4 hi ⟨kf, d4, ⟨as1, c1, r', rows, hT4, hcs1, f1, kl, hl1, hr4, few, ok, z, rfl⟩⟩
    have hi40 : i < 21 := by omega
    refine ⟨_, rfl, _, rfl, c, D, r', ns, _, rows, rfl, d4, hr4, few, ok, by omega, fun q rows' H5 hq few' ok' kp5 d5 => ?_⟩
    refine ⟨_, rfl, _, rfl, by show (2 : Nat) ≤ sizeLine; decide, fun A nA => ?_⟩
    have sA : Same H5 (upd H5 A (.tup [.str "leaf", .ref q])) := samN nA
    have hc : CtAt (upd H5 A (.tup [.str "leaf", .ref q])) A (.leaf rows') := ⟨q, updS, sA _ _ hq⟩
    have d6 := d5.upd (o := .tup [.str "leaf", .ref q]) (d5.neC nA) (d5.neD nA)
    generalize upd H5 A (.tup [.str "leaf", .ref q]) = H6 at sA hc d6
    have keep6 : ∀ b o, H4 b = some o → b ≠ D → H6 b = some o := fun b o e n => sA b o (kp5 b o e n)
    have tm6 : TM H4 H6 := fun b xs h => keep6 b _ h (by
      obtain ⟨ys, e⟩ := d4.someD
      exact ne_of h e (by intro z; cases z))
    have fo : (Ct.leaf rows').form := ⟨by omega, ok'⟩
    dsimp only [tNil]
    show sp_l_give K [V.ref T, V.ref A] _ _ E0
    refine give_ok (keep6 _ _ hT4 nDT.symm) (hcs1.mono tm6) hc fo f1 (by omega) fun n as2 H8 hT8 hcs8 hn fr8 => ?_
    have hq6 := sA _ _ hq
    have hq8 : H8 q = some (.tup (rows'.map V.str)) := by
      rw [fr8 _ (ne_of hq6 (keep6 _ _ hT4 nDT.symm) (by intro z; cases z))]
      exact hq6
    refine ⟨kf.trans ((Kf.kp kp5 (by simp)).trans ((Kf.same sA).trans (Kf.but fr8 (by simp)))), (d6.but fr8 ncT.symm nDT.symm).le (by omega), ⟨as2, addC c1 (.leaf rows'), q, rows', hT8, hcs8, f1.add fo rfl, fun d hd => ?_, ?_, hq8, few', ok', _, rfl⟩⟩
    · rcases addC_mem hd with h | h
      · exact kl d h
      · rw [h]; rfl
    · have := addC_len c1 (.leaf rows')
      omega
  · rintro σ H4 ⟨kf, d4, ⟨as1, c1, r', rows, hT4, hcs1, f1, kl, hl1, hr4, few, ok, z, rfl⟩⟩
    have nT2 : ∀ x ∈ [D, T], x = D ∨ H x = none := fun x hx => by
      simp only [List.mem_cons, List.not_mem_nil, or_false] at hx
      rcases hx with rfl | rfl
      · exact .inl rfl
      · exact .inr nT
    exact ⟨_, rfl, k T as1 c1 H4 nT hT4 hcs1 f1 kl (by omega) (Kf.out k2 kf nT2) (d4.le (by omega))⟩
theorem pure_l_parted (h : sp_l_parted K vs H Q E) : t_l_parted K { nx := fun _ H' => Q .non H', rt := Q } (start N_l_parted vs) H := by
  obtain ⟨c, D, T, ns, t, xs, rfl, dk, nTD, hT, few, ht, k⟩ := h
  refine ⟨by decide, fun A nA => ?_⟩
  have d1 := dk.upd (o := .lst []) (dk.neC nA) (dk.neD nA)
  have k1 : Kp D H (upd H A (.lst [])) := .new nA
  have hA1 : upd H A (.lst []) A = some (.lst (([] : List Int).map V.int)) := updS
  have hT1 : upd H A (.lst []) T = some (.lst xs) := updN (ne_of_none hT nA) hT
  have nAD := dk.neD nA
  have nAc := dk.neC nA
  have nTA : T ≠ A := ne_of_none hT nA
  generalize upd H A (.lst []) = H1 at d1 k1 hA1 hT1
  refine ⟨by decide, fun B nB => ?_⟩
  have nAB : A ≠ B := ne_of_none hA1 nB
  have nTB : T ≠ B := ne_of_none hT1 nB
  have d2 := d1.upd (o := .lst []) (d1.neC nB) (d1.neD nB)
  have k2 : Kp D H (upd H1 B (.lst [])) := k1.trans (.new nB)
  have hA2 : upd H1 B (.lst []) A = some (.lst (([] : List Int).map V.int)) := updN nAB hA1
  have hB2 : upd H1 B (.lst []) B = some (.lst (([] : List Int).map V.int)) := updS
  have hT2 : upd H1 B (.lst []) T = some (.lst xs) := updN nTB hT1
  have nBD := d1.neD nB
  have nBc := d1.neC nB
  have nB0 : H B = none := k1.free nB nBD
  generalize upd H1 B (.lst []) = H2 at d2 k2 hA2 hB2 hT2
  show t_l_parted_loop K { nx := fun _ H' => Q .non H', rt := Q } [some (.ref D), some (.ref T), some (.ref A), some (.ref B), none, none] H2
  refine ⟨_, rfl, lenL hT2 ⟨_, rfl, by omega, by omega, ?_⟩⟩
  refine for_range (lo := 0) (fun i σ H' => Kf [D, A, B] H2 H' ∧ Dk c D ns (t + i) H' ∧ (∃ (ls bs : List Int), H' A = some (.lst (ls.map V.int)) ∧ H' B = some (.lst (bs.map V.int)) ∧ (∀ x ∈ ls, 0 ≤ x ∧ x < (xs.length : Nat)) ∧ (∀ x ∈ bs, 0 ≤ x ∧ x < (xs.length : Nat)) ∧ ls.length ≤ i ∧ bs.length ≤ i ∧ ∃ z1 z2, σ = [some (.ref D), some (.ref T), some (.ref A), some (.ref B), z1, z2]))
    ⟨.refl, d2, ⟨[], [], hA2, hB2, (fun d h => nomatch h), (fun d h => nomatch h), Nat.le_refl _, Nat.le_refl _, _, _, rfl⟩⟩ ?_ ?_
  · rintro i σ H4 hi ⟨kf, d4, ⟨ls, bs, hA4, hB4, okl, okb, ll, lb, z1, z2, rfl⟩⟩
    rw [Int.toNat_natCast] at hi
    refine ⟨_, rfl, c, D, ns, _, 5, rfl, d4, by omega, by decide, by decide, fun v H5 v0 v1 d5 fr5 => ?_⟩
    have hA5 : H5 A = some (.lst (ls.map V.int)) := by rw [fr5 _ nAD]; exact hA4
    have hB5 : H5 B = some (.lst (bs.map V.int)) := by rw [fr5 _ nBD]; exact hB4
    have kf5 : Kf [D, A, B] H2 H5 := kf.trans (Kf.kp (.fr fr5) (by simp))
    have e0 : (0 : Int) + (i : Int) = (i : Int) := by omega
    have ok1 : ∀ {l : List Int}, (∀ x ∈ l, 0 ≤ x ∧ x < (xs.length : Nat)) → ∀ x ∈ l ++ [0 + (i : Int)], 0 ≤ x ∧ x < (xs.length : Nat) := fun ok x hx => by
      rcases List.mem_append.mp hx with h | h
      · exact ok x h
      · rw [List.mem_singleton.mp h]; omega
    refine ⟨_, rfl, _, _, rfl, rfl, _, rfl, ite2 (fun _ => ?_) (fun _ => ?_)⟩
    · refine ⟨_, rfl, .inl ⟨rfl, _, sqL hA5⟩, _, rfl, A, _, _, rfl, rfl, hA5, by rw [List.length_map]; exact Nat.lt_of_le_of_lt (show _ ≤ 1000 by omega) (by decide), ?_⟩
      refine ⟨kf5.up (by simp), (d5.upd nAc nAD).le (by omega), ⟨ls ++ [0 + (i : Int)], bs, by rw [updS, List.map_append]; rfl, updN nAB.symm hB5, ok1 okl, okb, by rw [List.length_append, List.length_singleton]; omega, by omega, _, _, rfl⟩⟩
    · refine ⟨_, rfl, rfl, _, rfl, ite2 (fun _ => ?_) (fun _ => ⟨kf5, d5.le (by omega), ⟨ls, bs, hA5, hB5, okl, okb, by omega, by omega, _, _, rfl⟩⟩)⟩
      refine ⟨_, rfl, .inl ⟨rfl, _, sqL hB5⟩, _, rfl, B, _, _, rfl, rfl, hB5, by rw [List.length_map]; exact Nat.lt_of_le_of_lt (show _ ≤ 1000 by omega) (by decide), ?_⟩
      refine ⟨kf5.up (by simp), (d5.upd nBc nBD).le (by omega), ⟨ls, bs ++ [0 + (i : Int)], updN nAB hA5, by rw [updS, List.map_append]; rfl, okl, ok1 okb, by omega, by rw [List.length_append, List.length_singleton]; omega, _, _, rfl⟩⟩
  · rintro σ H4 ⟨kf, d4, ⟨ls, bs, hA4, hB4, okl, okb, ll, lb, z1, z2, rfl⟩⟩
    rw [Int.toNat_natCast] at ll lb d4
    have n3 : ∀ x ∈ [D, A, B], x = D ∨ H x = none := fun x hx => by
      simp only [List.mem_cons, List.not_mem_nil, or_false] at hx
      rcases hx with rfl | rfl | rfl
      · exact .inl rfl
      · exact .inr nA
      · exact .inr nB0
    have kp := Kf.out k2 kf n3
    refine ⟨_, rfl, A, _, rfl, .inl ⟨sqL hA4, fun A' nA' => ?_⟩⟩
    have s1 : Same H4 (upd H4 A' (.tup (ls.map V.int))) := samN nA'
    have hA' : upd H4 A' (.tup (ls.map V.int)) A' = some (.tup (ls.map V.int)) := updS
    have d5 := d4.same s1
    have hB5 := s1 _ _ hB4
    generalize upd H4 A' (.tup (ls.map V.int)) = H5 at s1 hA' d5 hB5
    dsimp only [tNil]
    refine ⟨_, rfl, B, _, rfl, .inl ⟨sqL hB5, fun B' nB' => ?_⟩⟩
    have s2 : Same H5 (upd H5 B' (.tup (bs.map V.int))) := samN nB'
    have hB' : upd H5 B' (.tup (bs.map V.int)) B' = some (.tup (bs.map V.int)) := updS
    have d6 := d5.same s2
    have hA6 := s2 _ _ hA'
    generalize upd H5 B' (.tup (bs.map V.int)) = H6 at s2 hB' d6 hA6
    refine ⟨by show (2 : Nat) ≤ sizeLine; decide, fun P nP => ?_⟩
    have s3 : Same H6 (upd H6 P (.tup [.ref A', .ref B'])) := samN nP
    exact k P A' B' ls bs _ updS (s3 _ _ hA6) (s3 _ _ hB') okl okb ll lb (kp.trans (.of_same (s1.trans (s2.trans s3)))) ((d6.same s3).le (by omega))
/-- where a turn of an own script stands -/
def OsW (H0 : Hp) (c D B R : Addr) (ns : List Int) (t : Nat) (rows : List Str) (σ : L2.St) (H' : Hp) : Prop := ∃ (k : Nat) (sA : Addr) (as : List Addr) (ps : List Pc) (z5 z6 z7 : Option V),
  σ = [some (.ref D), some (.ref B), some (.ref R), some (.ref sA), some (.int (k : Int)), z5, z6, z7] ∧ k ≤ rows.length ∧ H' sA = some (.tup (as.map V.ref)) ∧ PsAt H' as ps ∧ (∀ p ∈ ps, p.ok) ∧ total ps = k ∧ Kp D H0 H' ∧ Dk c D ns (t + 2 * k) H'
theorem rows_dp {K : PySem.W.Frag} {H : Hp} {r : Addr} {zs : List Str} (h : RwAt H r zs) : Dp K H (.ref r) (.tuple (zs.map PyData.str)) := .tup (sqT h) (dp_strsC zs)
theorem okS_lay {z : Str} (h : OkS z) : PyData.strOk z = true := okS_str fun c hc => (h.2 c hc).2.1
theorem rows_shaped {zs : List Str} (ok : ∀ z ∈ zs, OkS z) : SeqAt.shaped (.tuple (zs.map PyData.str)) = true := by
  show (PyData.canLayAll0 (zs.map PyData.str) && decide (PyData.depthAll (zs.map PyData.str) + 1 ≤ 64)) = true
  have := dep_flatC (f := PyData.str) (fun z => Nat.zero_le 1) zs
  rw [lay_strs zs fun z hz => okS_lay (ok z hz), decide_eq_true (by omega)]
  rfl
theorem rows_eqX {r q : Addr} {xs ys : List Str} (h1 : RwAt H r xs) (h2 : RwAt H q ys) (o1 : ∀ z ∈ xs, OkS z) (o2 : ∀ z ∈ ys, OkS z) (k : ∀ e : Bool, Q (.bl e) H) : rEqD K (.ref r) (.ref q) H Q :=
  ⟨_, _, rows_dp h1, rows_dp h2, rows_shaped o1, rows_shaped o2, k _⟩
theorem pure_l_own_script (h : sp_l_own_script K vs H Q E) : t_l_own_script K { nx := fun _ H' => Q .non H', rt := Q } (start N_l_own_script vs) H := by
  obtain ⟨c, D, B, R, ns, t, bs, rows, rfl, dk, hB, hR, lb, lr, okb, okr, ht, k⟩ := h
  refine ⟨by decide, fun S nS => ?_⟩
  have d1 := dk.upd (o := .tup []) (dk.neC nS) (dk.neD nS)
  have k1 : Kp D H (upd H S (.tup [])) := .new nS
  have hS : upd H S (.tup []) S = some (.tup (([] : List Addr).map V.ref)) := updS
  generalize upd H S (.tup []) = H1 at d1 k1 hS
  dsimp only [tNil]
  show tWhile _ (t_l_own_script_turn K) _ [some (.ref D), some (.ref B), some (.ref R), some (.ref S), some (.int 0), none, none, none] H1
  have tmH : ∀ {H' : Hp}, Kp D H H' → TM H H' := fun kp => kp.tm dk
  refine while_by (OsW H c D B R ns t rows) (fun σ _ => rows.length - slotN 4 σ) ⟨0, S, [], [], none, none, none, rfl, Nat.zero_le _, hS, .nil, (fun _ h => nomatch h), rfl, k1, d1⟩ ?_ (fun σ H Q Q' f h => by
    obtain ⟨v, e, v2, e2, x, n, e3, l, q1, q2, rest⟩ := h
    obtain ⟨e5, e6, b, e7, q⟩ := rest
    exact ⟨v, e, v2, e2, x, n, e3, l, q1, q2, e5, e6, b, e7, f _ _ q⟩)
  rintro σ H2 ⟨j, sA, as, ps, z5, z6, z7, rfl, jl, hs, hp, okp, tot, kp, d2⟩
  have hB2 : RwAt H2 B bs := tmH kp _ _ hB
  have hR2 : RwAt H2 R rows := tmH kp _ _ hR
  refine ⟨_, rfl, _, rfl, lenT hR2 ⟨_, _, rfl, rfl, _, rfl, ite2 (fun e => ?_) (fun e => ?_)⟩⟩
  · have hj : j < rows.length := by
      have q : (j : Int) < ((rows.map V.str).length : Int) := of_decide_eq_true e
      rw [List.length_map] at q
      omega
    refine ⟨_, rfl, _, rfl, lenT hR2 ⟨_, rfl, _, _, rfl, rfl, c, D, ns, _, _, rfl, d2, by omega, by rw [List.length_map]; omega, by rw [List.length_map]; exact small100 (by omega), fun v H3 v0 v1 d3 fr3 => ⟨_, _, rfl, rfl, _, rfl, ?_⟩⟩⟩
    rw [List.length_map] at v1
    obtain ⟨v, rfl⟩ := Int.eq_ofNat_of_zero_le v0
    have kp3 : Kp D H2 H3 := .fr fr3
    have tm3 : TM H2 H3 := kp3.tm d2
    have hB3 : RwAt H3 B bs := tm3 _ _ hB2
    have hR3 : RwAt H3 R rows := tm3 _ _ hR2
    have hs3 := tm3 _ _ hs
    have hp3 := hp.mono tm3
    have kp03 := kp.trans kp3
    show t_l_own_script_find K _ [some (.ref D), some (.ref B), some (.ref R), some (.ref sA), some (.int (j : Int)), some (.int (1 + (v : Int))), some (.int (-1)), z7] H3
    refine ⟨_, rfl, lenT hB3 ⟨_, rfl, _, _, rfl, rfl, _, _, rfl, rfl, _, rfl, by rw [List.length_map]; omega, by rw [List.length_map]; omega, ?_⟩⟩
    rw [List.length_map]
    have hv : (1 + (v : Int)) = ((1 + v : Nat) : Int) := by omega
    refine for_range (lo := 0) (fun i σ H' => Same H3 H' ∧ ∃ (f : Int) (z : Option V), (f = -1 ∨ (0 ≤ f ∧ f + (1 + (v : Int)) ≤ bs.length)) ∧ σ = [some (.ref D), some (.ref B), some (.ref R), some (.ref sA), some (.int (j : Int)), some (.int (1 + (v : Int))), some (.int f), z]) ⟨Same.refl _, -1, _, .inl rfl, rfl⟩ ?_ ?_
    · rintro i σ H4 hi ⟨s4, f, z, hf, rfl⟩
      have hi2 : i + (1 + v) ≤ bs.length := by omega
      have e0 : (0 : Int) + (i : Int) = (i : Int) := by omega
      refine ⟨_, rfl, _, rfl, _, rfl, _, rfl, _, rfl, _, _, rfl, rfl, _, rfl, ?_⟩
      show rSlA K (.ref B) (some (0 + (i : Int))) (some (0 + (i : Int) + (1 + (v : Int)))) H4 _
      rw [e0, hv]
      refine slA (s4 _ _ hB3) hi2 fun r1 H5 s5 hr1 => ?_
      refine ⟨_, rfl, _, rfl, _, rfl, _, rfl, _, rfl, _, _, rfl, rfl, _, rfl, ?_⟩
      show rSlA K (.ref R) (some (j : Int)) (some ((j : Int) + (1 + (v : Int)))) H5 _
      rw [hv]
      refine slA (s5 _ _ (s4 _ _ hR3)) (by omega) fun r2 H6 s6 hr2 => ?_
      refine rows_eqX (s6 _ _ hr1) hr2 (fun z hz => okb z (List.mem_of_mem_drop (List.mem_of_mem_take hz))) (fun z hz => okr z (List.mem_of_mem_drop (List.mem_of_mem_take hz))) fun e => ⟨_, rfl, ?_⟩
      have s46 := s4.trans (s5.trans s6)
      cases e with
      | true => exact iteT ⟨_, rfl, s46, (i : Int), _, .inr ⟨by omega, by omega⟩, rfl⟩
      | false => exact iteF ⟨s46, f, _, hf, rfl⟩
    · rintro σ H4 ⟨s4, f, z, hf, rfl⟩
      have d4 := d3.same s4
      have hR4 : RwAt H4 R rows := s4 _ _ hR3
      have hs4 := s4 _ _ hs3
      have hp4 := hp3.mono (.of s4)
      have kp04 := kp03.trans (.of_same s4)
      -- the end of a turn
      have fin : ∀ (T : Addr) (p : Pc) (t' : Nat) (H5 : Hp) (D1 : Ends), (∀ σ' H', OsW H c D B R ns t rows σ' H' ∧ rows.length - slotN 4 σ' < rows.length - j → D1.nx σ' H') → t' ≤ t + 2 * j + 2 → Dk c D ns t' H5 → Kp D H H5 → H5 sA = some (.tup (as.map V.ref)) → PsAt H5 as ps → PcAt H5 T p → p.ok → p.n = 1 + v → 
          ∀ (U : Addr), H5 U = some (.tup [.ref T]) → rCatA K (.ref sA) (.ref U) H5 fun x H6 => t_l_own_script_step K D1 [some (.ref D), some (.ref B), some (.ref R), some x, some (.int (j : Int)), some (.int (1 + (v : Int))), some (.int f), z] H6 := by
        intro T p t' H5 D1 k1 ht' d5 kp5 hs5 hp5 hT ok hn U hU
        have lps := len_le_total okp
        refine catV hs5 hU (by rw [List.length_map, hp5.1]; show ps.length + 1 ≤ 1000; omega) fun r H6 s6 hr => ⟨_, rfl, _, rfl, _, _, rfl, rfl, ?_⟩
        refine k1 _ _ ⟨⟨j + (1 + v), r, as ++ [T], ps ++ [p], some (.int (1 + (v : Int))), some (.int f), z, ?_, by omega, by rw [hr, List.map_append]; rfl, (hp5.mono (.of s6)).snoc (hT.mono (.of s6)), fun q hq => ?_, by rw [total_snoc, hn, tot], kp5.trans (.of_same s6), (d5.same s6).le (by omega)⟩, ?_⟩
        · rw [show ((j + (1 + v) : Nat) : Int) = (j : Int) + (1 + (v : Int)) by omega]
          rfl
        · rcases List.mem_append.mp hq with h | h
          · exact okp q h
          · rw [List.mem_singleton.mp h]; exact ok
        · show rows.length - ((j : Int) + (1 + (v : Int))).toNat < rows.length - j
          omega
      have put : ∀ (t' : Nat) (H5 : Hp) (D1 : Ends), (∀ σ' H', OsW H c D B R ns t rows σ' H' ∧ rows.length - slotN 4 σ' < rows.length - j → D1.nx σ' H') → t' ≤ t + 2 * j + 2 → Dk c D ns t' H5 → Kp D H H5 → H5 sA = some (.tup (as.map V.ref)) → PsAt H5 as ps → RwAt H5 R rows →
          tAsg (tOp (rCatA K) (tVar 3) (tTup (tCons (tTup (tCons (tC (.str "put")) (tCons (tCB (fTupleOf K) (tCons (tSl (rSlA K) (tVar 2) (tPart (tVar 4)) (tPart (tOp rAddI (tVar 4) (tVar 5)))) tNil)) tNil))) tNil))) (gName 3) { D1 with nx := t_l_own_script_step K D1 } [some (.ref D), some (.ref B), some (.ref R), some (.ref sA), some (.int (j : Int)), some (.int (1 + (v : Int))), some (.int f), z] H5 := by
        intro t' H5 D1 k1 ht' d5 kp5 hs5 hp5 hR5
        refine ⟨_, rfl, _, rfl, _, rfl, _, rfl, _, rfl, _, rfl, _, _, rfl, rfl, _, rfl, ?_⟩
        show rSlA K (.ref R) (some (j : Int)) (some ((j : Int) + (1 + (v : Int)))) H5 _
        rw [hv]
        refine slA hR5 (by omega) fun r H6 s6 hr => ⟨r, _, rfl, .inr ⟨sqT hr, by show (2 : Nat) ≤ sizeLine; decide, fun T nT => ?_⟩⟩
        have s7 : Same H6 (upd H6 T (.tup [.str "put", .ref r])) := samN nT
        have hT : upd H6 T (.tup [.str "put", .ref r]) T = some (.tup [.str "put", .ref r]) := updS
        have hr7 := s7 _ _ hr
        generalize upd H6 T (.tup [.str "put", .ref r]) = H7 at s7 hT hr7
        refine ⟨by show (1 : Nat) ≤ sizeLine; decide, fun U nU => ?_⟩
        have s8 : Same H7 (upd H7 U (.tup [.ref T])) := samN nU
        have hU : upd H7 U (.tup [.ref T]) U = some (.tup [.ref T]) := updS
        have s58 := s6.trans (s7.trans s8)
        generalize upd H7 U (.tup [.ref T]) = H8 at s8 hU s58
        have ln : ((rows.drop j).take (1 + v)).length = 1 + v := by rw [List.length_take, List.length_drop]; omega
        exact fin T (.put ((rows.drop j).take (1 + v))) t' H8 D1 k1 ht' (d5.same s58) (kp5.trans (.of_same s58)) (s58 _ _ hs5) (hp5.mono (.of s58)) ⟨r, s8 _ _ hT, s8 _ _ hr7⟩ ⟨fun e => by rw [e] at ln; simp at ln; omega, fun z hz => okr z (List.mem_of_mem_drop (List.mem_of_mem_take hz))⟩ ln U hU
      refine ⟨_, rfl, _, _, rfl, rfl, _, rfl, ite2 (fun e4 => ?_) (fun e4 => iteF (put _ _ _ (fun _ _ z => z) (by omega) d4 kp04 hs4 hp4 hR4))⟩
      have f0 : 0 ≤ f := of_decide_eq_true e4
      obtain ⟨f, rfl⟩ := Int.eq_ofNat_of_zero_le f0
      refine ⟨_, rfl, c, D, ns, _, 4, rfl, d4, by omega, by decide, by decide, fun w H5 w0 w1 d5 fr5 => ?_⟩
      have kp5 : Kp D H4 H5 := .fr fr5
      have tm5 := kp5.tm d4
      refine ⟨_, _, rfl, rfl, _, rfl, ite2 (fun _ => ?_) (fun _ => put _ _ _ (fun _ _ z => z) (by omega) d5 (kp04.trans kp5) (tm5 _ _ hs4) (hp4.mono tm5) (tm5 _ _ hR4))⟩
      refine ⟨_, rfl, _, rfl, _, rfl, by show (3 : Nat) ≤ sizeLine; decide, fun T nT => ?_⟩
      have s7 : Same H5 (upd H5 T (.tup [.str "take", .int (f : Int), .int (1 + (v : Int))])) := samN nT
      have hT : upd H5 T (.tup [.str "take", .int (f : Int), .int (1 + (v : Int))]) T = some (.tup [.str "take", .int (f : Int), .int (1 + (v : Int))]) := updS
      generalize upd H5 T (.tup [.str "take", .int (f : Int), .int (1 + (v : Int))]) = H7 at s7 hT
      dsimp only [tNil]
      refine ⟨by show (1 : Nat) ≤ sizeLine; decide, fun U nU => ?_⟩
      have s8 : Same H7 (upd H7 U (.tup [.ref T])) := samN nU
      have hU : upd H7 U (.tup [.ref T]) U = some (.tup [.ref T]) := updS
      have s58 := s7.trans s8
      generalize upd H7 U (.tup [.ref T]) = H8 at s8 hU s58
      have hT8 := s8 _ _ hT
      exact fin T (.take f (1 + v)) _ H8 _ (fun _ _ z => z) (by omega) (d5.same s58) (kp04.trans (kp5.trans (.of_same s58))) (s58 _ _ (tm5 _ _ hs4)) ((hp4.mono tm5).mono (.of s58)) (by show H8 T = _; rw [hT8, hv]) (show 1 ≤ 1 + v by omega) rfl U hU
  · have ej : j = rows.length := by
      have : ¬ (j : Int) < ((rows.map V.str).length : Int) := fun q => e (decide_eq_true q)
      rw [List.length_map] at this
      omega
    exact ⟨_, rfl, k sA ps H2 ⟨as, hs, hp⟩ ⟨okp, by omega⟩ kp (d2.le (by omega))⟩
theorem pure_l_own_choice (h : sp_l_own_choice K vs H Q E) : t_l_own_choice K { nx := fun _ H' => Q .non H', rt := Q } (start N_l_own_choice vs) H := by
  obtain ⟨c, D, T, A, B, ns, t, as, cs, ls, bs, rfl, dk, nTD, hT, hcs, okc, hA, hB, okl, okb, ll, lb, ht, k⟩ := h
  refine ⟨by decide, fun L nL => ?_⟩
  have d1 := dk.upd (o := .lst []) (dk.neC nL) (dk.neD nL)
  have k1 : Kp D H (upd H L (.lst [])) := .new nL
  have s1 : Same H (upd H L (.lst [])) := samN nL
  have hL1 : upd H L (.lst []) L = some (.lst (([] : List Addr).map V.ref)) := updS
  have nLD := dk.neD nL
  have nLc := dk.neC nL
  have nTL : T ≠ L := ne_of_none hT nL
  generalize upd H L (.lst []) = H1 at d1 k1 s1 hL1
  show t_l_own_choice_loop K { nx := fun _ H' => Q .non H', rt := Q } [some (.ref D), some (.ref T), some (.ref A), some (.ref B), some (.ref L), none, none, none, none] H1
  have hA1 := s1 _ _ hA
  refine ⟨_, rfl, lenT hA1 ⟨_, rfl, by rw [List.length_map]; omega, by rw [List.length_map]; omega, ?_⟩⟩
  have tm1 : ∀ {H' : Hp}, Kf [D, L] H1 H' → TM H H' := fun kf a xs e => kf _ _ (s1 _ _ e) fun z => by
    simp only [List.mem_cons, List.not_mem_nil, or_false] at z
    rcases z with rfl | rfl
    · obtain ⟨ys, q⟩ := dk.someD; rw [q] at e; cases e
    · rw [nL] at e; cases e
  have hT1 : ∀ {H' : Hp}, Kf [D, L] H1 H' → H' T = some (.lst (as.map V.ref)) := fun kf => kf _ _ (s1 _ _ hT) fun z => by
    simp only [List.mem_cons, List.not_mem_nil, or_false] at z
    rcases z with z | z
    · exact nTD z
    · exact nTL z
  have leafAt : ∀ {x : Int}, 0 ≤ x → x < (cs.length : Nat) → ∃ (i : Nat) (rows : List Str), x = (i : Int) ∧ cs[i]? = some (.leaf rows) ∧ rows.length ≤ 40 ∧ ∀ z ∈ rows, OkS z := fun {x} h0 h1 => by
    obtain ⟨i, rfl⟩ := Int.eq_ofNat_of_zero_le h0
    have hi : i < cs.length := by omega
    obtain ⟨fo, w⟩ := okc _ (List.getElem_mem hi)
    obtain ⟨rows, e⟩ := word_leaf w
    rw [e] at fo
    exact ⟨i, rows, rfl, by rw [List.getElem?_eq_getElem hi, e], fo.1, fo.2⟩
  rw [List.length_map]
  refine for_range (lo := 0) (fun i σ H' => Kf [D, L] H1 H' ∧ Dk c D ns (t + 300 * i) H' ∧ (∃ (rs : List Addr) (chs : List Ch), H' L = some (.lst (rs.map V.ref)) ∧ ChsAt H' rs chs ∧ (∀ r ∈ chs, ChOk cs r) ∧ chs.length = i ∧ ∃ z1 z2 z3 z4, σ = [some (.ref D), some (.ref T), some (.ref A), some (.ref B), some (.ref L), z1, z2, z3, z4]))
    ⟨.refl, d1, ⟨[], [], hL1, .nil, (fun d h => nomatch h), rfl, _, _, _, _, rfl⟩⟩ ?_ ?_
  · rintro i σ H4 hi ⟨kf, d4, ⟨rs, chs, hL4, hch, ok, lc, z1, z2, z3, z4, rfl⟩⟩
    rw [Int.toNat_natCast] at hi
    have e0 : (0 : Int) + (i : Int) = (i : Int) := by omega
    have hA4 := tm1 kf _ _ hA
    have hB4 := tm1 kf _ _ hB
    dsimp only [gName]
    rw [e0]
    refine ⟨_, rfl, _, rfl, ?_⟩
    refine ⟨_, rfl, _, rfl, ?_⟩
    refine slToV hA4 fun r H5 s5 hr => ?_
    refine catV (s5 _ _ hB4) hr (by rw [List.length_map, List.length_take, List.length_map]; omega) fun u H6 s6 hu => ?_
    have s46 := s5.trans s6
    have hu : H6 u = some (.tup ((bs ++ ls.take i).map V.int)) := by rw [hu, List.map_append, List.map_take]
    have d6 := d4.same s46
    have kf6 : Kf [D, L] H1 H6 := kf.trans (.same s46)
    have hL6 := s46 _ _ hL4
    have hch6 := hch.mono (.of s46)
    have oku : ∀ x ∈ bs ++ ls.take i, 0 ≤ x ∧ x < (cs.length : Nat) := fun x hx => by
      rcases List.mem_append.mp hx with h | h
      · exact okb x h
      · exact okl x (List.mem_of_mem_take h)
    have hli : ls[i]? = some ls[i] := List.getElem?_eq_getElem hi
    obtain ⟨n, rows, en, hn, rl, ro⟩ := leafAt (okl _ (List.getElem_mem hi)).1 (okl _ (List.getElem_mem hi)).2
    -- the row put down
    have add : ∀ (ob : Option Int) (s : Addr) (ps : List Pc) (t' : Nat) (H7 : Hp) (D1 : Ends), (∀ σ' H', (Kf [D, L] H1 H' ∧ Dk c D ns (t + 300 * (i + 1)) H' ∧ (∃ (rs : List Addr) (chs : List Ch), H' L = some (.lst (rs.map V.ref)) ∧ ChsAt H' rs chs ∧ (∀ r ∈ chs, ChOk cs r) ∧ chs.length = i + 1 ∧ ∃ z1 z2 z3 z4, σ' = [some (.ref D), some (.ref T), some (.ref A), some (.ref B), some (.ref L), z1, z2, z3, z4])) → D1.nx σ' H') → t' ≤ t + 300 * i + 300 → Dk c D ns t' H7 → Kf [D, L] H1 H7 → H7 L = some (.lst (rs.map V.ref)) → ChsAt H7 rs chs → ScAt H7 s ps → ScOk ps →
        t_l_own_choice_add K D1 [some (.ref D), some (.ref T), some (.ref A), some (.ref B), some (.ref L), some (.int (i : Int)), some (.ref u), some (obV ob), some (.ref s)] H7 := by
      intro ob s ps t' H7 D1 k1 ht' d7 kf7 hL7 hch7 sc7 ok7
      refine ⟨_, rfl, .inl ⟨rfl, _, sqL hL7⟩, _, rfl, _, rfl, ixT (tm1 kf7 _ _ hA) (atI_nat (by rw [List.getElem?_map, hli]; rfl)) ⟨_, rfl, _, rfl, by show (3 : Nat) ≤ sizeLine; decide, fun X nX => ?_⟩⟩
      have s8 : Same H7 (upd H7 X (.tup [.int ls[i], obV ob, .ref s])) := samN nX
      have hX : upd H7 X (.tup [.int ls[i], obV ob, .ref s]) X = some (.tup [.int ls[i], obV ob, .ref s]) := updS
      have nXL := (ne_of_none hL7 nX).symm
      have d8 := d7.same s8
      generalize upd H7 X (.tup [.int ls[i], obV ob, .ref s]) = H8 at s8 hX d8
      dsimp only [tNil]
      refine ⟨L, _, _, rfl, rfl, s8 _ _ hL7, by rw [List.length_map, hch.1]; exact Nat.lt_of_le_of_lt (show _ ≤ 1000 by omega) (by decide), k1 _ _ ?_⟩
      have tm9 : TM H8 (upd H8 L (.lst (rs.map V.ref ++ [.ref X]))) := fun b xs h => updN (ne_of h (s8 _ _ hL7) (by intro z; cases z)) h
      refine ⟨(kf7.trans (.same s8)).up (by simp), (d8.upd nLc nLD).le (by omega), rs ++ [X], chs ++ [(ls[i], ob, ps)], by rw [updS, List.map_append]; rfl, ((hch7.mono (.of s8)).mono tm9).snoc ⟨s, tm9 _ _ hX, (sc7.mono (.of s8)).mono tm9⟩, fun r hr => ?_, by rw [List.length_append, lc]; rfl, _, _, _, _, rfl⟩
      rcases List.mem_append.mp hr with h | h
      · exact ok r h
      · rw [List.mem_singleton.mp h]
        exact ⟨⟨n, rows, en, hn⟩, ok7⟩
    -- the script of it
    have scr : ∀ (ob : Option Int) (t' : Nat) (H7 : Hp) (D1 : Ends), (∀ σ' H', (Kf [D, L] H1 H' ∧ Dk c D ns (t + 300 * (i + 1)) H' ∧ (∃ (rs : List Addr) (chs : List Ch), H' L = some (.lst (rs.map V.ref)) ∧ ChsAt H' rs chs ∧ (∀ r ∈ chs, ChOk cs r) ∧ chs.length = i + 1 ∧ ∃ z1 z2 z3 z4, σ' = [some (.ref D), some (.ref T), some (.ref A), some (.ref B), some (.ref L), z1, z2, z3, z4])) → D1.nx σ' H') → t' ≤ t + 300 * i + 2 → Dk c D ns t' H7 → Kf [D, L] H1 H7 → H7 L = some (.lst (rs.map V.ref)) → ChsAt H7 rs chs → (∀ x, ob = some x → 0 ≤ x ∧ x < (cs.length : Nat)) →
        t_l_own_choice_script K D1 [some (.ref D), some (.ref T), some (.ref A), some (.ref B), some (.ref L), some (.int (i : Int)), some (.ref u), some (obV ob), z4] H7 := by
      intro ob t' H7 D1 k1 ht' d7 kf7 hL7 hch7 hob
      refine ⟨by decide, fun S nS => ?_⟩
      have s8 : Same H7 (upd H7 S (.tup [])) := samN nS
      have hS : upd H7 S (.tup []) S = some (.tup (([] : List Addr).map V.ref)) := updS
      generalize upd H7 S (.tup []) = H8 at s8 hS
      have d8 := d7.same s8
      have kf8 : Kf [D, L] H1 H8 := kf7.trans (.same s8)
      dsimp only [tNil]
      refine ⟨_, rfl, rfl, _, rfl, ?_⟩
      cases ob with
      | none =>
        exact iteF (add none S [] t' H8 _ (fun _ _ z => k1 _ _ z) (by omega) d8 kf8 (s8 _ _ hL7) (hch7.mono (.of s8)) ⟨[], hS, .nil⟩ ⟨(fun _ h => nomatch h), Nat.zero_le _⟩)
      | some x =>
        obtain ⟨x0, x1⟩ := hob x rfl
        obtain ⟨m, brows, rfl, hm, bl, bo⟩ := leafAt x0 x1
        obtain ⟨ba, hba, bq, hb4, hb5⟩ := (hcs.mono (tm1 kf8)).get hm
        obtain ⟨na, hna, nq, hn4, hn5⟩ := (hcs.mono (tm1 kf8)).get hn
        refine iteT ⟨_, rfl, _, rfl, _, rfl, ixL (hT1 kf8) (atI_nat (by rw [List.getElem?_map, hba]; rfl)) (ixT hb4 rfl ⟨_, rfl, _, rfl, _, rfl, ixT (tm1 kf8 _ _ hA) (atI_nat (by rw [List.getElem?_map, hli]; rfl)) ?_⟩)⟩
        rw [en]
        refine ixL (hT1 kf8) (atI_nat (by rw [List.getElem?_map, hna]; rfl)) (ixT hn4 rfl ⟨c, D, bq, nq, ns, t', brows, rows, rfl, d8, hb5, hn5, bl, rl, bo, ro, by omega, fun s ps H9 sc9 ok9 kp9 d9 => ?_⟩)
        have hL8 := s8 _ _ hL7
        exact add (some (m : Int)) s ps _ H9 _ (fun _ _ z => k1 _ _ z) (by omega) d9 (kf8.trans (Kf.kp kp9 (by simp))) (kp9 _ _ hL8 nLD) ((hch7.mono (.of s8)).mono (kp9.tm d8)) sc9 ok9
    refine ⟨_, rfl, lenT hu ⟨_, _, rfl, rfl, _, rfl, ite2 (fun eu => ?_) (fun _ => iteF (scr none _ _ _ (fun _ _ z => z) (by omega) d6 kf6 hL6 hch6 (fun _ h => nomatch h)))⟩⟩
    rw [List.length_map] at eu
    have lu : 0 < (bs ++ ls.take i).length := by
      have q : (0 : Int) < ((bs ++ ls.take i).length : Int) := of_decide_eq_true eu
      omega
    have lu2 : (bs ++ ls.take i).length ≤ 200 := by rw [List.length_append, List.length_take]; omega
    refine ⟨_, rfl, c, D, ns, _, 3, rfl, d6, by omega, by decide, by decide, fun v H7 v0 v1 d7 fr7 => ⟨_, _, rfl, rfl, _, rfl, ite2 (fun _ => ?_) (fun _ => scr none _ _ _ (fun _ _ z => z) (by omega) d7 (kf6.trans (Kf.kp (.fr fr7) (by simp))) (by rw [fr7 _ nLD]; exact hL6) (hch6.mono ((Kp.fr fr7).tm d6)) (fun _ h => nomatch h))⟩⟩
    have hu7 : H7 u = some (.tup ((bs ++ ls.take i).map V.int)) := (Kp.fr fr7).tm d6 _ _ hu
    refine ⟨_, rfl, _, rfl, _, rfl, lenT hu7 ⟨c, D, ns, _, _, rfl, d7, by omega, by rw [List.length_map]; omega, by rw [List.length_map]; exact small100 (by omega), fun w H8 w0 w1 d8 fr8 => ?_⟩⟩
    rw [List.length_map] at w1
    obtain ⟨w, rfl⟩ := Int.eq_ofNat_of_zero_le w0
    have hw : w < (bs ++ ls.take i).length := by omega
    have hu8 : H8 u = some (.tup ((bs ++ ls.take i).map V.int)) := (Kp.fr fr8).tm d7 _ _ hu7
    have hwx : (bs ++ ls.take i)[w]? = some (bs ++ ls.take i)[w] := List.getElem?_eq_getElem hw
    refine ixT hu8 (atI_nat (by rw [List.getElem?_map, hwx]; rfl)) ?_
    exact scr (some (bs ++ ls.take i)[w]) _ H8 _ (fun _ _ z => z) (by omega) d8 (kf6.trans ((Kf.kp (.fr fr7) (by simp)).trans (Kf.kp (.fr fr8) (by simp)))) (by rw [fr8 _ nLD, fr7 _ nLD]; exact hL6) ((hch6.mono ((Kp.fr fr7).tm d6)).mono ((Kp.fr fr8).tm d7)) fun x e => by
      injection e with e
      rw [← e]
      exact oku _ (List.getElem_mem hw)
  · rintro σ H4 ⟨kf, d4, ⟨rs, chs, hL4, hch, ok, lc, z1, z2, z3, z4, rfl⟩⟩
    rw [Int.toNat_natCast] at lc d4
    have n2 : ∀ x ∈ [D, L], x = D ∨ H x = none := fun x hx => by
      simp only [List.mem_cons, List.not_mem_nil, or_false] at hx
      rcases hx with rfl | rfl
      · exact .inl rfl
      · exact .inr nL
    refine ⟨_, rfl, L, _, rfl, .inl ⟨sqL hL4, fun C nC => ?_⟩⟩
    have s5 : Same H4 (upd H4 C (.tup (rs.map V.ref))) := samN nC
    exact k C rs chs _ updS (hch.mono (.of s5)) ok (by omega) ((Kf.out k1 kf n2).trans (.of_same s5)) ((d4.same s5).le (by omega))
end
end Fw

set_option Elab.async false
set_option linter.all false
set_option maxRecDepth 100000
set_option maxHeartbeats 4000000
/-! Law k44. -/
namespace Fw
open PySem L2 RZ RT
section
variable [HasW]
abbrev N_law : List Str := ["_law_script", "_law_deck_here", "_law_extra", "_law_things", "_law_parted_here", "_law_choice", "_law_tree", "_law_root", "_law_names", "_law_k", "_law_name", "_law_last", "_law_book_here", "_law_row", "_law_told", "_law_due"]
def t_law_told (K : PySem.W.Frag) : TS := (tIfS (tNot (tB (tCall (sp_l_same K) [] E0 (tCons (tVar 14) (tCons (tCall (sp_l_choice_price K) [] E0 (tCons (tVar 3) (tCons (tTup (tCons (tVar 13) tNil)) (tCons (tC (.int 2)) tNil)))) tNil))))) (tRet (tC (.bl false))) tNext)
def t_law_end (K : PySem.W.Frag) : TS := (tRet (tCall (sp_l_same K) [] E0 (tCons (tTup (tCons (tC (.int 2)) (tCons (tC (.int 3)) (tCons (tC (.int 2)) (tCons (tC (.int 24)) tNil))))) (tCons (tTup (tCons (tC (.int 2)) (tCons (tC (.int 3)) (tCons (tC (.int 2)) (tCons (tC (.int 24)) tNil))))) tNil))))
def t_law_rowv (K : PySem.W.Frag) : TS := (tSeq (tAsg (tOp rAddI (tOp rMulI (tC (.int 2)) (tCB (fLen K) (tCons (tOp (rIx K) (tOp (rIx K) (tVar 3) (tVar 11)) (tC (.int 1))) tNil))) (tC (.int 2))) (gName 15))
    (tSeq (tIfS (tNot (tB (tCall (sp_l_same K) [] E0 (tCons (tCall (sp_row_price K) [] E0 (tCons (tVar 12) (tCons (tTup (tCons (tVar 11) (tCons (tC (.str "plain")) (tCons (tOp (rIx K) (tVar 3) (tVar 11)) tNil)))) tNil))) (tCons (tVar 15) tNil))))) (tRet (tC (.bl false))) tNext)
    (t_law_end K)))
def t_law_rowt (K : PySem.W.Frag) : TS := (tSeq (tIfS (tNot (tB (tCall (sp_l_same K) [] E0 (tCons (tCall (sp_row_price K) [] E0 (tCons (tVar 12) (tCons (tTup (tCons (tVar 7) (tCons (tC (.str "plain")) (tCons (tOp (rIx K) (tVar 3) (tVar 7)) tNil)))) tNil))) (tCons (tOp rMulI (tC (.int 2)) (tCB (fLen K) (tCons (tOp (rIx K) (tVar 6) (tC (.int 1))) tNil))) tNil))))) (tRet (tC (.bl false))) tNext)
    (t_law_rowv K))
def t_law_rows (K : PySem.W.Frag) : TS := (tSeq (tFor (iTup K (tVar 5)) (gName 13) (tSeq (tIfS (tTest (tOp fIsN (tOp (rIx K) (tVar 13) (tC (.int 1))) (tC .non))) (tAsg (tCall (sp_row_price K) [] E0 (tCons (tVar 12) (tCons (tTup (tCons (tOp (rIx K) (tVar 13) (tC (.int 0))) (tCons (tC (.str "plain")) (tCons (tOp (rIx K) (tVar 3) (tOp (rIx K) (tVar 13) (tC (.int 0)))) tNil)))) tNil))) (gName 14)) (tAsg (tCall (sp_row_price K) [] E0 (tCons (tVar 12) (tCons (tTup (tCons (tOp (rIx K) (tVar 13) (tC (.int 0))) (tCons (tC (.str "over")) (tCons (tOp (rIx K) (tVar 13) (tC (.int 1))) (tCons (tOp (rIx K) (tVar 13) (tC (.int 2))) tNil))))) tNil))) (gName 14)))
    (t_law_told K)))
    (t_law_rowt K))
def t_law_two (K : PySem.W.Frag) : TS := (tSeq (tIfS (tNot (tB (tCall (sp_l_same K) [] E0 (tCons (tCall (sp_price_of K) [.int 2] E0 (tCons (tVar 12) (tCons (tVar 5) tNil))) (tCons (tCall (sp_l_choice_price K) [] E0 (tCons (tVar 3) (tCons (tVar 5) (tCons (tC (.int 2)) tNil)))) tNil))))) (tRet (tC (.bl false))) tNext)
    (t_law_rows K))
def t_law_one (K : PySem.W.Frag) : TS := (tSeq (tIfS (tNot (tB (tCall (sp_l_same K) [] E0 (tCons (tCallN 2 (List.length (α := Str) ["over"]) (sp_price_of K) (fun us ws => (fun mv : List V => us ++ ((ws.drop 0).take 1)) []) E0 (tCons (tVar 12) (tCons (tVar 5) tNil)) (tCons (tVar 2) tNil)) (tCons (tCall (sp_l_choice_price K) [] E0 (tCons (tVar 3) (tCons (tVar 5) (tCons (tVar 2) tNil)))) tNil))))) (tRet (tC (.bl false))) tNext)
    (t_law_two K))
def t_law_book (K : PySem.W.Frag) : TS := (tSeq (tAsg (tCall (sp_l_book K) [] E0 (tCons (tVar 3) tNil)) (gName 12))
    (t_law_one K))
def t_law_last (K : PySem.W.Frag) : TS := (tSeq (tAsg (tCall (sp_l_give K) [] E0 (tCons (tVar 3) (tCons (tTup (tCons (tC (.str "version")) (tCons (tCB (fTupleOf K) (tCons (tVar 8) tNil)) (tCons (tVar 7) (tCons (tCall (sp_l_draw K) [] E0 (tCons (tVar 1) (tCons (tOp rAddI (tOp rPowI (tC (.int 10)) (tC (.int 18))) (tC (.int 1))) tNil))) tNil))))) tNil))) (gName 11))
    (t_law_book K))
def t_law_vers (K : PySem.W.Frag) : TS := (tSeq (tFor (iList K (tVar 8)) (gName 10) (tDrop (tCall (sp_l_give K) [] E0 (tCons (tVar 3) (tCons (tTup (tCons (tC (.str "version")) (tCons (tTup tNil) (tCons (tVar 7) (tCons (tVar 10) tNil))))) tNil)))))
    (t_law_last K))
def t_law_names (K : PySem.W.Frag) : TS := (tSeq (tAsg (tLc (iRng1 (tCons (tCall (sp_l_draw K) [] E0 (tCons (tVar 1) (tCons (tC (.int 5)) tNil))) tNil)) (gName 9) tYes (tOp rAddI (tOp rAddI (tVar 7) (tC (.int 1))) (tVar 9)) [9]) (gName 8))
    (t_law_vers K))
def t_law_root (K : PySem.W.Frag) : TS := (tSeq (tAsg (tCall (sp_l_give K) [] E0 (tCons (tVar 3) (tCons (tVar 6) tNil))) (gName 7))
    (t_law_names K))
def t_law_none (K : PySem.W.Frag) : TS := (tSeq (tIfS (tTest (tOp rEq (tCB (fLen K) (tCons (tVar 3) tNil)) (tC (.int 0)))) (tAsg (tTup (tCons (tC (.str "tree")) (tCons (tTup tNil) tNil))) (gName 6)) tNext)
    (t_law_root K))
def t_law_tree (K : PySem.W.Frag) : TS := (tSeq (tAsg (tTup (tCons (tC (.str "tree")) (tCons (tCall (sp_l_entries K) [] E0 (tCons (tVar 1) (tCons (tOp rCat (tLstRg (tRg1 (tCB (fLen K) (tCons (tVar 3) tNil)))) (tLst (tCons (tC (.int 0)) tNil))) tNil))) tNil))) (gName 6))
    (t_law_none K))
def t_law_choice (K : PySem.W.Frag) : TS := (tSeq (tAsg (tCall (sp_l_own_choice K) [] E0 (tCons (tVar 1) (tCons (tVar 3) (tCons (tOp (rIx K) (tVar 4) (tC (.int 0))) (tCons (tOp (rIx K) (tVar 4) (tC (.int 1))) tNil))))) (gName 5))
    (t_law_tree K))
def t_law_parted (K : PySem.W.Frag) : TS := (tSeq (tAsg (tCall (sp_l_parted K) [] E0 (tCons (tVar 1) (tCons (tVar 3) tNil))) (gName 4))
    (t_law_choice K))
def t_law_things (K : PySem.W.Frag) : TS := (tSeq (tAsg (tCall (sp_l_leaves K) [] E0 (tCons (tVar 1) (tCons (tC (.int 6)) tNil))) (gName 3))
    (t_law_parted K))
def t_law (K : PySem.W.Frag) : TS := (tSeq (tAsg (tCall (sp_l_deck K) [] E0 (tCons (tVar 0) tNil)) (gName 1))
    (tSeq (tAsg (tCall (sp_l_draw K) [] E0 (tCons (tVar 1) (tCons (tC (.int 1001)) tNil))) (gName 2))
    (t_law_things K)))
end
/-- the versions put in one by one -/
def lineV (root : Nat) (n : Nat) : List Ct := (List.range n).map fun k => Ct.ver [] (root : Int) ((root : Int) + 1 + (k : Nat))
theorem lineV_succ (root n : Nat) : lineV root (n + 1) = lineV root n ++ [Ct.ver [] (root : Int) ((root : Int) + 1 + (n : Nat))] := by
  unfold lineV
  rw [List.range_succ, List.map_append]
  rfl
theorem lineV_len (root n : Nat) : (lineV root n).length = n := by unfold lineV; rw [List.length_map, List.length_range]
theorem lineV_new (root n : Nat) : Ct.ver [] (root : Int) ((root : Int) + 1 + (n : Nat)) ∉ lineV root n := fun h => by
  obtain ⟨k, hk, e⟩ := List.mem_map.mp h
  have := List.mem_range.mp hk
  injection e with _ _ e
  omega
theorem addC_new {cs : List Ct} {c : Ct} (h : c ∉ cs) : addC cs c = cs ++ [c] := if_neg h
section
variable [HasW] {K : PySem.W.Frag} {vs : List V} {H H' : Hp} {Q : VK} {E : XK} {c D S T C A : Addr} {dn : List Int} {t : Nat} {b : BkA} {cs : List Ct} {as bas rs : List Addr} {chs : List Ch} {x : Int} {z4 z7 z8 z9 z10 z11 z12 z13 z14 z15 : Option V}
/-- behind the book -/
structure Z44 (K : PySem.W.Frag) (H : Hp) (T C A : Addr) (as : List Addr) (cs : List Ct) (b : BkA) (bas rs : List Addr) (chs : List Ch) (es : List (Str × Int)) (ps : List Int) (st : Int) (root last : Nat) : Prop where
  hT : H T = some (.lst (as.map V.ref))
  at_ : CsAt H as cs
  bk : BkAt K H b cs bas
  hC : H C = some (.tup (rs.map V.ref))
  ch : ChsAt H rs chs
  ok : ∀ r ∈ chs, ChOk cs r
  few : chs.length ≤ 100
  hA : CtAt H A (.tree es)
  hr : cs[root]? = some (.tree es)
  hl : cs[last]? = some (.ver ps (root : Int) st)
variable {es : List (Str × Int)} {ps : List Int} {st : Int} {root last : Nat}
theorem Z44.same (z : Z44 K H T C A as cs b bas rs chs es ps st root last) (s : Same H H') : Z44 K H' T C A as cs b bas rs chs es ps st root last :=
  ⟨s _ _ z.hT, z.at_.mono (.of s), z.bk.same s, s _ _ z.hC, z.ch.mono (.of s), z.ok, z.few, z.hA.mono (.of s), z.hr, z.hl⟩
theorem plP_leaf (rows : List Str) : plP (.leaf rows) = 2 * (rows.length : Int) := by
  unfold plP
  rw [if_neg (show (Ct.leaf rows).word ≠ "version" from wv_lv)]
  show 2 * ((rows.length : Int) + 0) = _
  omega
theorem plP_tree (es : List (Str × Int)) : plP (.tree es) = 2 * (es.length : Int) := by
  unfold plP
  rw [if_neg (show (Ct.tree es).word ≠ "version" from wv_tv)]
  show 2 * ((es.length : Int) + 0) = _
  omega
theorem plP_ver (ps : List Int) (r s : Int) : plP (.ver ps r s) = 2 * (ps.length : Int) + 2 := by
  unfold plP
  rw [if_pos (show (Ct.ver ps r s).word = "version" from rfl)]
  show 2 * ((ps.length : Int) + 1) = _
  omega
theorem law_end (k : ∀ H', Q (.bl true) H') {σ : L2.St} : t_law_end K { nx := fun _ H' => Q .non H', rt := Q } σ H := by
  refine ⟨by show (4 : Nat) ≤ sizeLine; decide, fun p np => ?_⟩
  have h1 : upd H p (.tup [.int 2, .int 3, .int 2, .int 24]) p = some (.tup (([2, 3, 2, 24] : List Int).map V.int)) := updS
  generalize upd H p (.tup [.int 2, .int 3, .int 2, .int 24]) = H1 at h1
  dsimp only [tNil]
  refine ⟨by show (4 : Nat) ≤ sizeLine; decide, fun q nq => ?_⟩
  have h2 : upd H1 q (.tup [.int 2, .int 3, .int 2, .int 24]) q = some (.tup (([2, 3, 2, 24] : List Int).map V.int)) := updS
  exact ⟨_, _, rfl, SameV.tup (samN nq _ _ h1) h2 rfl (by show (4 : Nat) ≤ 100000; decide) SameV.ints, k _⟩
theorem law_rowv (z : Z44 K H T C A as cs b bas rs chs es ps st root last) (k : ∀ H', Q (.bl true) H') : t_law_rowv K { nx := fun _ H' => Q .non H', rt := Q } [some (.ref S), some (.ref D), some (.int x), some (.ref T), z4, some (.ref C), some (.ref A), some (.int (root : Int)), z8, z9, z10, some (.int (last : Int)), some (.ref b.B), z13, z14, z15] H := by
  obtain ⟨a, ha, r, h1, h2⟩ := z.at_.get z.hl
  have ix : ∀ {H' : Hp} {R : VK}, Same H H' → R (.ref a) H' → rIx K (.ref T) (.int (last : Int)) H' R := fun s q => ixL (s _ _ z.hT) (atI_nat (by rw [List.getElem?_map, ha]; rfl)) q
  refine ⟨_, rfl, _, rfl, ix (.refl _) (ixT h1 rfl (lenT h2 ⟨_, _, rfl, rfl, .inl ⟨by decide, by decide⟩, _, _, rfl, rfl, ?_⟩))⟩
  refine ⟨_, rfl, _, rfl, _, rfl, _, rfl, ix (.refl _) ⟨by show (3 : Nat) ≤ sizeLine; decide, fun p np => ?_⟩⟩
  have s1 : Same H (upd H p (.tup [.int (last : Int), .str "plain", .ref a])) := samN np
  have hp : upd H p (.tup [.int (last : Int), .str "plain", .ref a]) p = some (.tup [.int (last : Int), .str "plain", .ref a]) := updS
  generalize upd H p (.tup [.int (last : Int), .str "plain", .ref a]) = H1 at s1 hp
  dsimp only [tNil]
  refine ⟨_, p, rfl, .inr ⟨_, a, .ver ps (root : Int) st, hp, ⟨r, s1 _ _ h1, s1 _ _ h2⟩, _, rfl, _, _, rfl, SameV.int ?_, _, rfl, iteF (law_end k)⟩⟩
  rw [plP_ver, List.length_map]
theorem law_rowt (z : Z44 K H T C A as cs b bas rs chs es ps st root last) (k : ∀ H', Q (.bl true) H') : t_law_rowt K { nx := fun _ H' => Q .non H', rt := Q } [some (.ref S), some (.ref D), some (.int x), some (.ref T), z4, some (.ref C), some (.ref A), some (.int (root : Int)), z8, z9, z10, some (.int (last : Int)), some (.ref b.B), z13, z14, z15] H := by
  obtain ⟨a, ha, hca⟩ := z.at_.get z.hr
  refine ⟨_, rfl, _, rfl, _, rfl, _, rfl, ixL z.hT (atI_nat (by rw [List.getElem?_map, ha]; rfl)) ⟨by show (3 : Nat) ≤ sizeLine; decide, fun p np => ?_⟩⟩
  have s1 : Same H (upd H p (.tup [.int (root : Int), .str "plain", .ref a])) := samN np
  have hp : upd H p (.tup [.int (root : Int), .str "plain", .ref a]) p = some (.tup [.int (root : Int), .str "plain", .ref a]) := updS
  generalize upd H p (.tup [.int (root : Int), .str "plain", .ref a]) = H1 at s1 hp
  have z1 := z.same s1
  dsimp only [tNil]
  refine ⟨_, p, rfl, .inr ⟨_, a, .tree es, hp, hca.mono (.of s1), _, rfl, z1.hA.two fun r xs hr hl => lenT hr ⟨_, _, rfl, rfl, .inl ⟨by decide, by decide⟩, _, _, rfl, SameV.int ?_, _, rfl, iteF (law_rowv z1 k)⟩⟩⟩
  rw [plP_tree, hl]
  rfl
theorem law_rows (z : Z44 K H T C A as cs b bas rs chs es ps st root last) (k : ∀ H', Q (.bl true) H') : t_law_rows K { nx := fun _ H' => Q .non H', rt := Q } [some (.ref S), some (.ref D), some (.int x), some (.ref T), z4, some (.ref C), some (.ref A), some (.int (root : Int)), z8, z9, z10, some (.int (last : Int)), some (.ref b.B), z13, z14, z15] H := by
  refine ⟨_, rfl, C, rfl, ⟨_, sqT z.hC⟩, ?_⟩
  refine for_tup (K := K) (a := C) (xs := rs.map V.ref) (fun i σ H' => Same H H' ∧ ∃ z13 z14, σ = [some (.ref S), some (.ref D), some (.int x), some (.ref T), z4, some (.ref C), some (.ref A), some (.int (root : Int)), z8, z9, z10, some (.int (last : Int)), some (.ref b.B), z13, z14, z15]) ⟨.refl _, _, _, rfl⟩ (fun i σ H' _ p => sqT (p.1 _ _ z.hC)) ?_ ?_
  · rintro i y σ H1 hx ⟨s1, z13, z14, rfl⟩
    have z1 := z.same s1
    obtain ⟨a, ⟨l, ob, qs⟩, rfl, h1, h2, s, ha, sc⟩ := z1.ch.get hx
    have o := z.ok _ (List.mem_of_getElem? h2)
    obtain ⟨j, rows, e1, hj⟩ := o.leaf
    have e1 : l = (j : Int) := e1
    subst e1
    -- what was told is the law's own
    have told : ∀ (H2 : Hp) (v : Int) (D1 : Ends), (∀ σ' H', (Same H H' ∧ ∃ z13 z14, σ' = [some (.ref S), some (.ref D), some (.int x), some (.ref T), z4, some (.ref C), some (.ref A), some (.int (root : Int)), z8, z9, z10, some (.int (last : Int)), some (.ref b.B), z13, z14, z15]) → D1.nx σ' H') → Same H1 H2 → v = chP cs 2 ((j : Int), ob, qs) →
        t_law_told K D1 [some (.ref S), some (.ref D), some (.int x), some (.ref T), z4, some (.ref C), some (.ref A), some (.int (root : Int)), z8, z9, z10, some (.int (last : Int)), some (.ref b.B), some (.ref a), some (.int v), z15] H2 := by
      intro H2 v D1 kk s2 ev
      refine ⟨_, rfl, _, rfl, _, rfl, by show (1 : Nat) ≤ sizeLine; decide, fun p np => ?_⟩
      have s3 : Same H2 (upd H2 p (.tup [.ref a])) := samN np
      have hp : upd H2 p (.tup [.ref a]) p = some (.tup (([a] : List Addr).map V.ref)) := updS
      generalize upd H2 p (.tup [.ref a]) = H3 at s3 hp
      have s13 := s2.trans s3
      have z3 := z1.same s13
      dsimp only [tNil]
      have one : ChsAt H3 [a] [((j : Int), ob, qs)] := ChsAt.snoc (as := []) (cs := []) .nil ⟨s, s13 _ _ ha, sc.mono (.of s13)⟩
      refine ⟨T, p, as, cs, [a], [((j : Int), ob, qs)], 2, rfl, z3.hT, z3.at_, hp, one, fun r hr => by rw [List.mem_singleton.mp hr]; exact o, _, _, rfl, SameV.int ?_, _, rfl, iteF (kk _ _ ⟨s1.trans s13, _, _, rfl⟩)⟩
      rw [ev]
      show _ = chP cs 2 ((j : Int), ob, qs) + 0
      omega
    refine ⟨_, rfl, ixT ha rfl ⟨rfl, _, rfl, ?_⟩⟩
    cases ob with
    | none =>
      obtain ⟨la, hla, q, h4, h5⟩ := z1.at_.get hj
      refine iteT ⟨_, rfl, _, rfl, ixT ha rfl ⟨_, rfl, _, rfl, ixT ha rfl (ixL z1.hT (atI_nat (by rw [List.getElem?_map, hla]; rfl)) ⟨by show (3 : Nat) ≤ sizeLine; decide, fun p np => ?_⟩)⟩⟩
      have s2 : Same H1 (upd H1 p (.tup [.int (j : Int), .str "plain", .ref la])) := samN np
      have hp : upd H1 p (.tup [.int (j : Int), .str "plain", .ref la]) p = some (.tup [.int (j : Int), .str "plain", .ref la]) := updS
      generalize upd H1 p (.tup [.int (j : Int), .str "plain", .ref la]) = H2 at s2 hp
      dsimp only [tNil]
      refine ⟨_, p, rfl, .inr ⟨_, la, .leaf rows, hp, ⟨q, s2 _ _ h4, s2 _ _ h5⟩, ?_⟩⟩
      exact told H2 _ _ (fun _ _ w => w) s2 (by rw [plP_leaf]; unfold chP; rw [rowsAt_at hj])
    | some w =>
      refine iteF ⟨_, rfl, _, rfl, ixT ha rfl ⟨_, rfl, ixT ha rfl ⟨_, rfl, ixT ha rfl ⟨by show (4 : Nat) ≤ sizeLine; decide, fun p np => ?_⟩⟩⟩⟩
      have s2 : Same H1 (upd H1 p (.tup [.int (j : Int), .str "over", obV (some w), .ref s])) := samN np
      have hp : upd H1 p (.tup [.int (j : Int), .str "over", obV (some w), .ref s]) p = some (.tup [.int (j : Int), .str "over", obV (some w), .ref s]) := updS
      generalize upd H1 p (.tup [.int (j : Int), .str "over", obV (some w), .ref s]) = H2 at s2 hp
      dsimp only [tNil]
      refine ⟨_, p, rfl, .inl ⟨_, _, s, qs, hp, sc.mono (.of s2), o.sc, fun H3 s3 => ?_⟩⟩
      exact told H3 _ _ (fun _ _ w => w) (s2.trans s3) rfl
  · rintro σ H1 ⟨s1, z13, z14, rfl⟩
    exact law_rowt (z.same s1) k
theorem law_one (z : Z44 K H T C A as cs b bas rs chs es ps st root last) (x0 : 0 ≤ x) (k : ∀ H', Q (.bl true) H') : t_law_one K { nx := fun _ H' => Q .non H', rt := Q } [some (.ref S), some (.ref D), some (.int x), some (.ref T), z4, some (.ref C), some (.ref A), some (.int (root : Int)), z8, z9, z10, some (.int (last : Int)), some (.ref b.B), z13, z14, z15] H := by
  have few := z.few
  refine ⟨_, rfl, _, rfl, _, rfl, rfl, rfl, b, cs, bas, C, rs, chs, x, rfl, z.bk, z.hC, z.ch, z.ok, by omega, fun H1 s1 => ?_⟩
  have z1 := z.same s1
  refine ⟨_, rfl, _, rfl, _, rfl, T, C, as, cs, rs, chs, x, rfl, z1.hT, z1.at_, z1.hC, z1.ch, z1.ok, _, _, rfl, SameV.int rfl, _, rfl, iteF ?_⟩
  refine ⟨_, rfl, _, rfl, b, cs, bas, C, rs, chs, 2, rfl, z1.bk, z1.hC, z1.ch, z1.ok, by omega, fun H2 s2 => ?_⟩
  have z2 := z1.same s2
  exact ⟨_, rfl, _, rfl, T, C, as, cs, rs, chs, 2, rfl, z2.hT, z2.at_, z2.hC, z2.ch, z2.ok, _, _, rfl, SameV.int rfl, _, rfl, iteF (law_rows z2 k)⟩
/-- ahead of the book -/
structure Y44 (H : Hp) (c D : Addr) (dn : List Int) (t : Nat) (T C A : Addr) (as : List Addr) (cs : List Ct) (rs : List Addr) (chs : List Ch) (es : List (Str × Int)) : Prop where
  dk : Dk c D dn t H
  hT : H T = some (.lst (as.map V.ref))
  at_ : CsAt H as cs
  fam : FamOk cs
  hC : H C = some (.tup (rs.map V.ref))
  ch : ChsAt H rs chs
  ok : ∀ r ∈ chs, ChOk cs r
  few : chs.length ≤ 100
  hA : CtAt H A (.tree es)
  nTD : T ≠ D
  nTc : T ≠ c
theorem Y44.same (y : Y44 H c D dn t T C A as cs rs chs es) (s : Same H H') : Y44 H' c D dn t T C A as cs rs chs es :=
  ⟨y.dk.same s, s _ _ y.hT, y.at_.mono (.of s), y.fam, s _ _ y.hC, y.ch.mono (.of s), y.ok, y.few, y.hA.mono (.of s), y.nTD, y.nTc⟩
theorem Y44.kp {t' : Nat} (y : Y44 H c D dn t T C A as cs rs chs es) (k : Kp D H H') (d : Dk c D dn t' H') : Y44 H' c D dn t' T C A as cs rs chs es :=
  have tm := k.tm y.dk
  ⟨d, k _ _ y.hT y.nTD, y.at_.mono tm, y.fam, tm _ _ y.hC, y.ch.mono tm, y.ok, y.few, y.hA.mono tm, y.nTD, y.nTc⟩
theorem Y44.give {X : Addr} {d : Ct} (y : Y44 H c D dn t T C A as cs rs chs es) (hc : CtAt H X d) (fo : d.form) (inb : d.inB cs = true) (few : cs.length ≤ 900) (k : ∀ (i : Nat) (as' : List Addr) (H' : Hp), Y44 H' c D dn t T C A as' (addC cs d) rs chs es → (addC cs d)[i]? = some d → (∀ b, b ≠ T → H' b = H b) → Q (.int (i : Int)) H') : sp_l_give K [.ref T, .ref X] H Q E := by
  refine give_ok y.hT y.at_ hc fo y.fam (by omega) fun i as' H' hT' hcs' hi fr => ?_
  have tm : TM H H' := fun a xs e => by rw [fr a (ne_of e y.hT fun z => by cases z)]; exact e
  obtain ⟨m, em⟩ := addC_pre cs d
  exact k i as' H' ⟨y.dk.but fr y.nTc y.nTD, hT', hcs', y.fam.add fo inb, tm _ _ y.hC, y.ch.mono tm, fun r hr => by rw [em]; exact (y.ok r hr).mono, y.few, y.hA.mono tm, y.nTD, y.nTc⟩ hi fr
theorem hasK_root {root : Nat} (hr : cs[root]? = some (.tree es)) : hasK cs ["tree"] (root : Int) = true := hasK_at hr con1
theorem law_last {W : Addr} {n : Nat} (bc : BkC K) (y : Y44 H c D dn t T C A as cs rs chs es) (hW : H W = some (.lst ((List.range n).map fun k => V.int ((root : Int) + 1 + (k : Nat))))) (hn : n ≤ 4) (hv : ∀ k, k < n → hasK cs ["version"] ((root : Int) + 1 + (k : Nat)) = true) (hr : cs[root]? = some (.tree es)) (few : cs.length ≤ 300) (x0 : 0 ≤ x) (ht : t + 1 < 1000000000) (k : ∀ H', Q (.bl true) H') :
    t_law_last K { nx := fun _ H' => Q .non H', rt := Q } [some (.ref S), some (.ref D), some (.int x), some (.ref T), z4, some (.ref C), some (.ref A), some (.int (root : Int)), some (.ref W), z9, z10, z11, z12, z13, z14, z15] H := by
  refine ⟨_, rfl, _, rfl, W, _, rfl, .inl ⟨sqL hW, fun P nP => ?_⟩⟩
  have s1 : Same H (upd H P (.tup ((List.range n).map fun k => V.int ((root : Int) + 1 + (k : Nat))))) := samN nP
  have hP : upd H P (.tup ((List.range n).map fun k => V.int ((root : Int) + 1 + (k : Nat)))) P = some (.tup (((List.range n).map fun k : Nat => (root : Int) + 1 + (k : Nat)).map V.int)) := by rw [updS, List.map_map]; rfl
  generalize upd H P (.tup ((List.range n).map fun k => V.int ((root : Int) + 1 + (k : Nat)))) = H1 at s1 hP
  have y1 := y.same s1
  dsimp only [tNil]
  refine ⟨_, rfl, _, rfl, _, _, rfl, rfl, ⟨by decide, by decide, by decide⟩, _, _, rfl, rfl, c, D, dn, t, _, rfl, y1.dk, by omega, by decide +kernel, by decide +kernel, fun v H2 v0 v1 d2 fr2 => ?_⟩
  have kp2 : Kp D H1 H2 := .fr fr2
  have y2 := y1.kp kp2 d2
  have hP2 := kp2.tm y1.dk _ _ hP
  refine ⟨by show (4 : Nat) ≤ sizeLine; decide, fun X nX => ?_⟩
  have s3 : Same H2 (upd H2 X (.tup [.str "version", .ref P, .int (root : Int), .int v])) := samN nX
  have hX : upd H2 X (.tup [.str "version", .ref P, .int (root : Int), .int v]) X = some (.tup [.str "version", .ref P, .int (root : Int), .int v]) := updS
  generalize upd H2 X (.tup [.str "version", .ref P, .int (root : Int), .int v]) = H3 at s3 hX
  have y3 := y2.same s3
  have ln : ((List.range n).map fun k : Nat => (root : Int) + 1 + (k : Nat)).length = n := by rw [List.length_map, List.length_range]
  have v2 : v ≤ 1000000000000000000 := by
    have e : (10 : Int) ^ (18 : Int).toNat + 1 = 1000000000000000001 := by decide +kernel
    rw [e] at v1
    omega
  refine Y44.give y3 (d := .ver ((List.range n).map fun k : Nat => (root : Int) + 1 + (k : Nat)) (root : Int) v) ⟨P, hX, s3 _ _ hP2⟩ ⟨by omega, ?_, v0, v2⟩ ?_ (by omega) fun i as' H4 y4 hi fr4 => ?_
  · rw [List.pairwise_map]
    exact List.pairwise_lt_range.imp fun h => by omega
  · unfold Ct.inB
    rw [Bool.and_eq_true]
    refine ⟨List.all_eq_true.mpr fun p hp => ?_, hasK_root hr⟩
    obtain ⟨q, hq, e⟩ := List.mem_map.mp hp
    rw [← e]
    exact hv q (List.mem_range.mp hq)
  obtain ⟨m, em⟩ := addC_pre cs (.ver ((List.range n).map fun k : Nat => (root : Int) + 1 + (k : Nat)) (root : Int) v)
  have lm := addC_len cs (.ver ((List.range n).map fun k : Nat => (root : Int) + 1 + (k : Nat)) (root : Int) v)
  have hr' : (addC cs (.ver ((List.range n).map fun k : Nat => (root : Int) + 1 + (k : Nat)) (root : Int) v))[root]? = some (.tree es) := by
    rw [em, List.getElem?_append_left (List.getElem?_eq_some_iff.mp hr).1]
    exact hr
  refine ⟨_, rfl, T, as', _, rfl, bc, y4.hT, y4.at_, y4.fam, by omega, fun b H5 s5 fr5 bk => ?_⟩
  have y5 := y4.same s5
  exact law_one ⟨y5.hT, y5.at_, bk, y5.hC, y5.ch, y5.ok, y5.few, y5.hA, hr', hi⟩ x0 k
theorem law_names (bc : BkC K) (y : Y44 H c D dn t T C A as cs rs chs es) (hr : cs[root]? = some (.tree es)) (hl : cs.length = root + 1) (nov : ∀ d ∈ cs, d.word ≠ "version") (few : cs.length ≤ 100) (x0 : 0 ≤ x) (ht : t + 2 < 1000000000) (k : ∀ H', Q (.bl true) H') :
    t_law_names K { nx := fun _ H' => Q .non H', rt := Q } [some (.ref S), some (.ref D), some (.int x), some (.ref T), z4, some (.ref C), some (.ref A), some (.int (root : Int)), z8, z9, z10, z11, z12, z13, z14, z15] H := by
  refine ⟨_, rfl, c, D, dn, t, 5, rfl, y.dk, by omega, by decide, by decide, fun n H1 n0 n1 d1 fr1 => ⟨_, rfl, by omega, by omega, fun L nL => ?_⟩⟩
  have y1 := y.kp (.fr fr1) d1
  obtain ⟨n, rfl⟩ := Int.eq_ofNat_of_zero_le n0
  rw [Int.toNat_natCast]
  refine lc_grow (walk_range (lo := 0) (n := n)) yFn (ys := (List.range n).map fun k => V.int ((root : Int) + 1 + (k : Nat))) nL (by rw [List.length_map, List.length_range]) (by omega) (fun _ _ => trivial) ?_ ?_
  · rintro i w y' H' R hi ⟨_, rfl⟩ hy s r
    rw [List.getElem?_map, List.getElem?_range hi] at hy
    cases Option.some.inj hy
    refine ⟨rfl, _, rfl, _, _, rfl, rfl, _, rfl, _, _, rfl, rfl, ?_⟩
    show R (.int ((root : Int) + 1 + (0 + (i : Int)))) H'
    rw [show (root : Int) + 1 + (0 + (i : Int)) = (root : Int) + 1 + (i : Int) by omega]
    exact r _ (.refl _)
  · intro H2 s2 hL
    have y2 := y1.same s2
    have nTL : T ≠ L := ne_of_none y1.hT nL
    refine ⟨_, rfl, L, rfl, ⟨_, sqL hL⟩, ?_⟩
    refine for_it (walk_list (xs := (List.range n).map fun k => V.int ((root : Int) + 1 + (k : Nat)))) (fun i σ H' => (∃ as' : List Addr, Y44 H' c D dn (t + 1) T C A as' (cs ++ lineV root i) rs chs es) ∧ H' L = some (.lst ((List.range n).map fun k => V.int ((root : Int) + 1 + (k : Nat)))) ∧ ∃ z10, σ = [some (.ref S), some (.ref D), some (.int x), some (.ref T), z4, some (.ref C), some (.ref A), some (.int (root : Int)), some (.ref L), z9, z10, z11, z12, z13, z14, z15]) ⟨⟨as, by rw [show lineV root 0 = [] from rfl, List.append_nil]; exact y2⟩, hL, _, rfl⟩ (fun i σ H' _ e => sqL e.2.1) ?_ ?_
    · rintro i w σ H3 H4 hi ⟨⟨as', y3⟩, hL3, z10, rfl⟩ ⟨rfl, hw⟩
      rw [List.length_map, List.length_range] at hi
      rw [List.getElem?_map, List.getElem?_range hi] at hw
      cases Option.some.inj hw
      refine ⟨_, rfl, ⟨by decide, fun P nP => ?_⟩⟩
      have s4 : Same H4 (upd H4 P (.tup [])) := samN nP
      have hP : upd H4 P (.tup []) P = some (.tup (([] : List Int).map V.int)) := updS
      generalize upd H4 P (.tup []) = H5 at s4 hP
      dsimp only [tNil]
      refine ⟨_, rfl, _, rfl, by show (4 : Nat) ≤ sizeLine; decide, fun X nX => ?_⟩
      have s5 : Same H5 (upd H5 X (.tup [.str "version", .ref P, .int (root : Int), .int ((root : Int) + 1 + (i : Nat))])) := samN nX
      have hX : upd H5 X (.tup [.str "version", .ref P, .int (root : Int), .int ((root : Int) + 1 + (i : Nat))]) X = some (.tup [.str "version", .ref P, .int (root : Int), .int ((root : Int) + 1 + (i : Nat))]) := updS
      generalize upd H5 X (.tup [.str "version", .ref P, .int (root : Int), .int ((root : Int) + 1 + (i : Nat))]) = H6 at s5 hX
      have y6 := y3.same (s4.trans s5)
      have hL6 := (s4.trans s5) _ _ hL3
      have new : Ct.ver [] (root : Int) ((root : Int) + 1 + (i : Nat)) ∉ cs ++ lineV root i := fun h => by
        rcases List.mem_append.mp h with h | h
        · exact nov _ h rfl
        · exact lineV_new root i h
      have hr' : (cs ++ lineV root i)[root]? = some (.tree es) := by rw [List.getElem?_append_left (by omega)]; exact hr
      show sp_l_give K [V.ref T, V.ref X] _ _ E0
      refine Y44.give y6 (d := .ver [] (root : Int) ((root : Int) + 1 + (i : Nat))) ⟨P, hX, s5 _ _ hP⟩ ⟨Nat.zero_le _, .nil, by omega, by omega⟩ (by
        show (true && hasK (cs ++ lineV root i) ["tree"] (root : Int)) = true
        rw [hasK_root hr']
        rfl) (by rw [List.length_append, lineV_len]; omega) fun j as2 H7 y7 hj fr7 => ?_
      rw [addC_new new, List.append_assoc, ← lineV_succ] at y7
      exact ⟨⟨as2, y7⟩, by rw [fr7 _ nTL.symm]; exact hL6, _, rfl⟩
    · rintro σ H3 ⟨⟨as', y3⟩, hL3, z10, rfl⟩
      rw [List.length_map, List.length_range] at y3
      refine law_last bc y3 hL3 (by omega) (fun q hq => ?_) (by rw [List.getElem?_append_left (by omega)]; exact hr) (by rw [List.length_append, lineV_len]; omega) x0 (by omega) k
      have e : (cs ++ lineV root n)[root + 1 + q]? = some (Ct.ver [] (root : Int) ((root : Int) + 1 + (q : Nat))) := by
        rw [List.getElem?_append_right (by omega), show root + 1 + q - cs.length = q by omega]
        unfold lineV
        rw [List.getElem?_map, List.getElem?_range hq]
        rfl
      have := hasK_at e (ks := ["version"]) con1
      rw [show ((root + 1 + q : Nat) : Int) = (root : Int) + 1 + (q : Int) by omega] at this
      exact this
theorem law_root (bc : BkC K) (y : Y44 H c D dn t T C A as cs rs chs es) (fo : (Ct.tree es).form) (inb : (Ct.tree es).inB cs = true) (lf : ∀ d ∈ cs, d.word = "leaf") (few : cs.length ≤ 90) (x0 : 0 ≤ x) (ht : t + 2 < 1000000000) (k : ∀ H', Q (.bl true) H') :
    t_law_root K { nx := fun _ H' => Q .non H', rt := Q } [some (.ref S), some (.ref D), some (.int x), some (.ref T), z4, some (.ref C), some (.ref A), z7, z8, z9, z10, z11, z12, z13, z14, z15] H := by
  refine ⟨_, rfl, _, rfl, ?_⟩
  have new : Ct.tree es ∉ cs := fun h => wv_lt (lf _ h).symm
  dsimp only [tNil]
  show sp_l_give K [V.ref T, V.ref A] H _ E0
  refine Y44.give y y.hA fo inb (by omega) fun i as' H1 y1 hi fr => ?_
  rw [addC_new new] at y1 hi
  have hi2 := (List.getElem?_eq_some_iff.mp hi).1
  rw [List.length_append, List.length_singleton] at hi2
  have ei : i = cs.length := by
    by_cases q : i < cs.length
    · rw [List.getElem?_append_left q] at hi
      exact absurd (List.mem_of_getElem? hi) new
    · omega
  subst ei
  refine law_names bc y1 hi (by rw [List.length_append]; rfl) (fun d hd => ?_) (by rw [List.length_append, List.length_singleton]; omega) x0 ht k
  rcases List.mem_append.mp hd with h | h
  · rw [lf d h]; exact wv_lv
  · rw [List.mem_singleton.mp h]; exact wv_tv
theorem law_none {es0 : List (Str × Int)} (bc : BkC K) (y : Y44 H c D dn t T C A as cs rs chs es) (fo : (Ct.tree es).form) (hk : cs ≠ [] → (Ct.tree es).inB cs = true) (lf : ∀ d ∈ cs, d.word = "leaf") (few : cs.length ≤ 90) (x0 : 0 ≤ x) (ht : t + 2 < 1000000000) (k : ∀ H', Q (.bl true) H') :
    t_law_none K { nx := fun _ H' => Q .non H', rt := Q } [some (.ref S), some (.ref D), some (.int x), some (.ref T), z4, some (.ref C), some (.ref A), z7, z8, z9, z10, z11, z12, z13, z14, z15] H := by
  refine ⟨_, rfl, lenL y.hT ⟨rfl, _, rfl, ?_⟩⟩
  rw [List.length_map, y.at_.1]
  refine ite2 (fun e => ?_) (fun e => ?_)
  · refine ⟨by decide, fun P nP => ?_⟩
    have s1 : Same H (upd H P (.tup [])) := samN nP
    have hP : upd H P (.tup []) P = some (.tup (([] : List Addr).map V.ref)) := updS
    generalize upd H P (.tup []) = H1 at s1 hP
    dsimp only [tNil]
    refine ⟨by show (2 : Nat) ≤ sizeLine; decide, fun X nX => ?_⟩
    have s2 : Same H1 (upd H1 X (.tup [.str "tree", .ref P])) := samN nX
    have hX : upd H1 X (.tup [.str "tree", .ref P]) X = some (.tup [.str "tree", .ref P]) := updS
    generalize upd H1 X (.tup [.str "tree", .ref P]) = H2 at s2 hX
    have y2 := y.same (s1.trans s2)
    have hc : CtAt H2 X (.tree []) := ⟨P, [], hX, s2 _ _ hP, rfl, fun i b e h => nomatch h⟩
    exact law_root bc ⟨y2.dk, y2.hT, y2.at_, y2.fam, y2.hC, y2.ch, y2.ok, y2.few, hc, y2.nTD, y2.nTc⟩ ⟨Nat.zero_le _, (fun e h => nomatch h), .nil⟩ rfl lf few x0 ht k
  · have ne : cs ≠ [] := fun z => by
      rw [z] at e
      exact e (decide_eq_true rfl)
    exact law_root bc y fo (hk ne) lf few x0 ht k
theorem law_tree {z6 : Option V} (bc : BkC K) (dk : Dk c D dn t H) (hT : H T = some (.lst (as.map V.ref))) (at_ : CsAt H as cs) (fam : FamOk cs) (hC : H C = some (.tup (rs.map V.ref))) (ch : ChsAt H rs chs) (ok : ∀ r ∈ chs, ChOk cs r) (fw : chs.length ≤ 100) (nTD : T ≠ D) (nTc : T ≠ c) (lf : ∀ d ∈ cs, d.word = "leaf") (few : cs.length ≤ 90) (x0 : 0 ≤ x) (ht : t + 100 < 1000000000) (k : ∀ H', Q (.bl true) H') :
    t_law_tree K { nx := fun _ H' => Q .non H', rt := Q } [some (.ref S), some (.ref D), some (.int x), some (.ref T), z4, some (.ref C), z6, z7, z8, z9, z10, z11, z12, z13, z14, z15] H := by
  refine ⟨_, rfl, _, rfl, lenL hT ⟨_, rfl, ?_⟩⟩
  rw [List.length_map, at_.1]
  refine ⟨.of_le (by decide) (by omega) (by decide) (by omega), fun q nq => ?_⟩
  have erg : rgV 0 (cs.length : Int) = ((List.range cs.length).map Int.ofNat).map V.int := by
    unfold rgV
    rw [Int.sub_zero, Int.toNat_natCast, List.map_map]
    exact List.map_congr_left fun i _ => by show V.int (0 + (i : Int)) = V.int (i : Int); rw [Int.zero_add]
  rw [erg]
  have s1 : Same H (upd H q (.lst (((List.range cs.length).map Int.ofNat).map V.int))) := samN nq
  have hq : upd H q (.lst (((List.range cs.length).map Int.ofNat).map V.int)) q = some (.lst (((List.range cs.length).map Int.ofNat).map V.int)) := updS
  generalize upd H q (.lst (((List.range cs.length).map Int.ofNat).map V.int)) = H1 at s1 hq
  refine ⟨by show (1 : Nat) ≤ sizeLine; decide, fun o no => ?_⟩
  have s2 : Same H1 (upd H1 o (.lst [.int 0])) := samN no
  have ho : upd H1 o (.lst [.int 0]) o = some (.lst (([0] : List Int).map V.int)) := updS
  have hq2 := s2 _ _ hq
  generalize upd H1 o (.lst [.int 0]) = H2 at s2 ho hq2
  refine ⟨q, o, _, _, rfl, rfl, hq2, ho, ?_, fun w nw => ?_⟩
  · rw [List.length_map, List.length_map, List.length_range]
    exact Nat.le_trans (show _ ≤ 1000 by show cs.length + 1 ≤ 1000; omega) (by decide)
  rw [← List.map_append]
  have s3 : Same H2 (upd H2 w (.lst (((List.range cs.length).map Int.ofNat ++ [0]).map V.int))) := samN nw
  have hw : upd H2 w (.lst (((List.range cs.length).map Int.ofNat ++ [0]).map V.int)) w = some (.lst (((List.range cs.length).map Int.ofNat ++ [0]).map V.int)) := updS
  have s13 := s1.trans (s2.trans s3)
  have d2 := dk.same (s1.trans s2)
  have nwD := d2.neD nw
  generalize upd H2 w (.lst (((List.range cs.length).map Int.ofNat ++ [0]).map V.int)) = H3 at s3 hw s13
  have d3 := dk.same s13
  dsimp only [tNil]
  refine ⟨c, D, w, dn, _, t, rfl, d3, hw, nwD, by simp, by rw [List.length_append, List.length_map, List.length_range]; show cs.length + 1 ≤ 1000; omega, by omega, fun r bs es H4 hr hlen hes few3 hlab inc kp4 d4 => ?_⟩
  have kp04 : Kp D H H4 := (Kp.of_same s13).trans kp4
  have tm4 := kp04.tm dk
  refine ⟨by show (2 : Nat) ≤ sizeLine; decide, fun X nX => ?_⟩
  have s5 : Same H4 (upd H4 X (.tup [.str "tree", .ref r])) := samN nX
  have hX : upd H4 X (.tup [.str "tree", .ref r]) X = some (.tup [.str "tree", .ref r]) := updS
  generalize upd H4 X (.tup [.str "tree", .ref r]) = H5 at s5 hX
  have tm5 : TM H H5 := tm4.trans (.of s5)
  have hc : CtAt H5 X (.tree es) := ⟨r, bs, hX, s5 _ _ hr, hlen, fun i b e h1 h2 => s5 _ _ (hes i b e h1 h2)⟩
  refine law_none (es0 := es) bc ⟨d4.same s5, s5 _ _ (kp04 _ _ hT nTD), at_.mono tm5, fam, tm5 _ _ hC, ch.mono tm5, ok, fw, hc, nTD, nTc⟩ ⟨by omega, fun e he => (hlab e he).1, inc⟩ (fun ne => ?_) lf few x0 (by omega) k
  have pos : 0 < cs.length := List.length_pos_iff.mpr ne
  refine inB_tree (fun e he => ?_) (by
    have : cs.countP isTree = 0 := List.countP_eq_zero.mpr fun d hd => by
      rw [word_tree (.inl (lf d hd))]
      decide
    omega)
  have hm := (hlab e he).2
  have nat : ∃ j : Nat, e.2 = (j : Int) ∧ j < cs.length := by
    rcases List.mem_append.mp hm with h | h
    · obtain ⟨j, hj, ej⟩ := List.mem_map.mp h
      exact ⟨j, ej.symm, List.mem_range.mp hj⟩
    · exact ⟨0, List.mem_singleton.mp h, pos⟩
  obtain ⟨j, ej, hj⟩ := nat
  rw [ej]
  exact hasK_at (List.getElem?_eq_getElem hj) (by rw [lf _ (List.getElem_mem hj)]; exact con2)
theorem pure_law (bc : BkC K) (h : sp_law K vs H Q E) : t_law K { nx := fun _ H' => Q .non H', rt := Q } (start N_law vs) H := by
  obtain ⟨a, dn, rfl, hS, hl, k⟩ := h
  refine ⟨_, rfl, a, dn, rfl, hS, hl, fun c D H1 sm nc nD dk => ?_⟩
  refine ⟨_, rfl, c, D, dn, 0, 1001, rfl, dk, by decide, by decide, by decide, fun x H2 x0 x1 d2 fr2 => ?_⟩
  refine ⟨_, rfl, c, D, dn, _, 6, rfl, d2, by decide, by decide, by decide, fun T as cs H3 nT hT at_ fam lf few kp3 d3 => ?_⟩
  have few : cs.length ≤ 6 := by omega
  have nTD := d2.neD nT
  have nTc := d2.neC nT
  refine ⟨_, rfl, _, rfl, c, D, T, dn, _, _, rfl, d3, nTD, hT, by rw [List.length_map, at_.1]; omega, by decide, fun P A B ls bs H4 hP hA hB okl okb ll lb kp4 d4 => ?_⟩
  rw [List.length_map, at_.1] at okl okb ll lb
  have tm4 := kp4.tm d3
  refine ⟨_, rfl, _, rfl, _, rfl, ixT hP rfl ⟨_, rfl, ixT hP rfl ⟨c, D, T, A, B, dn, _, as, cs, ls, bs, rfl, d4, nTD, kp4 _ _ hT nTD, at_.mono tm4, fun d hd => ⟨fam.form d hd, lf d hd⟩, hA, hB, okl, okb, by omega, by omega, by decide, fun C rs chs H5 hC ch ok fw kp5 d5 => ?_⟩⟩⟩
  have tm5 := kp5.tm d4
  exact law_tree bc d5 (kp5 _ _ (kp4 _ _ hT nTD) nTD) ((at_.mono tm4).mono tm5) fam hC ch ok fw nTD nTc lf (by omega) x0 (by decide) k
end
end Fw

set_option Elab.async false
set_option linter.all false
set_option maxRecDepth 100000
set_option maxHeartbeats 4000000
namespace K44
open PySem L2 RZ RT Fw
def top (i : Nat) : Stmt := PySem.Challenge.pw_fewasks_k44_prices.main.body.getD i (.Pass ⟨0, 0, 0, 0⟩)
abbrev FnP (K : PySem.W.Frag) (x : Str) (st : Stmt) (f : Addr) (fd : FuncData) : Prop := FunD K x x (defArgs st) (defBody st) (defScope st) [] [] f fd
def cBody : Stmt → List Stmt
  | .ClassDef _ _ _ body .. => body
  | _ => []
abbrev s_l_deck : Stmt := top 51
abbrev N_l_deck : List Str := ["_law_script"]
theorem sc_l_deck : FnScope N_l_deck ["_law_script"] (defScope s_l_deck) := ⟨rfl, rfl, rfl, by decide +kernel, rfl, by decide +kernel, by decide +kernel⟩
abbrev s_l_mixed : Stmt := top 52
theorem sc_l_mixed : FnScope N_l_mixed ["_law_cell", "_law_turn"] (defScope s_l_mixed) := ⟨rfl, rfl, rfl, by decide +kernel, rfl, by decide +kernel, by decide +kernel⟩
abbrev s_l_draw : Stmt := top 53
theorem sc_l_draw : FnScope N_l_draw ["_law_deck_here", "_law_many"] (defScope s_l_draw) := ⟨rfl, rfl, rfl, by decide +kernel, rfl, by decide +kernel, by decide +kernel⟩
abbrev s_l_text : Stmt := top 54
abbrev N_l_text : List Str := ["_law_deck_here", "_law_size", "_law_signs", "_law_k"]
theorem sc_l_text : FnScope N_l_text ["_law_deck_here", "_law_size"] (defScope s_l_text) := ⟨rfl, rfl, rfl, by decide +kernel, rfl, by decide +kernel, by decide +kernel⟩
abbrev s_l_rows : Stmt := top 57
theorem sc_l_rows : FnScope N_l_rows ["_law_deck_here", "_law_elder"] (defScope s_l_rows) := ⟨rfl, rfl, rfl, by decide +kernel, rfl, by decide +kernel, by decide +kernel⟩
abbrev s_l_give : Stmt := top 56
theorem sc_l_give : FnScope N_l_give ["_law_things", "_law_content"] (defScope s_l_give) := ⟨rfl, rfl, rfl, by decide +kernel, rfl, by decide +kernel, by decide +kernel⟩
abbrev s_l_leaves : Stmt := top 63
theorem sc_l_leaves : FnScope N_l_leaves ["_law_deck_here", "_law_most"] (defScope s_l_leaves) := ⟨rfl, rfl, rfl, by decide +kernel, rfl, by decide +kernel, by decide +kernel⟩
abbrev s_l_parted : Stmt := top 65
theorem sc_l_parted : FnScope N_l_parted ["_law_deck_here", "_law_things"] (defScope s_l_parted) := ⟨rfl, rfl, rfl, by decide +kernel, rfl, by decide +kernel, by decide +kernel⟩
abbrev s_l_own_script : Stmt := top 66
theorem sc_l_own_script : FnScope N_l_own_script ["_law_deck_here", "_law_base", "_law_rows_here"] (defScope s_l_own_script) := ⟨rfl, rfl, rfl, by decide +kernel, rfl, by decide +kernel, by decide +kernel⟩
abbrev s_l_own_choice : Stmt := top 67
theorem sc_l_own_choice : FnScope N_l_own_choice ["_law_deck_here", "_law_things", "_law_leaves_here", "_law_bases"] (defScope s_l_own_choice) := ⟨rfl, rfl, rfl, by decide +kernel, rfl, by decide +kernel, by decide +kernel⟩
abbrev s_l_label : Stmt := top 55
theorem sc_l_label : FnScope N_l_label ["_law_deck_here"] (defScope s_l_label) := ⟨rfl, rfl, rfl, by decide +kernel, rfl, by decide +kernel, by decide +kernel⟩
abbrev s_l_entries : Stmt := top 58
theorem sc_l_entries : FnScope N_l_entries ["_law_deck_here", "_law_lows"] (defScope s_l_entries) := ⟨rfl, rfl, rfl, by decide +kernel, rfl, by decide +kernel, by decide +kernel⟩
abbrev s_Book_init : Stmt := (cBody (top 47)).getD 0 (.Pass ⟨0, 0, 0, 0⟩)
theorem sc_Book_init : FnScope N_Book_init ["self"] (defScope s_Book_init) := ⟨rfl, rfl, rfl, by decide +kernel, rfl, by decide +kernel, by decide +kernel⟩
abbrev s_is_sign : Stmt := top 17
theorem sc_is_sign : FnScope N_is_sign ["sign"] (defScope s_is_sign) := ⟨rfl, rfl, rfl, by decide +kernel, rfl, by decide +kernel, by decide +kernel⟩
abbrev s_is_text : Stmt := top 16
theorem sc_is_text : FnScope N_is_text ["thing"] (defScope s_is_text) := ⟨rfl, rfl, rfl, by decide +kernel, rfl, by decide +kernel, by decide +kernel⟩
abbrev s_is_row : Stmt := top 23
theorem sc_is_row : FnScope N_is_row ["thing"] (defScope s_is_row) := ⟨rfl, rfl, rfl, by decide +kernel, rfl, by decide +kernel, by decide +kernel⟩
abbrev s_is_rows : Stmt := top 24
theorem sc_is_rows : FnScope N_is_rows ["thing"] (defScope s_is_rows) := ⟨rfl, rfl, rfl, by decide +kernel, rfl, by decide +kernel, by decide +kernel⟩
abbrev s_is_pair : Stmt := top 19
theorem sc_is_pair : FnScope N_is_pair ["thing"] (defScope s_is_pair) := ⟨rfl, rfl, rfl, by decide +kernel, rfl, by decide +kernel, by decide +kernel⟩
abbrev s_is_label : Stmt := top 18
theorem sc_is_label : FnScope N_is_label ["thing"] (defScope s_is_label) := ⟨rfl, rfl, rfl, by decide +kernel, rfl, by decide +kernel, by decide +kernel⟩
abbrev s_is_int : Stmt := top 15
theorem sc_is_int : FnScope N_is_int ["thing"] (defScope s_is_int) := ⟨rfl, rfl, rfl, by decide +kernel, rfl, by decide +kernel, by decide +kernel⟩
abbrev s_is_entry : Stmt := top 25
theorem sc_is_entry : FnScope N_is_entry ["thing"] (defScope s_is_entry) := ⟨rfl, rfl, rfl, by decide +kernel, rfl, by decide +kernel, by decide +kernel⟩
abbrev s_rises : Stmt := top 20
theorem sc_rises : FnScope N_rises ["things"] (defScope s_rises) := ⟨rfl, rfl, rfl, by decide +kernel, rfl, by decide +kernel, by decide +kernel⟩
abbrev s_is_entries : Stmt := top 26
theorem sc_is_entries : FnScope N_is_entries ["thing"] (defScope s_is_entries) := ⟨rfl, rfl, rfl, by decide +kernel, rfl, by decide +kernel, by decide +kernel⟩
abbrev s_is_ints : Stmt := top 21
theorem sc_is_ints : FnScope N_is_ints ["thing"] (defScope s_is_ints) := ⟨rfl, rfl, rfl, by decide +kernel, rfl, by decide +kernel, by decide +kernel⟩
abbrev s_is_rising : Stmt := top 22
theorem sc_is_rising : FnScope N_is_rising ["thing"] (defScope s_is_rising) := ⟨rfl, rfl, rfl, by decide +kernel, rfl, by decide +kernel, by decide +kernel⟩
abbrev s_is_stamp : Stmt := top 27
theorem sc_is_stamp : FnScope N_is_stamp ["thing"] (defScope s_is_stamp) := ⟨rfl, rfl, rfl, by decide +kernel, rfl, by decide +kernel, by decide +kernel⟩
abbrev s_is_version_form : Stmt := top 28
theorem sc_is_version_form : FnScope N_is_version_form ["thing"] (defScope s_is_version_form) := ⟨rfl, rfl, rfl, by decide +kernel, rfl, by decide +kernel, by decide +kernel⟩
abbrev s_is_content_form : Stmt := top 29
theorem sc_is_content_form : FnScope N_is_content_form ["thing"] (defScope s_is_content_form) := ⟨rfl, rfl, rfl, by decide +kernel, rfl, by decide +kernel, by decide +kernel⟩
abbrev s_Book_is_name : Stmt := (cBody (top 47)).getD 12 (.Pass ⟨0, 0, 0, 0⟩)
theorem sc_Book_is_name : FnScope N_Book_is_name ["self", "thing"] (defScope s_Book_is_name) := ⟨rfl, rfl, rfl, by decide +kernel, rfl, by decide +kernel, by decide +kernel⟩
abbrev s_Book_has_kinds : Stmt := (cBody (top 47)).getD 15 (.Pass ⟨0, 0, 0, 0⟩)
theorem sc_Book_has_kinds : FnScope N_Book_has_kinds ["self", "names", "kinds"] (defScope s_Book_has_kinds) := ⟨rfl, rfl, rfl, by decide +kernel, rfl, by decide +kernel, by decide +kernel⟩
abbrev s_Book_depth : Stmt := (cBody (top 47)).getD 16 (.Pass ⟨0, 0, 0, 0⟩)
theorem sc_Book_depth : FnScope N_Book_depth ["self", "content"] (defScope s_Book_depth) := ⟨rfl, rfl, rfl, by decide +kernel, rfl, by decide +kernel, by decide +kernel⟩
abbrev s_Book_is_content : Stmt := (cBody (top 47)).getD 14 (.Pass ⟨0, 0, 0, 0⟩)
theorem sc_Book_is_content : FnScope N_Book_is_content ["self", "thing"] (defScope s_Book_is_content) := ⟨rfl, rfl, rfl, by decide +kernel, rfl, by decide +kernel, by decide +kernel⟩
abbrev s_Book_give_next : Stmt := (cBody (top 47)).getD 17 (.Pass ⟨0, 0, 0, 0⟩)
theorem sc_Book_give_next : FnScope N_Book_give_next ["self", "content"] (defScope s_Book_give_next) := ⟨rfl, rfl, rfl, by decide +kernel, rfl, by decide +kernel, by decide +kernel⟩
abbrev s_Book_named : Stmt := (cBody (top 47)).getD 2 (.Pass ⟨0, 0, 0, 0⟩)
theorem sc_Book_named : FnScope N_Book_named ["self", "content"] (defScope s_Book_named) := ⟨rfl, rfl, rfl, by decide +kernel, rfl, by decide +kernel, by decide +kernel⟩
abbrev s_l_book : Stmt := top 59
theorem sc_l_book : FnScope N_l_book ["_law_things"] (defScope s_l_book) := ⟨rfl, rfl, rfl, by decide +kernel, rfl, by decide +kernel, by decide +kernel⟩
abbrev s_l_int : Stmt := top 60
theorem sc_l_int : FnScope N_l_int ["_law_thing"] (defScope s_l_int) := ⟨rfl, rfl, rfl, by decide +kernel, rfl, by decide +kernel, by decide +kernel⟩
abbrev s_l_same : Stmt := top 61
theorem sc_l_same : FnScope N_l_same ["_law_found", "_law_due"] (defScope s_l_same) := ⟨rfl, rfl, rfl, by decide +kernel, rfl, by decide +kernel, by decide +kernel⟩
abbrev s_Book_thing : Stmt := (cBody (top 47)).getD 4 (.Pass ⟨0, 0, 0, 0⟩)
theorem sc_Book_thing : FnScope N_Book_thing ["self", "name"] (defScope s_Book_thing) := ⟨rfl, rfl, rfl, by decide +kernel, rfl, by decide +kernel, by decide +kernel⟩
abbrev s_Book_leaf_rows : Stmt := (cBody (top 47)).getD 11 (.Pass ⟨0, 0, 0, 0⟩)
theorem sc_Book_leaf_rows : FnScope N_Book_leaf_rows ["self", "leaf"] (defScope s_Book_leaf_rows) := ⟨rfl, rfl, rfl, by decide +kernel, rfl, by decide +kernel, by decide +kernel⟩
abbrev s_plain_price : Stmt := top 43
theorem sc_plain_price : FnScope N_plain_price ["book", "leaf"] (defScope s_plain_price) := ⟨rfl, rfl, rfl, by decide +kernel, rfl, by decide +kernel, by decide +kernel⟩
abbrev s_are_put : Stmt := top 35
theorem sc_are_put : FnScope N_are_put ["thing"] (defScope s_are_put) := ⟨rfl, rfl, rfl, by decide +kernel, rfl, by decide +kernel, by decide +kernel⟩
abbrev s_is_piece : Stmt := top 34
theorem sc_is_piece : FnScope N_is_piece ["thing"] (defScope s_is_piece) := ⟨rfl, rfl, rfl, by decide +kernel, rfl, by decide +kernel, by decide +kernel⟩
abbrev s_rows_in : Stmt := top 36
theorem sc_rows_in : FnScope N_rows_in ["piece"] (defScope s_rows_in) := ⟨rfl, rfl, rfl, by decide +kernel, rfl, by decide +kernel, by decide +kernel⟩
abbrev s_is_script : Stmt := top 33
theorem sc_is_script : FnScope N_is_script ["thing"] (defScope s_is_script) := ⟨rfl, rfl, rfl, by decide +kernel, rfl, by decide +kernel, by decide +kernel⟩
abbrev s_price : Stmt := top 37
theorem sc_price : FnScope N_price ["script", "take", "put"] (defScope s_price) := ⟨rfl, rfl, rfl, by decide +kernel, rfl, by decide +kernel, by decide +kernel⟩
abbrev s_sending_price : Stmt := top 42
theorem sc_sending_price : FnScope N_sending_price ["book", "triple", "over"] (defScope s_sending_price) := ⟨rfl, rfl, rfl, by decide +kernel, rfl, by decide +kernel, by decide +kernel⟩
abbrev s_price_of : Stmt := top 41
theorem sc_price_of : FnScope N_price_of ["book", "choice", "over"] (defScope s_price_of) := ⟨rfl, rfl, rfl, by decide +kernel, rfl, by decide +kernel, by decide +kernel⟩
abbrev s_l_script_price : Stmt := top 62
theorem sc_l_script_price : FnScope N_l_script_price ["_law_script"] (defScope s_l_script_price) := ⟨rfl, rfl, rfl, by decide +kernel, rfl, by decide +kernel, by decide +kernel⟩
abbrev s_l_choice_price : Stmt := top 64
theorem sc_l_choice_price : FnScope N_l_choice_price ["_law_things", "_law_choice", "_law_extra"] (defScope s_l_choice_price) := ⟨rfl, rfl, rfl, by decide +kernel, rfl, by decide +kernel, by decide +kernel⟩
abbrev s_row_price : Stmt := top 49
theorem sc_row_price : FnScope N_row_price ["book", "row"] (defScope s_row_price) := ⟨rfl, rfl, rfl, by decide +kernel, rfl, by decide +kernel, by decide +kernel⟩
abbrev s_law : Stmt := top 68
theorem sc_law : FnScope N_law ["_law_script"] (defScope s_law) := ⟨rfl, rfl, rfl, by decide +kernel, rfl, by decide +kernel, by decide +kernel⟩
structure Tx (K : PySem.W.Frag) (mg : Str → Option Value) : Type where
  fd_l_deck : FuncData
  F_l_deck : FnP K "_law_deck" s_l_deck (He.fAd K ("_law_deck", none)) fd_l_deck
  g_l_deck : mg "_law_deck" = some (.ref (He.fAd K ("_law_deck", none)))
  fd_l_mixed : FuncData
  F_l_mixed : FnP K "_law_mixed" s_l_mixed (He.fAd K ("_law_mixed", none)) fd_l_mixed
  g_l_mixed : mg "_law_mixed" = some (.ref (He.fAd K ("_law_mixed", none)))
  fd_l_draw : FuncData
  F_l_draw : FnP K "_law_draw" s_l_draw (He.fAd K ("_law_draw", none)) fd_l_draw
  g_l_draw : mg "_law_draw" = some (.ref (He.fAd K ("_law_draw", none)))
  fd_l_text : FuncData
  F_l_text : FnP K "_law_text" s_l_text (He.fAd K ("_law_text", none)) fd_l_text
  g_l_text : mg "_law_text" = some (.ref (He.fAd K ("_law_text", none)))
  fd_l_rows : FuncData
  F_l_rows : FnP K "_law_rows" s_l_rows (He.fAd K ("_law_rows", none)) fd_l_rows
  g_l_rows : mg "_law_rows" = some (.ref (He.fAd K ("_law_rows", none)))
  fd_l_give : FuncData
  F_l_give : FnP K "_law_give" s_l_give (He.fAd K ("_law_give", none)) fd_l_give
  g_l_give : mg "_law_give" = some (.ref (He.fAd K ("_law_give", none)))
  fd_l_leaves : FuncData
  F_l_leaves : FnP K "_law_leaves" s_l_leaves (He.fAd K ("_law_leaves", none)) fd_l_leaves
  g_l_leaves : mg "_law_leaves" = some (.ref (He.fAd K ("_law_leaves", none)))
  fd_l_parted : FuncData
  F_l_parted : FnP K "_law_parted" s_l_parted (He.fAd K ("_law_parted", none)) fd_l_parted
  g_l_parted : mg "_law_parted" = some (.ref (He.fAd K ("_law_parted", none)))
  fd_l_own_script : FuncData
  F_l_own_script : FnP K "_law_own_script" s_l_own_script (He.fAd K ("_law_own_script", none)) fd_l_own_script
  g_l_own_script : mg "_law_own_script" = some (.ref (He.fAd K ("_law_own_script", none)))
  fd_l_own_choice : FuncData
  F_l_own_choice : FnP K "_law_own_choice" s_l_own_choice (He.fAd K ("_law_own_choice", none)) fd_l_own_choice
  g_l_own_choice : mg "_law_own_choice" = some (.ref (He.fAd K ("_law_own_choice", none)))
  fd_l_label : FuncData
  F_l_label : FnP K "_law_label" s_l_label (He.fAd K ("_law_label", none)) fd_l_label
  g_l_label : mg "_law_label" = some (.ref (He.fAd K ("_law_label", none)))
  fd_l_entries : FuncData
  F_l_entries : FnP K "_law_entries" s_l_entries (He.fAd K ("_law_entries", none)) fd_l_entries
  g_l_entries : mg "_law_entries" = some (.ref (He.fAd K ("_law_entries", none)))
  fd_Book_init : FuncData
  F_Book_init : FunD K "__init__" "Book.__init__" (defArgs s_Book_init) (defBody s_Book_init) (defScope s_Book_init) [] [] (He.fAd K ("Book", some "__init__")) fd_Book_init
  fd_is_sign : FuncData
  F_is_sign : FnP K "is_sign" s_is_sign (He.fAd K ("is_sign", none)) fd_is_sign
  g_is_sign : mg "is_sign" = some (.ref (He.fAd K ("is_sign", none)))
  fd_is_text : FuncData
  F_is_text : FnP K "is_text" s_is_text (He.fAd K ("is_text", none)) fd_is_text
  g_is_text : mg "is_text" = some (.ref (He.fAd K ("is_text", none)))
  fd_is_row : FuncData
  F_is_row : FnP K "is_row" s_is_row (He.fAd K ("is_row", none)) fd_is_row
  g_is_row : mg "is_row" = some (.ref (He.fAd K ("is_row", none)))
  fd_is_rows : FuncData
  F_is_rows : FnP K "is_rows" s_is_rows (He.fAd K ("is_rows", none)) fd_is_rows
  g_is_rows : mg "is_rows" = some (.ref (He.fAd K ("is_rows", none)))
  fd_is_pair : FuncData
  F_is_pair : FnP K "is_pair" s_is_pair (He.fAd K ("is_pair", none)) fd_is_pair
  g_is_pair : mg "is_pair" = some (.ref (He.fAd K ("is_pair", none)))
  fd_is_label : FuncData
  F_is_label : FnP K "is_label" s_is_label (He.fAd K ("is_label", none)) fd_is_label
  g_is_label : mg "is_label" = some (.ref (He.fAd K ("is_label", none)))
  fd_is_int : FuncData
  F_is_int : FnP K "is_int" s_is_int (He.fAd K ("is_int", none)) fd_is_int
  g_is_int : mg "is_int" = some (.ref (He.fAd K ("is_int", none)))
  fd_is_entry : FuncData
  F_is_entry : FnP K "is_entry" s_is_entry (He.fAd K ("is_entry", none)) fd_is_entry
  g_is_entry : mg "is_entry" = some (.ref (He.fAd K ("is_entry", none)))
  fd_rises : FuncData
  F_rises : FnP K "rises" s_rises (He.fAd K ("rises", none)) fd_rises
  g_rises : mg "rises" = some (.ref (He.fAd K ("rises", none)))
  fd_is_entries : FuncData
  F_is_entries : FnP K "is_entries" s_is_entries (He.fAd K ("is_entries", none)) fd_is_entries
  g_is_entries : mg "is_entries" = some (.ref (He.fAd K ("is_entries", none)))
  fd_is_ints : FuncData
  F_is_ints : FnP K "is_ints" s_is_ints (He.fAd K ("is_ints", none)) fd_is_ints
  g_is_ints : mg "is_ints" = some (.ref (He.fAd K ("is_ints", none)))
  fd_is_rising : FuncData
  F_is_rising : FnP K "is_rising" s_is_rising (He.fAd K ("is_rising", none)) fd_is_rising
  g_is_rising : mg "is_rising" = some (.ref (He.fAd K ("is_rising", none)))
  fd_is_stamp : FuncData
  F_is_stamp : FnP K "is_stamp" s_is_stamp (He.fAd K ("is_stamp", none)) fd_is_stamp
  g_is_stamp : mg "is_stamp" = some (.ref (He.fAd K ("is_stamp", none)))
  fd_is_version_form : FuncData
  F_is_version_form : FnP K "is_version_form" s_is_version_form (He.fAd K ("is_version_form", none)) fd_is_version_form
  g_is_version_form : mg "is_version_form" = some (.ref (He.fAd K ("is_version_form", none)))
  fd_is_content_form : FuncData
  F_is_content_form : FnP K "is_content_form" s_is_content_form (He.fAd K ("is_content_form", none)) fd_is_content_form
  g_is_content_form : mg "is_content_form" = some (.ref (He.fAd K ("is_content_form", none)))
  fd_Book_is_name : FuncData
  F_Book_is_name : FunD K "is_name" "Book.is_name" (defArgs s_Book_is_name) (defBody s_Book_is_name) (defScope s_Book_is_name) [] [] (He.fAd K ("Book", some "is_name")) fd_Book_is_name
  fd_Book_has_kinds : FuncData
  F_Book_has_kinds : FunD K "has_kinds" "Book.has_kinds" (defArgs s_Book_has_kinds) (defBody s_Book_has_kinds) (defScope s_Book_has_kinds) [] [] (He.fAd K ("Book", some "has_kinds")) fd_Book_has_kinds
  fd_Book_depth : FuncData
  F_Book_depth : FunD K "depth" "Book.depth" (defArgs s_Book_depth) (defBody s_Book_depth) (defScope s_Book_depth) [] [] (He.fAd K ("Book", some "depth")) fd_Book_depth
  fd_Book_is_content : FuncData
  F_Book_is_content : FunD K "is_content" "Book.is_content" (defArgs s_Book_is_content) (defBody s_Book_is_content) (defScope s_Book_is_content) [] [] (He.fAd K ("Book", some "is_content")) fd_Book_is_content
  fd_Book_give_next : FuncData
  F_Book_give_next : FunD K "give_next" "Book.give_next" (defArgs s_Book_give_next) (defBody s_Book_give_next) (defScope s_Book_give_next) [] [] (He.fAd K ("Book", some "give_next")) fd_Book_give_next
  fd_Book_named : FuncData
  F_Book_named : FunD K "named" "Book.named" (defArgs s_Book_named) (defBody s_Book_named) (defScope s_Book_named) [] [] (He.fAd K ("Book", some "named")) fd_Book_named
  fd_l_book : FuncData
  F_l_book : FnP K "_law_book" s_l_book (He.fAd K ("_law_book", none)) fd_l_book
  g_l_book : mg "_law_book" = some (.ref (He.fAd K ("_law_book", none)))
  fd_l_int : FuncData
  F_l_int : FnP K "_law_int" s_l_int (He.fAd K ("_law_int", none)) fd_l_int
  g_l_int : mg "_law_int" = some (.ref (He.fAd K ("_law_int", none)))
  fd_l_same : FuncData
  F_l_same : FnP K "_law_same" s_l_same (He.fAd K ("_law_same", none)) fd_l_same
  g_l_same : mg "_law_same" = some (.ref (He.fAd K ("_law_same", none)))
  fd_Book_thing : FuncData
  F_Book_thing : FunD K "thing" "Book.thing" (defArgs s_Book_thing) (defBody s_Book_thing) (defScope s_Book_thing) [] [] (He.fAd K ("Book", some "thing")) fd_Book_thing
  fd_Book_leaf_rows : FuncData
  F_Book_leaf_rows : FunD K "leaf_rows" "Book.leaf_rows" (defArgs s_Book_leaf_rows) (defBody s_Book_leaf_rows) (defScope s_Book_leaf_rows) [] [] (He.fAd K ("Book", some "leaf_rows")) fd_Book_leaf_rows
  fd_plain_price : FuncData
  F_plain_price : FnP K "plain_price" s_plain_price (He.fAd K ("plain_price", none)) fd_plain_price
  g_plain_price : mg "plain_price" = some (.ref (He.fAd K ("plain_price", none)))
  fd_are_put : FuncData
  F_are_put : FnP K "are_put" s_are_put (He.fAd K ("are_put", none)) fd_are_put
  g_are_put : mg "are_put" = some (.ref (He.fAd K ("are_put", none)))
  fd_is_piece : FuncData
  F_is_piece : FnP K "is_piece" s_is_piece (He.fAd K ("is_piece", none)) fd_is_piece
  g_is_piece : mg "is_piece" = some (.ref (He.fAd K ("is_piece", none)))
  fd_rows_in : FuncData
  F_rows_in : FnP K "rows_in" s_rows_in (He.fAd K ("rows_in", none)) fd_rows_in
  g_rows_in : mg "rows_in" = some (.ref (He.fAd K ("rows_in", none)))
  fd_is_script : FuncData
  F_is_script : FnP K "is_script" s_is_script (He.fAd K ("is_script", none)) fd_is_script
  g_is_script : mg "is_script" = some (.ref (He.fAd K ("is_script", none)))
  fd_price : FuncData
  F_price : FunD K "price" "price" (defArgs s_price) (defBody s_price) (defScope s_price) [] [("take", V.int 3), ("put", V.int 2)] (He.fAd K ("price", none)) fd_price
  g_price : mg "price" = some (.ref (He.fAd K ("price", none)))
  fd_sending_price : FuncData
  F_sending_price : FnP K "sending_price" s_sending_price (He.fAd K ("sending_price", none)) fd_sending_price
  g_sending_price : mg "sending_price" = some (.ref (He.fAd K ("sending_price", none)))
  fd_price_of : FuncData
  F_price_of : FunD K "price_of" "price_of" (defArgs s_price_of) (defBody s_price_of) (defScope s_price_of) [] [("over", V.int 2)] (He.fAd K ("price_of", none)) fd_price_of
  g_price_of : mg "price_of" = some (.ref (He.fAd K ("price_of", none)))
  fd_l_script_price : FuncData
  F_l_script_price : FnP K "_law_script_price" s_l_script_price (He.fAd K ("_law_script_price", none)) fd_l_script_price
  g_l_script_price : mg "_law_script_price" = some (.ref (He.fAd K ("_law_script_price", none)))
  fd_l_choice_price : FuncData
  F_l_choice_price : FnP K "_law_choice_price" s_l_choice_price (He.fAd K ("_law_choice_price", none)) fd_l_choice_price
  g_l_choice_price : mg "_law_choice_price" = some (.ref (He.fAd K ("_law_choice_price", none)))
  fd_row_price : FuncData
  F_row_price : FnP K "row_price" s_row_price (He.fAd K ("row_price", none)) fd_row_price
  g_row_price : mg "row_price" = some (.ref (He.fAd K ("row_price", none)))
  fd_law : FuncData
  F_law : FnP K "law" s_law (He.fAd K ("law", none)) fd_law
  z_all : mg "all" = none
  z_bool : mg "bool" = none
  z_int : mg "int" = none
  z_isinstance : mg "isinstance" = none
  z_len : mg "len" = none
  z_list : mg "list" = none
  z_max : mg "max" = none
  z_ord : mg "ord" = none
  z_range : mg "range" = none
  z_sorted : mg "sorted" = none
  z_str : mg "str" = none
  z_sum : mg "sum" = none
  z_tuple : mg "tuple" = none
  z_zip : mg "zip" = none
  c_BARRED_SIGN : ∃ t, mg "BARRED_SIGN" = some (.int 37 t)
  c_DEEPEST : ∃ t, mg "DEEPEST" = some (.int 8 t)
  c_LAST_STAMP : ∃ t, mg "LAST_STAMP" = some (.int 1000000000000000000 t)
  c_LONGEST_LABEL : ∃ t, mg "LONGEST_LABEL" = some (.int 8 t)
  c_MOST : ∃ t, mg "MOST" = some (.int 400 t)
  c_MOST_ENTRIES : ∃ t, mg "MOST_ENTRIES" = some (.int 20 t)
  c_MOST_PARENTS : ∃ t, mg "MOST_PARENTS" = some (.int 4 t)
  c_MOST_ROWS : ∃ t, mg "MOST_ROWS" = some (.int 40 t)
  c_MOST_SIGNS : ∃ t, mg "MOST_SIGNS" = some (.int 40 t)
  c_OVER : ∃ t, mg "OVER" = some (.int 2 t)
  c_PACK : ∃ t, mg "PACK" = some (.int 24 t)
  c_PUT : ∃ t, mg "PUT" = some (.int 2 t)
  c_TAKE : ∃ t, mg "TAKE" = some (.int 3 t)
  gc_Book : mg "Book" = some (.ref (He.ga K "Book"))
  cl_Book : Cls K (He.ga K "Book")
  na_Book_contents : NoAttr K (He.ga K "Book") "contents"
  na_Book_depths : NoAttr K (He.ga K "Book") "depths"
  na_Book_given : NoAttr K (He.ga K "Book") "given"
  me_Book_is_name : Meth K (He.ga K "Book") "is_name" (He.fAd K ("Book", some "is_name"))
  me_Book_has_kinds : Meth K (He.ga K "Book") "has_kinds" (He.fAd K ("Book", some "has_kinds"))
  me_Book_depth : Meth K (He.ga K "Book") "depth" (He.fAd K ("Book", some "depth"))
  me_Book_is_content : Meth K (He.ga K "Book") "is_content" (He.fAd K ("Book", some "is_content"))
  me_Book_give_next : Meth K (He.ga K "Book") "give_next" (He.fAd K ("Book", some "give_next"))
  me_Book_named : Meth K (He.ga K "Book") "named" (He.fAd K ("Book", some "named"))
  me_Book_thing : Meth K (He.ga K "Book") "thing" (He.fAd K ("Book", some "thing"))
  me_Book_leaf_rows : Meth K (He.ga K "Book") "leaf_rows" (He.fAd K ("Book", some "leaf_rows"))
  mk_Book : Mk K (He.ga K "Book") (He.fAd K ("Book", some "__init__"))
theorem Tx.kk {K : PySem.W.Frag} {mg : Str → Option Value} (T : Tx K mg) : BkC K := ⟨T.cl_Book, T.na_Book_contents, T.na_Book_depths, T.na_Book_given⟩
section
variable {P : Program} [HasW] {K : PySem.W.Frag} {mg : Str → Option Value} {base : Heap}
theorem b_l_deck (T : Tx K mg) : Binds K T.fd_l_deck ["_law_script"] [] := T.F_l_deck.bindsN fun _ _ _ _ _ _ us hl => match us, hl with | [_], _ => rfl
theorem ok_l_deck (T : Tx K mg) : FnOk P HasW.w K mg base CX0 1 (He.fAd K ("_law_deck", none)) T.fd_l_deck ["_law_script"] (sp_l_deck K) := by
  refine T.F_l_deck.ok sc_l_deck (fun vs H Q E h => len_l_deck h) (fun cdv A outer s H vs Q E hr h => ⟨t_l_deck K, PSs.nox ?_, pure_l_deck h⟩)
  exact (pss_one (ps_ret (pe_lst (pa_cons (pe_callTy call_list_of (by rfl) T.z_list (by decide +kernel) (pa_cons (pv 0) pa_nil)) (pa_cons pe_int (pa_cons pe_int (pa_cons pe_int pa_nil)))))))
theorem b_l_mixed (T : Tx K mg) : Binds K T.fd_l_mixed ["_law_cell", "_law_turn"] [] := T.F_l_mixed.bindsN fun _ _ _ _ _ _ us hl => match us, hl with | [_, _], _ => rfl
theorem ok_l_mixed (T : Tx K mg) : FnOk P HasW.w K mg base CX0 1 (He.fAd K ("_law_mixed", none)) T.fd_l_mixed ["_law_cell", "_law_turn"] (sp_l_mixed K) := by
  refine T.F_l_mixed.ok sc_l_mixed (fun vs H Q E h => len_l_mixed h) (fun cdv A outer s H vs Q E hr h => ⟨t_l_mixed K, PSs.nox ?_, pure_l_mixed h⟩)
  exact (pss_one (ps_ret (pe_op op_mod (pe_op op_pow (pe_op op_add (pe_op op_add (pe_op op_mod (pv 0) pe_int) (pe_op op_mul (pv 1) pe_int)) pe_int) pe_int) pe_int)))
theorem b_l_draw (T : Tx K mg) : Binds K T.fd_l_draw ["_law_deck_here", "_law_many"] [] := T.F_l_draw.bindsN fun _ _ _ _ _ _ us hl => match us, hl with | [_, _], _ => rfl
theorem ok_l_draw (T : Tx K mg) : FnOk P HasW.w K mg base CX0 2 (He.fAd K ("_law_draw", none)) T.fd_l_draw ["_law_deck_here", "_law_many"] (sp_l_draw K) := by
  refine T.F_l_draw.ok sc_l_draw (fun vs H Q E h => len_l_draw h) (fun cdv A outer s H vs Q E hr h => ⟨t_l_draw K, PSs.nox ?_, pure_l_draw h⟩)
  exact (pss_cons (ps_set (i := 2) sc_l_draw.nd rfl (Or.inl rfl) (pe_ix ix_seq (pv 0) pe_int (fun _ _ => rfl)))
      (pss_cons (ps_asg (pe_op op_add (pe_ix ix_seq (pv 0) pe_int (fun _ _ => rfl)) pe_int) (pg_sub (pv 0) pe_int set_list))
      (pss_cons (ps_if (PW.pt (pw_and (pt_cmpR op_eq (pe_ix ix_seq (pv 0) pe_int (fun _ _ => rfl)) pe_int (nomark _)) (pw_and1 (pt_cmpR op_lt (pe_ix ix_seq (pv 0) pe_int (fun _ _ => rfl)) (pe_callB call_len (by rfl) T.z_len PySem.boot_len (pa_cons (pv 2) pa_nil)) (nomark _))))) (pss_cons (ps_asg (pe_op op_add (pe_ix ix_seq (pv 0) pe_int (fun _ _ => rfl)) pe_int) (pg_sub (pv 0) pe_int set_list))
      (pss_cons (ps_if (pt_cmpR op_lt (pe_ix ix_seq (pv 2) (pe_op op_sub (pe_ix ix_seq (pv 0) pe_int (fun _ _ => rfl)) pe_int) (fun _ _ => rfl)) (pe_op op_pow pe_int pe_int) (nomark _)) (pss_one (ps_ret (pe_op op_mod (pe_call (ok_l_mixed T) (hr.mono (by decide)) (by rfl) T.g_l_mixed T.F_l_mixed.kp (b_l_mixed T) .nil pass0 (pa_cons (pe_ix ix_seq (pv 2) (pe_op op_sub (pe_ix ix_seq (pv 0) pe_int (fun _ _ => rfl)) pe_int) (fun _ _ => rfl)) (pa_cons (pe_ix ix_seq (pv 0) pe_int (fun _ _ => rfl)) pa_nil))) (pv 1)))) pss_nil)
      (pss_one (ps_asg (pe_ix ix_seq (pv 2) (pe_op op_sub (pe_ix ix_seq (pv 0) pe_int (fun _ _ => rfl)) pe_int) (fun _ _ => rfl)) (pg_sub (pv 0) pe_int set_list))))) pss_nil)
      (pss_cons (ps_if (pt_cmpR op_gt (pe_ix ix_seq (pv 0) pe_int (fun _ _ => rfl)) pe_int (nomark _)) (pss_cons (ps_set (i := 3) sc_l_draw.nd rfl (Or.inl rfl) (pe_op op_mod (pe_ix ix_seq (pv 0) pe_int (fun _ _ => rfl)) (pv 1)))
      (pss_cons (ps_asg (pe_op op_fdivW (pe_ix ix_seq (pv 0) pe_int (fun _ _ => rfl)) (pv 1)) (pg_sub (pv 0) pe_int set_list))
      (pss_one (ps_ret (pv 3))))) pss_nil)
      (pss_cons (ps_set (i := 4) sc_l_draw.nd rfl (Or.inl rfl) (pe_op op_mul (pe_ix ix_seq (pv 0) pe_int (fun _ _ => rfl)) pe_int))
      (pss_cons (ps_if (pt_cmpR op_gt (pe_callB call_len (by rfl) T.z_len PySem.boot_len (pa_cons (pv 2) pa_nil)) pe_int (nomark _)) (pss_one (ps_set (i := 4) sc_l_draw.nd rfl (Or.inl rfl) (pe_op op_add (pv 4) (pe_op op_mod (pe_ix ix_seq (pv 2) (pe_op op_mod (pe_op op_mul (pe_ix ix_seq (pv 0) pe_int (fun _ _ => rfl)) pe_int) (pe_callB call_len (by rfl) T.z_len PySem.boot_len (pa_cons (pv 2) pa_nil))) (fun _ _ => rfl)) pe_int)))) pss_nil)
      (pss_one (ps_ret (pe_op op_mod (pe_call (ok_l_mixed T) (hr.mono (by decide)) (by rfl) T.g_l_mixed T.F_l_mixed.kp (b_l_mixed T) .nil pass0 (pa_cons (pv 4) (pa_cons (pe_ix ix_seq (pv 0) pe_int (fun _ _ => rfl)) pa_nil))) (pv 1))))))))))
theorem b_l_text (T : Tx K mg) : Binds K T.fd_l_text ["_law_deck_here", "_law_size"] [] := T.F_l_text.bindsN fun _ _ _ _ _ _ us hl => match us, hl with | [_, _], _ => rfl
theorem ok_l_text (T : Tx K mg) : FnOk P HasW.w K mg base CX0 3 (He.fAd K ("_law_text", none)) T.fd_l_text ["_law_deck_here", "_law_size"] (sp_l_text K) := by
  refine T.F_l_text.ok sc_l_text (fun vs H Q E h => len_l_text h) (fun cdv A outer s H vs Q E hr h => ⟨t_l_text K, PSs.nox ?_, pure_l_text h⟩)
  exact (pss_cons (ps_set (i := 2) sc_l_text.nd rfl (Or.inr rfl) pe_str)
      (pss_cons (ps_if (pt_cmpR op_eq (pe_call (ok_l_draw T) (hr.mono (by decide)) (by rfl) T.g_l_draw T.F_l_draw.kp (b_l_draw T) .nil pass0 (pa_cons (pv 0) (pa_cons pe_int pa_nil))) pe_int (nomark _)) (pss_one (ps_set (i := 2) sc_l_text.nd rfl (Or.inr rfl) pe_str)) pss_nil)
      (pss_one (ps_ret (pe_join pe_str (pe_lc (own := [("_law_k", 3)]) (g := (gName 3)) (tt := tYes) (te := (tOp (rIx K) (tVar 2) (tCall (sp_l_draw K) [] E0 (tCons (tVar 0) (tCons (tCB (fLen K) (tCons (tVar 2) tNil)) tNil))))) rfl sc_l_text.nd (pi_range1 (by rfl) T.z_range (pa_cons (pe_call (ok_l_draw T) (hr.mono (by decide)) (by rfl) T.g_l_draw T.F_l_draw.kp (b_l_draw T) .nil pass0 (pa_cons (pv 0) (pa_cons (pe_op op_add (pv 1) pe_int) pa_nil))) pa_nil)) (blkOk_by (own := [("_law_k", 3)]) (N := N_l_text) (sc := defScope s_l_text) (by decide +kernel)) (fun _ _ _ _ _ => (pg_name (i := 3) sc_l_text.nd rfl (Or.inl rfl))) (fun _ _ _ _ _ => pts_nil) (fun _ _ _ _ _ => (pe_ix ix_seq (pv 2) (pe_call (ok_l_draw T) (hr.mono (by decide)) (by rfl) T.g_l_draw T.F_l_draw.kp (b_l_draw T) .nil pass0 (pa_cons (pv 0) (pa_cons (pe_callB call_len (by rfl) T.z_len PySem.boot_len (pa_cons (pv 2) pa_nil)) pa_nil))) (fun _ _ => rfl)))))))))
theorem b_l_rows (T : Tx K mg) : Binds K T.fd_l_rows ["_law_deck_here", "_law_elder"] [] := T.F_l_rows.bindsN fun _ _ _ _ _ _ us hl => match us, hl with | [_, _], _ => rfl
theorem ok_l_rows (T : Tx K mg) : FnOk P HasW.w K mg base CX0 4 (He.fAd K ("_law_rows", none)) T.fd_l_rows ["_law_deck_here", "_law_elder"] (sp_l_rows K) := by
  refine T.F_l_rows.ok sc_l_rows (fun vs H Q E h => len_l_rows h) (fun cdv A outer s H vs Q E hr h => ⟨t_l_rows K, PSs.nox ?_, pure_l_rows h⟩)
  exact (pss_cons (ps_set (i := 2) sc_l_rows.nd rfl (Or.inl rfl) (pe_callTy call_list_of (by rfl) T.z_list (by decide +kernel) (pa_cons (pv 1) pa_nil)))
      (pss_cons (ps_if (pt_cmpR op_eq (pe_call (ok_l_draw T) (hr.mono (by decide)) (by rfl) T.g_l_draw T.F_l_draw.kp (b_l_draw T) .nil pass0 (pa_cons (pv 0) (pa_cons pe_int pa_nil))) pe_int (nomark _)) (pss_one (ps_setLc (i := 2) (own := [("_law_k", 3)]) (g := (gName 3)) (tt := tYes) (te := (tCall (sp_l_text K) [] E0 (tCons (tVar 0) (tCons (tC (.int 3)) tNil)))) rfl sc_l_rows.nd rfl rfl (sw_true rfl rfl rfl (by decide +kernel)) (pi_range1 (by rfl) T.z_range (pa_cons (pe_call (ok_l_draw T) (hr.mono (by decide)) (by rfl) T.g_l_draw T.F_l_draw.kp (b_l_draw T) .nil pass0 (pa_cons (pv 0) (pa_cons pe_int pa_nil))) pa_nil)) (blkOk_by (own := [("_law_k", 3)]) (N := N_l_rows) (sc := defScope s_l_rows) (by decide +kernel)) (fun _ _ _ _ _ => (pg_name (i := 3) sc_l_rows.nd rfl (Or.inl rfl))) (fun _ _ _ _ _ => pts_nil) (fun _ _ _ _ _ => (pe_call (ok_l_text T) (hr.mono (by decide)) (by rfl) T.g_l_text T.F_l_text.kp (b_l_text T) .nil pass0 (pa_cons (pv 0) (pa_cons pe_int pa_nil)))))) pss_nil)
      (pss_cons (ps_if (pt_cmpR op_eq (pe_call (ok_l_draw T) (hr.mono (by decide)) (by rfl) T.g_l_draw T.F_l_draw.kp (b_l_draw T) .nil pass0 (pa_cons (pv 0) (pa_cons pe_int pa_nil))) pe_int (nomark _)) (pss_one (ps_expr (pe_bm PySem.F.plainAttrs_list PySem.F.slot_list_insert PySem.F.type_list_insert mt_insert (pv 2) (pa_cons (pe_call (ok_l_draw T) (hr.mono (by decide)) (by rfl) T.g_l_draw T.F_l_draw.kp (b_l_draw T) .nil pass0 (pa_cons (pv 0) (pa_cons (pe_op op_add (pe_callB call_len (by rfl) T.z_len PySem.boot_len (pa_cons (pv 2) pa_nil)) pe_int) pa_nil))) (pa_cons (pe_call (ok_l_text T) (hr.mono (by decide)) (by rfl) T.g_l_text T.F_l_text.kp (b_l_text T) .nil pass0 (pa_cons (pv 0) (pa_cons pe_int pa_nil))) pa_nil))))) pss_nil)
      (pss_cons (ps_if (pt_cmpR op_gt (pe_callB call_len (by rfl) T.z_len PySem.boot_len (pa_cons (pv 2) pa_nil)) pe_int (nomark _)) (pss_one (ps_expr (pe_bm PySem.F.plainAttrs_list PySem.F.slot_list_pop PySem.F.type_list_pop mt_popAt (pv 2) (pa_cons (pe_call (ok_l_draw T) (hr.mono (by decide)) (by rfl) T.g_l_draw T.F_l_draw.kp (b_l_draw T) .nil pass0 (pa_cons (pv 0) (pa_cons (pe_callB call_len (by rfl) T.z_len PySem.boot_len (pa_cons (pv 2) pa_nil)) pa_nil))) pa_nil)))) pss_nil)
      (pss_one (ps_ret (pe_callTy call_tuple_of (by rfl) T.z_tuple (by decide +kernel) (pa_cons (pv 2) pa_nil))))))))
theorem b_l_give (T : Tx K mg) : Binds K T.fd_l_give ["_law_things", "_law_content"] [] := T.F_l_give.bindsN fun _ _ _ _ _ _ us hl => match us, hl with | [_, _], _ => rfl
theorem ok_l_give (T : Tx K mg) : FnOk P HasW.w K mg base CX0 1 (He.fAd K ("_law_give", none)) T.fd_l_give ["_law_things", "_law_content"] (sp_l_give K) := by
  refine T.F_l_give.ok sc_l_give (fun vs H Q E h => len_l_give h) (fun cdv A outer s H vs Q E hr h => ⟨t_l_give K, PSs.nox ?_, pure_l_give h⟩)
  exact (pss_cons (ps_if (pt_cmpR (op_inD (units65b hr)) (pv 1) (pv 0) (by rfl)) (pss_one (ps_ret (pe_bm PySem.F.plainAttrs_list PySem.F.slot_list_index PySem.F.type_list_index (mt_indexD (units65b hr)) (pv 0) (pa_cons (pv 1) pa_nil)))) pss_nil)
      (pss_cons (ps_expr (pe_bm PySem.F.plainAttrs_list PySem.F.slot_list_append PySem.F.type_list_append mt_append (pv 0) (pa_cons (pv 1) pa_nil)))
      (pss_one (ps_ret (pe_op op_sub (pe_callB call_len (by rfl) T.z_len PySem.boot_len (pa_cons (pv 0) pa_nil)) pe_int)))))
theorem b_l_leaves (T : Tx K mg) : Binds K T.fd_l_leaves ["_law_deck_here", "_law_most"] [] := T.F_l_leaves.bindsN fun _ _ _ _ _ _ us hl => match us, hl with | [_, _], _ => rfl
theorem ok_l_leaves (T : Tx K mg) : FnOk P HasW.w K mg base CX0 5 (He.fAd K ("_law_leaves", none)) T.fd_l_leaves ["_law_deck_here", "_law_most"] (sp_l_leaves K) := by
  refine T.F_l_leaves.ok sc_l_leaves (fun vs H Q E h => len_l_leaves h) (fun cdv A outer s H vs Q E hr h => ⟨t_l_leaves K, PSs.nox ?_, pure_l_leaves h⟩)
  exact (pss_cons (ps_set (i := 2) sc_l_leaves.nd rfl (Or.inl rfl) (pe_lst pa_nil))
      (pss_cons (ps_set (i := 3) sc_l_leaves.nd rfl (Or.inl rfl) (pe_tup pa_nil))
      (pss_cons (ps_for PassesOwn.never rfl (pi_range1 (by rfl) T.z_range (pa_cons (pe_call (ok_l_draw T) (hr.mono (by decide)) (by rfl) T.g_l_draw T.F_l_draw.kp (b_l_draw T) .nil pass0 (pa_cons (pv 0) (pa_cons (pe_op op_add (pv 1) pe_int) pa_nil))) pa_nil)) (pg_name (i := 4) sc_l_leaves.nd rfl (Or.inl rfl)) (pss_cons (ps_set (i := 3) sc_l_leaves.nd rfl (Or.inl rfl) (pe_call (ok_l_rows T) (hr.mono (by decide)) (by rfl) T.g_l_rows T.F_l_rows.kp (b_l_rows T) .nil pass0 (pa_cons (pv 0) (pa_cons (pv 3) pa_nil))))
      (pss_one (ps_expr (pe_call (ok_l_give T) (hr.mono (by decide)) (by rfl) T.g_l_give T.F_l_give.kp (b_l_give T) .nil pass0 (pa_cons (pv 2) (pa_cons (pe_tup (pa_cons pe_str (pa_cons (pv 3) pa_nil))) pa_nil)))))))
      (pss_one (ps_ret (pv 2))))))
theorem b_l_parted (T : Tx K mg) : Binds K T.fd_l_parted ["_law_deck_here", "_law_things"] [] := T.F_l_parted.bindsN fun _ _ _ _ _ _ us hl => match us, hl with | [_, _], _ => rfl
theorem ok_l_parted (T : Tx K mg) : FnOk P HasW.w K mg base CX0 3 (He.fAd K ("_law_parted", none)) T.fd_l_parted ["_law_deck_here", "_law_things"] (sp_l_parted K) := by
  refine T.F_l_parted.ok sc_l_parted (fun vs H Q E h => len_l_parted h) (fun cdv A outer s H vs Q E hr h => ⟨t_l_parted K, PSs.nox ?_, pure_l_parted h⟩)
  exact (pss_cons (ps_set (i := 2) sc_l_parted.nd rfl (Or.inl rfl) (pe_lst pa_nil))
      (pss_cons (ps_set (i := 3) sc_l_parted.nd rfl (Or.inl rfl) (pe_lst pa_nil))
      (pss_cons (ps_for PassesOwn.never rfl (pi_range1 (by rfl) T.z_range (pa_cons (pe_callB call_len (by rfl) T.z_len PySem.boot_len (pa_cons (pv 1) pa_nil)) pa_nil)) (pg_name (i := 4) sc_l_parted.nd rfl (Or.inl rfl)) (pss_cons (ps_set (i := 5) sc_l_parted.nd rfl (Or.inl rfl) (pe_call (ok_l_draw T) (hr.mono (by decide)) (by rfl) T.g_l_draw T.F_l_draw.kp (b_l_draw T) .nil pass0 (pa_cons (pv 0) (pa_cons pe_int pa_nil))))
      (pss_one (ps_if (pt_cmpR op_gt (pv 5) pe_int (nomark _)) (pss_one (ps_expr (pe_bm PySem.F.plainAttrs_list PySem.F.slot_list_append PySem.F.type_list_append mt_append (pv 2) (pa_cons (pv 4) pa_nil)))) (pss_one (ps_if (pt_cmpR op_eq (pv 5) pe_int (nomark _)) (pss_one (ps_expr (pe_bm PySem.F.plainAttrs_list PySem.F.slot_list_append PySem.F.type_list_append mt_append (pv 3) (pa_cons (pv 4) pa_nil)))) pss_nil))))))
      (pss_one (ps_ret (pe_tup (pa_cons (pe_callTy call_tuple_of (by rfl) T.z_tuple (by decide +kernel) (pa_cons (pv 2) pa_nil)) (pa_cons (pe_callTy call_tuple_of (by rfl) T.z_tuple (by decide +kernel) (pa_cons (pv 3) pa_nil)) pa_nil))))))))
theorem b_l_own_script (T : Tx K mg) : Binds K T.fd_l_own_script ["_law_deck_here", "_law_base", "_law_rows_here"] [] := T.F_l_own_script.bindsN fun _ _ _ _ _ _ us hl => match us, hl with | [_, _, _], _ => rfl
theorem ok_l_own_script (T : Tx K mg) : FnOk P HasW.w K mg base CX0 3 (He.fAd K ("_law_own_script", none)) T.fd_l_own_script ["_law_deck_here", "_law_base", "_law_rows_here"] (sp_l_own_script K) := by
  refine T.F_l_own_script.ok sc_l_own_script (fun vs H Q E h => len_l_own_script h) (fun cdv A outer s H vs Q E hr h => ⟨t_l_own_script K, PSs.nox ?_, pure_l_own_script h⟩)
  exact (pss_cons (ps_set (i := 3) sc_l_own_script.nd rfl (Or.inl rfl) (pe_tup pa_nil))
      (pss_cons (ps_set (i := 4) sc_l_own_script.nd rfl (Or.inl rfl) pe_int)
      (pss_cons (ps_while PassesOwn.never (pt_cmpR op_lt (pv 4) (pe_callB call_len (by rfl) T.z_len PySem.boot_len (pa_cons (pv 2) pa_nil)) (nomark _)) (pss_cons (ps_set (i := 5) sc_l_own_script.nd rfl (Or.inl rfl) (pe_op op_add pe_int (pe_call (ok_l_draw T) (hr.mono (by decide)) (by rfl) T.g_l_draw T.F_l_draw.kp (b_l_draw T) .nil pass0 (pa_cons (pv 0) (pa_cons (pe_op op_sub (pe_callB call_len (by rfl) T.z_len PySem.boot_len (pa_cons (pv 2) pa_nil)) (pv 4)) pa_nil)))))
      (pss_cons (ps_set (i := 6) sc_l_own_script.nd rfl (Or.inl rfl) (pe_un un_neg pe_int))
      (pss_cons (ps_for PassesOwn.never rfl (pi_range1 (by rfl) T.z_range (pa_cons (pe_op op_add (pe_op op_sub (pe_callB call_len (by rfl) T.z_len PySem.boot_len (pa_cons (pv 1) pa_nil)) (pv 5)) pe_int) pa_nil)) (pg_name (i := 7) sc_l_own_script.nd rfl (Or.inl rfl)) (pss_one (ps_if (pt_cmpR (op_eqD hr.units) (pe_slice sl_tupA (pv 1) (po_some (pv 7)) (po_some (pe_op op_add (pv 7) (pv 5)))) (pe_slice sl_tupA (pv 2) (po_some (pv 4)) (po_some (pe_op op_add (pv 4) (pv 5)))) (nomark _)) (pss_one (ps_set (i := 6) sc_l_own_script.nd rfl (Or.inl rfl) (pv 7))) pss_nil)))
      (pss_cons (ps_if (PW.pt (pw_and (pt_cmpR op_ge (pv 6) pe_int (nomark _)) (pw_and1 (pt_cmpR op_gt (pe_call (ok_l_draw T) (hr.mono (by decide)) (by rfl) T.g_l_draw T.F_l_draw.kp (b_l_draw T) .nil pass0 (pa_cons (pv 0) (pa_cons pe_int pa_nil))) pe_int (nomark _))))) (pss_one (ps_set (i := 3) sc_l_own_script.nd rfl (Or.inl rfl) (pe_op op_catA (pv 3) (pe_tup (pa_cons (pe_tup (pa_cons pe_str (pa_cons (pv 6) (pa_cons (pv 5) pa_nil)))) pa_nil))))) (pss_one (ps_set (i := 3) sc_l_own_script.nd rfl (Or.inl rfl) (pe_op op_catA (pv 3) (pe_tup (pa_cons (pe_tup (pa_cons pe_str (pa_cons (pe_callTy call_tuple_of (by rfl) T.z_tuple (by decide +kernel) (pa_cons (pe_slice sl_tupA (pv 2) (po_some (pv 4)) (po_some (pe_op op_add (pv 4) (pv 5)))) pa_nil)) pa_nil))) pa_nil))))))
      (pss_one (ps_set (i := 4) sc_l_own_script.nd rfl (Or.inl rfl) (pe_op op_add (pv 4) (pv 5)))))))))
      (pss_one (ps_ret (pv 3))))))
theorem b_l_own_choice (T : Tx K mg) : Binds K T.fd_l_own_choice ["_law_deck_here", "_law_things", "_law_leaves_here", "_law_bases"] [] := T.F_l_own_choice.bindsN fun _ _ _ _ _ _ us hl => match us, hl with | [_, _, _, _], _ => rfl
theorem ok_l_own_choice (T : Tx K mg) : FnOk P HasW.w K mg base CX0 4 (He.fAd K ("_law_own_choice", none)) T.fd_l_own_choice ["_law_deck_here", "_law_things", "_law_leaves_here", "_law_bases"] (sp_l_own_choice K) := by
  refine T.F_l_own_choice.ok sc_l_own_choice (fun vs H Q E h => len_l_own_choice h) (fun cdv A outer s H vs Q E hr h => ⟨t_l_own_choice K, PSs.nox ?_, pure_l_own_choice h⟩)
  exact (pss_cons (ps_set (i := 4) sc_l_own_choice.nd rfl (Or.inl rfl) (pe_lst pa_nil))
      (pss_cons (ps_for PassesOwn.never rfl (pi_range1 (by rfl) T.z_range (pa_cons (pe_callB call_len (by rfl) T.z_len PySem.boot_len (pa_cons (pv 2) pa_nil)) pa_nil)) (pg_name (i := 5) sc_l_own_choice.nd rfl (Or.inl rfl)) (pss_cons (ps_set (i := 6) sc_l_own_choice.nd rfl (Or.inl rfl) (pe_op op_catA (pv 3) (pe_slice sl_tupA (pv 2) po_none (po_some (pv 5)))))
      (pss_cons (ps_set (i := 7) sc_l_own_choice.nd rfl (Or.inl rfl) pe_non)
      (pss_cons (ps_if (PW.pt (pw_and (pt_cmpR op_gt (pe_callB call_len (by rfl) T.z_len PySem.boot_len (pa_cons (pv 6) pa_nil)) pe_int (nomark _)) (pw_and1 (pt_cmpR op_gt (pe_call (ok_l_draw T) (hr.mono (by decide)) (by rfl) T.g_l_draw T.F_l_draw.kp (b_l_draw T) .nil pass0 (pa_cons (pv 0) (pa_cons pe_int pa_nil))) pe_int (nomark _))))) (pss_one (ps_set (i := 7) sc_l_own_choice.nd rfl (Or.inl rfl) (pe_ix ix_seq (pv 6) (pe_call (ok_l_draw T) (hr.mono (by decide)) (by rfl) T.g_l_draw T.F_l_draw.kp (b_l_draw T) .nil pass0 (pa_cons (pv 0) (pa_cons (pe_callB call_len (by rfl) T.z_len PySem.boot_len (pa_cons (pv 6) pa_nil)) pa_nil))) (fun _ _ => rfl)))) pss_nil)
      (pss_cons (ps_set (i := 8) sc_l_own_choice.nd rfl (Or.inl rfl) (pe_tup pa_nil))
      (pss_cons (ps_if (pt_cmpR op_notN (pv 7) pe_non (nomark _)) (pss_one (ps_set (i := 8) sc_l_own_choice.nd rfl (Or.inl rfl) (pe_call (ok_l_own_script T) (hr.mono (by decide)) (by rfl) T.g_l_own_script T.F_l_own_script.kp (b_l_own_script T) .nil pass0 (pa_cons (pv 0) (pa_cons (pe_ix ix_seq (pe_ix ix_seq (pv 1) (pv 7) (fun _ _ => rfl)) pe_int (fun _ _ => rfl)) (pa_cons (pe_ix ix_seq (pe_ix ix_seq (pv 1) (pe_ix ix_seq (pv 2) (pv 5) (fun _ _ => rfl)) (fun _ _ => rfl)) pe_int (fun _ _ => rfl)) pa_nil)))))) pss_nil)
      (pss_one (ps_expr (pe_bm PySem.F.plainAttrs_list PySem.F.slot_list_append PySem.F.type_list_append mt_append (pv 4) (pa_cons (pe_tup (pa_cons (pe_ix ix_seq (pv 2) (pv 5) (fun _ _ => rfl)) (pa_cons (pv 7) (pa_cons (pv 8) pa_nil)))) pa_nil))))))))))
      (pss_one (ps_ret (pe_callTy call_tuple_of (by rfl) T.z_tuple (by decide +kernel) (pa_cons (pv 4) pa_nil))))))
theorem b_l_label (T : Tx K mg) : Binds K T.fd_l_label ["_law_deck_here"] [] := T.F_l_label.bindsN fun _ _ _ _ _ _ us hl => match us, hl with | [_], _ => rfl
theorem ok_l_label (T : Tx K mg) : FnOk P HasW.w K mg base CX0 3 (He.fAd K ("_law_label", none)) T.fd_l_label ["_law_deck_here"] (sp_l_label K) := by
  refine T.F_l_label.ok sc_l_label (fun vs H Q E h => len_l_label h) (fun cdv A outer s H vs Q E hr h => ⟨t_l_label K, PSs.nox ?_, pure_l_label h⟩)
  exact (pss_cons (ps_if (pt_cmpR op_gt (pe_call (ok_l_draw T) (hr.mono (by decide)) (by rfl) T.g_l_draw T.F_l_draw.kp (b_l_draw T) .nil pass0 (pa_cons (pv 0) (pa_cons pe_int pa_nil))) pe_int (nomark _)) (pss_one (ps_ret (pe_ix ix_seq pe_str (pe_call (ok_l_draw T) (hr.mono (by decide)) (by rfl) T.g_l_draw T.F_l_draw.kp (b_l_draw T) .nil pass0 (pa_cons (pv 0) (pa_cons pe_int pa_nil))) (fun _ _ => rfl)))) pss_nil)
      (pss_cons (ps_set (i := 1) sc_l_label.nd rfl (Or.inr rfl) pe_str)
      (pss_one (ps_ret (pe_join pe_str (pe_lc (own := [("_law_k", 2)]) (g := (gName 2)) (tt := tYes) (te := (tOp (rIx K) (tVar 1) (tCall (sp_l_draw K) [] E0 (tCons (tVar 0) (tCons (tC (.int 26)) tNil))))) rfl sc_l_label.nd (pi_range1 (by rfl) T.z_range (pa_cons (pe_op op_add pe_int (pe_call (ok_l_draw T) (hr.mono (by decide)) (by rfl) T.g_l_draw T.F_l_draw.kp (b_l_draw T) .nil pass0 (pa_cons (pv 0) (pa_cons pe_int pa_nil)))) pa_nil)) (blkOk_by (own := [("_law_k", 2)]) (N := N_l_label) (sc := defScope s_l_label) (by decide +kernel)) (fun _ _ _ _ _ => (pg_name (i := 2) sc_l_label.nd rfl (Or.inl rfl))) (fun _ _ _ _ _ => pts_nil) (fun _ _ _ _ _ => (pe_ix ix_seq (pv 1) (pe_call (ok_l_draw T) (hr.mono (by decide)) (by rfl) T.g_l_draw T.F_l_draw.kp (b_l_draw T) .nil pass0 (pa_cons (pv 0) (pa_cons pe_int pa_nil))) (fun _ _ => rfl)))))))))
theorem b_l_entries (T : Tx K mg) : Binds K T.fd_l_entries ["_law_deck_here", "_law_lows"] [] := T.F_l_entries.bindsN fun _ _ _ _ _ _ us hl => match us, hl with | [_, _], _ => rfl
theorem ok_l_entries (T : Tx K mg) : FnOk P HasW.w K mg base CX0 4 (He.fAd K ("_law_entries", none)) T.fd_l_entries ["_law_deck_here", "_law_lows"] (sp_l_entries K) := by
  refine T.F_l_entries.ok sc_l_entries (fun vs H Q E h => len_l_entries h) (fun cdv A outer s H vs Q E hr h => ⟨t_l_entries K, PSs.nox ?_, pure_l_entries h⟩)
  exact (pss_cons (ps_set (i := 2) sc_l_entries.nd rfl (Or.inl rfl) pe_dnewK)
      (pss_cons (ps_for PassesOwn.never rfl (pi_range1 (by rfl) T.z_range (pa_cons (pe_call (ok_l_draw T) (hr.mono (by decide)) (by rfl) T.g_l_draw T.F_l_draw.kp (b_l_draw T) .nil pass0 (pa_cons (pv 0) (pa_cons pe_int pa_nil))) pa_nil)) (pg_name (i := 3) sc_l_entries.nd rfl (Or.inl rfl)) (pss_one (ps_dput (hu_of hr) (pv 2) (pe_call (ok_l_label T) (hr.mono (by decide)) (by rfl) T.g_l_label T.F_l_label.kp (b_l_label T) .nil pass0 (pa_cons (pv 0) pa_nil)) (pe_ix ix_seq (pv 1) (pe_call (ok_l_draw T) (hr.mono (by decide)) (by rfl) T.g_l_draw T.F_l_draw.kp (b_l_draw T) .nil pass0 (pa_cons (pv 0) (pa_cons (pe_callB call_len (by rfl) T.z_len PySem.boot_len (pa_cons (pv 1) pa_nil)) pa_nil))) (fun _ _ => rfl)) rfl)))
      (pss_one (ps_ret (pe_callTy call_tuple_of (by rfl) T.z_tuple (by decide +kernel) (pa_cons (pe_callB (cr_sortedItD rfl hr.units) (by rfl) T.z_sorted (by decide +kernel) (pa_cons (pe_bm0 PySem.F.plainAttrs_dict PySem.F.slot_dict_items PySem.F.type_dict_items mt_itemsD (pv 2)) pa_nil)) pa_nil))))))
theorem b_Book_init (T : Tx K mg) : Binds K T.fd_Book_init ["self"] [] := T.F_Book_init.bindsN fun _ _ _ _ _ _ us hl => match us, hl with | [_], _ => rfl
theorem ok_Book_init (T : Tx K mg) : FnOk P HasW.w K mg base CX0 1 (He.fAd K ("Book", some "__init__")) T.fd_Book_init ["self"] (sp_Book_init K) := by
  refine T.F_Book_init.ok sc_Book_init (fun vs H Q E h => len_Book_init h) (fun cdv A outer s H vs Q E hr h => ⟨t_Book_init K, PSs.nox ?_, pure_Book_init h⟩)
  exact (pss_cons (ps_fld (pv 0) (pe_lst pa_nil) rfl)
      (pss_cons (ps_fld (pv 0) (pe_lst pa_nil) rfl)
      (pss_one (ps_fld (pv 0) (pe_nnew rfl) rfl))))
theorem b_is_sign (T : Tx K mg) : Binds K T.fd_is_sign ["sign"] [] := T.F_is_sign.bindsN fun _ _ _ _ _ _ us hl => match us, hl with | [_], _ => rfl
theorem ok_is_sign (T : Tx K mg) : FnOk P HasW.w K mg base CX0 1 (He.fAd K ("is_sign", none)) T.fd_is_sign ["sign"] (sp_is_sign K) := by
  refine T.F_is_sign.ok sc_is_sign (fun vs H Q E h => len_is_sign h) (fun cdv A outer s H vs Q E hr h => ⟨t_is_sign K, PSs.nox ?_, pure_is_sign h⟩)
  exact (pss_one (ps_ret (pe_and (pe_chain op_le_str op_le_str pe_str (pv 0) pe_str) (pe_one (pe_cmpR op_ne (pe_callB call_ord (by rfl) T.z_ord (by decide +kernel) (pa_cons (pv 0) pa_nil)) (pe_glob (v := .int 37) (by rfl) T.c_BARRED_SIGN.choose_spec ⟨_, rfl⟩) (nomark _))))))
theorem b_is_text (T : Tx K mg) : Binds K T.fd_is_text ["thing"] [] := T.F_is_text.bindsN fun _ _ _ _ _ _ us hl => match us, hl with | [_], _ => rfl
theorem ok_is_text (T : Tx K mg) : FnOk P HasW.w K mg base CX0 2 (He.fAd K ("is_text", none)) T.fd_is_text ["thing"] (sp_is_text K) := by
  refine T.F_is_text.ok sc_is_text (fun vs H Q E h => len_is_text h) (fun cdv A outer s H vs Q E hr h => ⟨t_is_text K, PSs.nox ?_, pure_is_text h⟩)
  exact (pss_one (ps_ret (pe_and (pe_callB call_isi (by rfl) T.z_isinstance (by decide +kernel) (pa_cons (pv 0) (pa_cons (pe_bltn (v := .ty "str") (by rfl) T.z_str (by decide +kernel) rfl) pa_nil))) (pe_one (pe_callB (cr_all rfl) (by rfl) T.z_all (by decide +kernel) (pa_cons (pe_lc (own := [("sign", 1)]) (g := (gName 1)) (tt := tYes) (te := (tCall (sp_is_sign K) [] E0 (tCons (tVar 1) tNil))) rfl sc_is_text.nd (pi_str (pv 0)) (blkOk_by (own := [("sign", 1)]) (N := N_is_text) (sc := defScope s_is_text) (by decide +kernel)) (fun _ _ _ _ _ => (pg_name (i := 1) sc_is_text.nd rfl (Or.inl rfl))) (fun _ _ _ _ _ => pts_nil) (fun _ _ _ _ _ => (pe_call (ok_is_sign T) (hr.mono (by decide)) (by rfl) T.g_is_sign T.F_is_sign.kp (b_is_sign T) .nil pass0 (pa_cons (pv 1) pa_nil)))) pa_nil))))))
theorem b_is_row (T : Tx K mg) : Binds K T.fd_is_row ["thing"] [] := T.F_is_row.bindsN fun _ _ _ _ _ _ us hl => match us, hl with | [_], _ => rfl
theorem ok_is_row (T : Tx K mg) : FnOk P HasW.w K mg base CX0 3 (He.fAd K ("is_row", none)) T.fd_is_row ["thing"] (sp_is_row K) := by
  refine T.F_is_row.ok sc_is_row (fun vs H Q E h => len_is_row h) (fun cdv A outer s H vs Q E hr h => ⟨t_is_row K, PSs.nox ?_, pure_is_row h⟩)
  exact (pss_one (ps_ret (pe_and (pe_call (ok_is_text T) (hr.mono (by decide)) (by rfl) T.g_is_text T.F_is_text.kp (b_is_text T) .nil pass0 (pa_cons (pv 0) pa_nil)) (pe_one (pe_cmpR op_le (pe_callB call_len (by rfl) T.z_len PySem.boot_len (pa_cons (pv 0) pa_nil)) (pe_glob (v := .int 40) (by rfl) T.c_MOST_SIGNS.choose_spec ⟨_, rfl⟩) (nomark _))))))
theorem b_is_rows (T : Tx K mg) : Binds K T.fd_is_rows ["thing"] [] := T.F_is_rows.bindsN fun _ _ _ _ _ _ us hl => match us, hl with | [_], _ => rfl
theorem ok_is_rows (T : Tx K mg) : FnOk P HasW.w K mg base CX0 4 (He.fAd K ("is_rows", none)) T.fd_is_rows ["thing"] (sp_is_rows K) := by
  refine T.F_is_rows.ok sc_is_rows (fun vs H Q E h => len_is_rows h) (fun cdv A outer s H vs Q E hr h => ⟨t_is_rows K, PSs.nox ?_, pure_is_rows h⟩)
  exact (pss_one (ps_ret (pe_and (pe_callB call_isi (by rfl) T.z_isinstance (by decide +kernel) (pa_cons (pv 0) (pa_cons (pe_bltn (v := .ty "tuple") (by rfl) T.z_tuple (by decide +kernel) rfl) pa_nil))) (pe_and (pe_cmpR op_le (pe_callB call_len (by rfl) T.z_len PySem.boot_len (pa_cons (pv 0) pa_nil)) (pe_glob (v := .int 40) (by rfl) T.c_MOST_ROWS.choose_spec ⟨_, rfl⟩) (nomark _)) (pe_one (pe_callB (cr_all rfl) (by rfl) T.z_all (by decide +kernel) (pa_cons (pe_lc (own := [("row", 1)]) (g := (gName 1)) (tt := tYes) (te := (tCall (sp_is_row K) [] E0 (tCons (tVar 1) tNil))) rfl sc_is_rows.nd (pi_tup (pv 0)) (blkOk_by (own := [("row", 1)]) (N := N_is_rows) (sc := defScope s_is_rows) (by decide +kernel)) (fun _ _ _ _ _ => (pg_name (i := 1) sc_is_rows.nd rfl (Or.inl rfl))) (fun _ _ _ _ _ => pts_nil) (fun _ _ _ _ _ => (pe_call (ok_is_row T) (hr.mono (by decide)) (by rfl) T.g_is_row T.F_is_row.kp (b_is_row T) .nil pass0 (pa_cons (pv 1) pa_nil)))) pa_nil)))))))
theorem b_is_pair (T : Tx K mg) : Binds K T.fd_is_pair ["thing"] [] := T.F_is_pair.bindsN fun _ _ _ _ _ _ us hl => match us, hl with | [_], _ => rfl
theorem ok_is_pair (T : Tx K mg) : FnOk P HasW.w K mg base CX0 1 (He.fAd K ("is_pair", none)) T.fd_is_pair ["thing"] (sp_is_pairT K) := by
  refine T.F_is_pair.ok sc_is_pair (fun vs H Q E h => len_is_pairT h) (fun cdv A outer s H vs Q E hr h => ⟨t_is_pair K, PSs.nox ?_, pure_is_pairT h⟩)
  exact (pss_one (ps_ret (pe_and (pe_callB call_isi (by rfl) T.z_isinstance (by decide +kernel) (pa_cons (pv 0) (pa_cons (pe_bltn (v := .ty "tuple") (by rfl) T.z_tuple (by decide +kernel) rfl) pa_nil))) (pe_one (pe_cmpR op_eq (pe_callB call_len (by rfl) T.z_len PySem.boot_len (pa_cons (pv 0) pa_nil)) pe_int (nomark _))))))
theorem b_is_label (T : Tx K mg) : Binds K T.fd_is_label ["thing"] [] := T.F_is_label.bindsN fun _ _ _ _ _ _ us hl => match us, hl with | [_], _ => rfl
theorem ok_is_label (T : Tx K mg) : FnOk P HasW.w K mg base CX0 1 (He.fAd K ("is_label", none)) T.fd_is_label ["thing"] (sp_is_label K) := by
  refine T.F_is_label.ok sc_is_label (fun vs H Q E h => len_is_label h) (fun cdv A outer s H vs Q E hr h => ⟨t_is_label K, PSs.nox ?_, pure_is_label h⟩)
  exact (pss_cons (ps_if (PW.pt (pw_or (pt_not (pt_val (pe_callB call_isi (by rfl) T.z_isinstance (by decide +kernel) (pa_cons (pv 0) (pa_cons (pe_bltn (v := .ty "str") (by rfl) T.z_str (by decide +kernel) rfl) pa_nil))))) (pw_or1 (pt_not (pt_chain op_le op_le pe_int (pe_callB call_len (by rfl) T.z_len PySem.boot_len (pa_cons (pv 0) pa_nil)) (pe_glob (v := .int 8) (by rfl) T.c_LONGEST_LABEL.choose_spec ⟨_, rfl⟩)))))) (pss_one (ps_ret pe_bl)) pss_nil)
      (pss_one (ps_ret (pe_callB (cr_all rfl) (by rfl) T.z_all (by decide +kernel) (pa_cons (pe_lc (own := [("sign", 1)]) (g := (gName 1)) (tt := tYes) (te := (tChain rLeS rLeS (tC (.str "a")) (tVar 1) (tC (.str "z")))) rfl sc_is_label.nd (pi_str (pv 0)) (blkOk_by (own := [("sign", 1)]) (N := N_is_label) (sc := defScope s_is_label) (by decide +kernel)) (fun _ _ _ _ _ => (pg_name (i := 1) sc_is_label.nd rfl (Or.inl rfl))) (fun _ _ _ _ _ => pts_nil) (fun _ _ _ _ _ => (pe_chain op_le_str op_le_str pe_str (pv 1) pe_str))) pa_nil)))))
theorem b_is_int (T : Tx K mg) : Binds K T.fd_is_int ["thing"] [] := T.F_is_int.bindsN fun _ _ _ _ _ _ us hl => match us, hl with | [_], _ => rfl
theorem ok_is_int (T : Tx K mg) : FnOk P HasW.w K mg base CX0 1 (He.fAd K ("is_int", none)) T.fd_is_int ["thing"] (sp_is_intI K) := by
  refine T.F_is_int.ok sc_is_int (fun vs H Q E h => len_is_intI h) (fun cdv A outer s H vs Q E hr h => ⟨t_is_int K, PSs.nox ?_, pure_is_intI h⟩)
  exact (pss_one (ps_ret (pe_and (pe_callB call_isi (by rfl) T.z_isinstance (by decide +kernel) (pa_cons (pv 0) (pa_cons (pe_bltn (v := .ty "int") (by rfl) T.z_int (by decide +kernel) rfl) pa_nil))) (pe_one (pe_not (pe_callB call_isi (by rfl) T.z_isinstance (by decide +kernel) (pa_cons (pv 0) (pa_cons (pe_bltn (v := .ty "bool") (by rfl) T.z_bool (by decide +kernel) rfl) pa_nil))))))))
theorem b_is_entry (T : Tx K mg) : Binds K T.fd_is_entry ["thing"] [] := T.F_is_entry.bindsN fun _ _ _ _ _ _ us hl => match us, hl with | [_], _ => rfl
theorem ok_is_entry (T : Tx K mg) : FnOk P HasW.w K mg base CX0 2 (He.fAd K ("is_entry", none)) T.fd_is_entry ["thing"] (sp_is_entry K) := by
  refine T.F_is_entry.ok sc_is_entry (fun vs H Q E h => len_is_entry h) (fun cdv A outer s H vs Q E hr h => ⟨t_is_entry K, PSs.nox ?_, pure_is_entry h⟩)
  exact (pss_one (ps_ret (pe_and (pe_call (ok_is_pair T) (hr.mono (by decide)) (by rfl) T.g_is_pair T.F_is_pair.kp (b_is_pair T) .nil pass0 (pa_cons (pv 0) pa_nil)) (pe_and (pe_call (ok_is_label T) (hr.mono (by decide)) (by rfl) T.g_is_label T.F_is_label.kp (b_is_label T) .nil pass0 (pa_cons (pe_ix ix_seq (pv 0) pe_int (fun _ _ => rfl)) pa_nil)) (pe_one (pe_call (ok_is_int T) (hr.mono (by decide)) (by rfl) T.g_is_int T.F_is_int.kp (b_is_int T) .nil pass0 (pa_cons (pe_ix ix_seq (pv 0) pe_int (fun _ _ => rfl)) pa_nil)))))))
theorem b_rises (T : Tx K mg) : Binds K T.fd_rises ["things"] [] := T.F_rises.bindsN fun _ _ _ _ _ _ us hl => match us, hl with | [_], _ => rfl
theorem ok_rises (T : Tx K mg) : FnOk P HasW.w K mg base CX0 1 (He.fAd K ("rises", none)) T.fd_rises ["things"] (sp_rises K) := by
  refine T.F_rises.ok sc_rises (fun vs H Q E h => len_rises h) (fun cdv A outer s H vs Q E hr h => ⟨t_rises K, PSs.nox ?_, pure_rises h⟩)
  exact (pss_one (ps_ret (pe_callB (cr_all rfl) (by rfl) T.z_all (by decide +kernel) (pa_cons (pe_lc (own := [("low", 1), ("high", 2)]) (g := (gTup K 2 (gCons (gName 1) (gCons (gName 2) gNil)))) (tt := tYes) (te := (tOp fLtIS (tVar 1) (tVar 2))) rfl sc_rises.nd (pi_zipA (by rfl) T.z_zip (pa_cons (pv 0) (pa_cons (pe_slice (SlR.or sl_tupA sl_list) (pv 0) (po_some pe_int) po_none) pa_nil))) (blkOk_by (own := [("low", 1), ("high", 2)]) (N := N_rises) (sc := defScope s_rises) (by decide +kernel)) (fun _ _ _ _ _ => (pg_tup rfl (pgs_cons (pg_name (i := 1) sc_rises.nd rfl (Or.inl rfl)) (pgs_cons (pg_name (i := 2) sc_rises.nd rfl (Or.inl rfl)) pgs_nil)))) (fun _ _ _ _ _ => pts_nil) (fun _ _ _ _ _ => (pe_cmpR (OpR.or op_lt op_lt_str) (pv 1) (pv 2) (nomark _)))) pa_nil))))
theorem b_is_entries (T : Tx K mg) : Binds K T.fd_is_entries ["thing"] [] := T.F_is_entries.bindsN fun _ _ _ _ _ _ us hl => match us, hl with | [_], _ => rfl
theorem ok_is_entries (T : Tx K mg) : FnOk P HasW.w K mg base CX0 3 (He.fAd K ("is_entries", none)) T.fd_is_entries ["thing"] (sp_is_entries K) := by
  refine T.F_is_entries.ok sc_is_entries (fun vs H Q E h => len_is_entries h) (fun cdv A outer s H vs Q E hr h => ⟨t_is_entries K, PSs.nox ?_, pure_is_entries h⟩)
  exact (pss_cons (ps_if (PW.pt (pw_or (pt_not (pt_val (pe_callB call_isi (by rfl) T.z_isinstance (by decide +kernel) (pa_cons (pv 0) (pa_cons (pe_bltn (v := .ty "tuple") (by rfl) T.z_tuple (by decide +kernel) rfl) pa_nil))))) (pw_or1 (pt_cmpR op_gt (pe_callB call_len (by rfl) T.z_len PySem.boot_len (pa_cons (pv 0) pa_nil)) (pe_glob (v := .int 20) (by rfl) T.c_MOST_ENTRIES.choose_spec ⟨_, rfl⟩) (nomark _))))) (pss_one (ps_ret pe_bl)) pss_nil)
      (pss_one (ps_ret (pe_and (pe_callB (cr_all rfl) (by rfl) T.z_all (by decide +kernel) (pa_cons (pe_lc (own := [("entry", 1)]) (g := (gName 1)) (tt := tYes) (te := (tCall (sp_is_entry K) [] E0 (tCons (tVar 1) tNil))) rfl sc_is_entries.nd (pi_tup (pv 0)) (blkOk_by (own := [("entry", 1)]) (N := N_is_entries) (sc := defScope s_is_entries) (by decide +kernel)) (fun _ _ _ _ _ => (pg_name (i := 1) sc_is_entries.nd rfl (Or.inl rfl))) (fun _ _ _ _ _ => pts_nil) (fun _ _ _ _ _ => (pe_call (ok_is_entry T) (hr.mono (by decide)) (by rfl) T.g_is_entry T.F_is_entry.kp (b_is_entry T) .nil pass0 (pa_cons (pv 1) pa_nil)))) pa_nil)) (pe_one (pe_call (ok_rises T) (hr.mono (by decide)) (by rfl) T.g_rises T.F_rises.kp (b_rises T) .nil pass0 (pa_cons (pe_lc (own := [("entry", 1)]) (g := (gName 1)) (tt := tYes) (te := (tOp (rIx K) (tVar 1) (tC (.int 0)))) rfl sc_is_entries.nd (pi_tup (pv 0)) (blkOk_by (own := [("entry", 1)]) (N := N_is_entries) (sc := defScope s_is_entries) (by decide +kernel)) (fun _ _ _ _ _ => (pg_name (i := 1) sc_is_entries.nd rfl (Or.inl rfl))) (fun _ _ _ _ _ => pts_nil) (fun _ _ _ _ _ => (pe_ix ix_seq (pv 1) pe_int (fun _ _ => rfl)))) pa_nil)))))))
theorem b_is_ints (T : Tx K mg) : Binds K T.fd_is_ints ["thing"] [] := T.F_is_ints.bindsN fun _ _ _ _ _ _ us hl => match us, hl with | [_], _ => rfl
theorem ok_is_ints (T : Tx K mg) : FnOk P HasW.w K mg base CX0 2 (He.fAd K ("is_ints", none)) T.fd_is_ints ["thing"] (sp_is_ints K) := by
  refine T.F_is_ints.ok sc_is_ints (fun vs H Q E h => len_is_ints h) (fun cdv A outer s H vs Q E hr h => ⟨t_is_ints K, PSs.nox ?_, pure_is_ints h⟩)
  exact (pss_one (ps_ret (pe_and (pe_callB call_isi (by rfl) T.z_isinstance (by decide +kernel) (pa_cons (pv 0) (pa_cons (pe_bltn (v := .ty "tuple") (by rfl) T.z_tuple (by decide +kernel) rfl) pa_nil))) (pe_one (pe_callB (cr_all rfl) (by rfl) T.z_all (by decide +kernel) (pa_cons (pe_lc (own := [("part", 1)]) (g := (gName 1)) (tt := tYes) (te := (tCall (sp_is_intI K) [] E0 (tCons (tVar 1) tNil))) rfl sc_is_ints.nd (pi_tup (pv 0)) (blkOk_by (own := [("part", 1)]) (N := N_is_ints) (sc := defScope s_is_ints) (by decide +kernel)) (fun _ _ _ _ _ => (pg_name (i := 1) sc_is_ints.nd rfl (Or.inl rfl))) (fun _ _ _ _ _ => pts_nil) (fun _ _ _ _ _ => (pe_call (ok_is_int T) (hr.mono (by decide)) (by rfl) T.g_is_int T.F_is_int.kp (b_is_int T) .nil pass0 (pa_cons (pv 1) pa_nil)))) pa_nil))))))
theorem b_is_rising (T : Tx K mg) : Binds K T.fd_is_rising ["thing"] [] := T.F_is_rising.bindsN fun _ _ _ _ _ _ us hl => match us, hl with | [_], _ => rfl
theorem ok_is_rising (T : Tx K mg) : FnOk P HasW.w K mg base CX0 3 (He.fAd K ("is_rising", none)) T.fd_is_rising ["thing"] (sp_is_rising K) := by
  refine T.F_is_rising.ok sc_is_rising (fun vs H Q E h => len_is_rising h) (fun cdv A outer s H vs Q E hr h => ⟨t_is_rising K, PSs.nox ?_, pure_is_rising h⟩)
  exact (pss_one (ps_ret (pe_and (pe_call (ok_is_ints T) (hr.mono (by decide)) (by rfl) T.g_is_ints T.F_is_ints.kp (b_is_ints T) .nil pass0 (pa_cons (pv 0) pa_nil)) (pe_one (pe_call (ok_rises T) (hr.mono (by decide)) (by rfl) T.g_rises T.F_rises.kp (b_rises T) .nil pass0 (pa_cons (pv 0) pa_nil))))))
theorem b_is_stamp (T : Tx K mg) : Binds K T.fd_is_stamp ["thing"] [] := T.F_is_stamp.bindsN fun _ _ _ _ _ _ us hl => match us, hl with | [_], _ => rfl
theorem ok_is_stamp (T : Tx K mg) : FnOk P HasW.w K mg base CX0 2 (He.fAd K ("is_stamp", none)) T.fd_is_stamp ["thing"] (sp_is_stamp K) := by
  refine T.F_is_stamp.ok sc_is_stamp (fun vs H Q E h => len_is_stamp h) (fun cdv A outer s H vs Q E hr h => ⟨t_is_stamp K, PSs.nox ?_, pure_is_stamp h⟩)
  exact (pss_one (ps_ret (pe_and (pe_call (ok_is_int T) (hr.mono (by decide)) (by rfl) T.g_is_int T.F_is_int.kp (b_is_int T) .nil pass0 (pa_cons (pv 0) pa_nil)) (pe_one (pe_chain op_le op_le pe_int (pv 0) (pe_glob (v := .int 1000000000000000000) (by rfl) T.c_LAST_STAMP.choose_spec ⟨_, rfl⟩))))))
theorem b_is_version_form (T : Tx K mg) : Binds K T.fd_is_version_form ["thing"] [] := T.F_is_version_form.bindsN fun _ _ _ _ _ _ us hl => match us, hl with | [_], _ => rfl
theorem ok_is_version_form (T : Tx K mg) : FnOk P HasW.w K mg base CX0 4 (He.fAd K ("is_version_form", none)) T.fd_is_version_form ["thing"] (sp_is_version_form K) := by
  refine T.F_is_version_form.ok sc_is_version_form (fun vs H Q E h => len_is_version_form h) (fun cdv A outer s H vs Q E hr h => ⟨t_is_version_form K, PSs.nox ?_, pure_is_version_form h⟩)
  exact (pss_cons (ps_if (PW.pt (pw_or (pt_cmpR op_ne (pe_callB call_len (by rfl) T.z_len PySem.boot_len (pa_cons (pv 0) pa_nil)) pe_int (nomark _)) (pw_or1 (pt_not (pt_val (pe_call (ok_is_rising T) (hr.mono (by decide)) (by rfl) T.g_is_rising T.F_is_rising.kp (b_is_rising T) .nil pass0 (pa_cons (pe_ix ix_seq (pv 0) pe_int (fun _ _ => rfl)) pa_nil))))))) (pss_one (ps_ret pe_bl)) pss_nil)
      (pss_one (ps_ret (pe_and (pe_cmpR op_le (pe_callB call_len (by rfl) T.z_len PySem.boot_len (pa_cons (pe_ix ix_seq (pv 0) pe_int (fun _ _ => rfl)) pa_nil)) (pe_glob (v := .int 4) (by rfl) T.c_MOST_PARENTS.choose_spec ⟨_, rfl⟩) (nomark _)) (pe_and (pe_call (ok_is_int T) (hr.mono (by decide)) (by rfl) T.g_is_int T.F_is_int.kp (b_is_int T) .nil pass0 (pa_cons (pe_ix ix_seq (pv 0) pe_int (fun _ _ => rfl)) pa_nil)) (pe_one (pe_call (ok_is_stamp T) (hr.mono (by decide)) (by rfl) T.g_is_stamp T.F_is_stamp.kp (b_is_stamp T) .nil pass0 (pa_cons (pe_ix ix_seq (pv 0) pe_int (fun _ _ => rfl)) pa_nil))))))))
theorem b_is_content_form (T : Tx K mg) : Binds K T.fd_is_content_form ["thing"] [] := T.F_is_content_form.bindsN fun _ _ _ _ _ _ us hl => match us, hl with | [_], _ => rfl
theorem ok_is_content_form (T : Tx K mg) : FnOk P HasW.w K mg base CX0 5 (He.fAd K ("is_content_form", none)) T.fd_is_content_form ["thing"] (sp_is_content_form K) := by
  refine T.F_is_content_form.ok sc_is_content_form (fun vs H Q E h => len_is_content_form h) (fun cdv A outer s H vs Q E hr h => ⟨t_is_content_form K, PSs.nox ?_, pure_is_content_form h⟩)
  exact (pss_cons (ps_if (PW.pt (pw_or (pt_not (pt_val (pe_callB call_isi (by rfl) T.z_isinstance (by decide +kernel) (pa_cons (pv 0) (pa_cons (pe_bltn (v := .ty "tuple") (by rfl) T.z_tuple (by decide +kernel) rfl) pa_nil))))) (pw_or1 (pt_cmpR op_eq (pe_callB call_len (by rfl) T.z_len PySem.boot_len (pa_cons (pv 0) pa_nil)) pe_int (nomark _))))) (pss_one (ps_ret pe_bl)) pss_nil)
      (pss_cons (ps_if (pt_cmpR op_eq (pe_ix ix_seq (pv 0) pe_int (fun _ _ => rfl)) pe_str (nomark _)) (pss_one (ps_ret (pe_and (pe_cmpR op_eq (pe_callB call_len (by rfl) T.z_len PySem.boot_len (pa_cons (pv 0) pa_nil)) pe_int (nomark _)) (pe_one (pe_call (ok_is_rows T) (hr.mono (by decide)) (by rfl) T.g_is_rows T.F_is_rows.kp (b_is_rows T) .nil pass0 (pa_cons (pe_ix ix_seq (pv 0) pe_int (fun _ _ => rfl)) pa_nil)))))) pss_nil)
      (pss_cons (ps_if (pt_cmpR op_eq (pe_ix ix_seq (pv 0) pe_int (fun _ _ => rfl)) pe_str (nomark _)) (pss_one (ps_ret (pe_and (pe_cmpR op_eq (pe_callB call_len (by rfl) T.z_len PySem.boot_len (pa_cons (pv 0) pa_nil)) pe_int (nomark _)) (pe_one (pe_call (ok_is_entries T) (hr.mono (by decide)) (by rfl) T.g_is_entries T.F_is_entries.kp (b_is_entries T) .nil pass0 (pa_cons (pe_ix ix_seq (pv 0) pe_int (fun _ _ => rfl)) pa_nil)))))) pss_nil)
      (pss_one (ps_ret (pe_and (pe_cmpR op_eq (pe_ix ix_seq (pv 0) pe_int (fun _ _ => rfl)) pe_str (nomark _)) (pe_one (pe_call (ok_is_version_form T) (hr.mono (by decide)) (by rfl) T.g_is_version_form T.F_is_version_form.kp (b_is_version_form T) .nil pass0 (pa_cons (pv 0) pa_nil)))))))))
theorem b_Book_is_name (T : Tx K mg) : Binds K T.fd_Book_is_name ["self", "thing"] [] := T.F_Book_is_name.bindsN fun _ _ _ _ _ _ us hl => match us, hl with | [_, _], _ => rfl
theorem ok_Book_is_name (T : Tx K mg) : FnOk P HasW.w K mg base CX0 2 (He.fAd K ("Book", some "is_name")) T.fd_Book_is_name ["self", "thing"] (sp_Book_is_name K) := by
  refine T.F_Book_is_name.ok sc_Book_is_name (fun vs H Q E h => len_Book_is_name h) (fun cdv A outer s H vs Q E hr h => ⟨t_Book_is_name K, PSs.nox ?_, pure_Book_is_name h⟩)
  exact (pss_one (ps_ret (pe_and (pe_call (ok_is_int T) (hr.mono (by decide)) (by rfl) T.g_is_int T.F_is_int.kp (b_is_int T) .nil pass0 (pa_cons (pv 1) pa_nil)) (pe_one (pe_chain op_le op_lt pe_int (pv 1) (pe_callB call_len (by rfl) T.z_len PySem.boot_len (pa_cons (pe_fld (pv 0) rfl) pa_nil)))))))
theorem b_Book_has_kinds (T : Tx K mg) : Binds K T.fd_Book_has_kinds ["self", "names", "kinds"] [] := T.F_Book_has_kinds.bindsN fun _ _ _ _ _ _ us hl => match us, hl with | [_, _, _], _ => rfl
theorem ok_Book_has_kinds (T : Tx K mg) : FnOk P HasW.w K mg base CX0 3 (He.fAd K ("Book", some "has_kinds")) T.fd_Book_has_kinds ["self", "names", "kinds"] (sp_Book_has_kinds K) := by
  refine T.F_Book_has_kinds.ok sc_Book_has_kinds (fun vs H Q E h => len_Book_has_kinds h) (fun cdv A outer s H vs Q E hr h => ⟨t_Book_has_kinds K, PSs.nox ?_, pure_Book_has_kinds h⟩)
  exact (pss_one (ps_ret (pe_callB (cr_all rfl) (by rfl) T.z_all (by decide +kernel) (pa_cons (pe_lc (own := [("name", 3)]) (g := (gName 3)) (tt := tYes) (te := (tAndV (tMeth (He.ga K "Book") "is_name" (sp_Book_is_name K) [] E0 (tVar 0) (tCons (tVar 3) tNil)) (tOp (rIn K false) (tOp (rIx K) (tOp (rIx K) (tFld K (tVar 0) "contents") (tVar 3)) (tC (.int 0))) (tVar 2)))) rfl sc_Book_has_kinds.nd (pi_or (pi_list (pv 1)) (pi_tup (pv 1))) (blkOk_by (own := [("name", 3)]) (N := N_Book_has_kinds) (sc := defScope s_Book_has_kinds) (by decide +kernel)) (fun _ _ _ _ _ => (pg_name (i := 3) sc_Book_has_kinds.nd rfl (Or.inl rfl))) (fun _ _ _ _ _ => pts_nil) (fun _ _ _ _ _ => (pe_and (pe_meth (pv 0) T.cl_Book T.me_Book_is_name (ok_Book_is_name T) (hr.mono (by decide)) (b_Book_is_name T) .nil pass0 (pa_cons (pv 3) pa_nil)) (pe_one (pe_cmpR op_in_seq (pe_ix ix_seq (pe_ix ix_seq (pe_fld (pv 0) rfl) (pv 3) (fun _ _ => rfl)) pe_int (fun _ _ => rfl)) (pv 2) (by rfl)))))) pa_nil))))
theorem b_Book_depth (T : Tx K mg) : Binds K T.fd_Book_depth ["self", "content"] [] := T.F_Book_depth.bindsN fun _ _ _ _ _ _ us hl => match us, hl with | [_, _], _ => rfl
theorem ok_Book_depth (T : Tx K mg) : FnOk P HasW.w K mg base CX0 1 (He.fAd K ("Book", some "depth")) T.fd_Book_depth ["self", "content"] (sp_Book_depth K) := by
  refine T.F_Book_depth.ok sc_Book_depth (fun vs H Q E h => len_Book_depth h) (fun cdv A outer s H vs Q E hr h => ⟨t_Book_depth K, PSs.nox ?_, pure_Book_depth h⟩)
  exact (pss_cons (ps_if (pt_cmpR op_ne (pe_ix ix_seq (pv 1) pe_int (fun _ _ => rfl)) pe_str (nomark _)) (pss_one (ps_ret pe_int)) pss_nil)
      (pss_one (ps_ret (pe_op op_add pe_int (pe_callBK (cr_maxD0 rfl hr.units) (by rfl) T.z_max (by decide +kernel) (pa_cons (pe_lc (own := [("label", 2), ("part", 3)]) (g := (gTup K 2 (gCons (gName 2) (gCons (gName 3) gNil)))) (tt := tYes) (te := (tOp (rIx K) (tFld K (tVar 0) "depths") (tVar 3))) rfl sc_Book_depth.nd (pi_tup (pe_ix ix_seq (pv 1) pe_int (fun _ _ => rfl))) (blkOk_by (own := [("label", 2), ("part", 3)]) (N := N_Book_depth) (sc := defScope s_Book_depth) (by decide +kernel)) (fun _ _ _ _ _ => (pg_tup rfl (pgs_cons (pg_name (i := 2) sc_Book_depth.nd rfl (Or.inl rfl)) (pgs_cons (pg_name (i := 3) sc_Book_depth.nd rfl (Or.inl rfl)) pgs_nil)))) (fun _ _ _ _ _ => pts_nil) (fun _ _ _ _ _ => (pe_ix ix_seq (pe_fld (pv 0) rfl) (pv 3) (fun _ _ => rfl)))) pa_nil) (pk_cons pe_int pk_nil))))))
theorem b_Book_is_content (T : Tx K mg) : Binds K T.fd_Book_is_content ["self", "thing"] [] := T.F_Book_is_content.bindsN fun _ _ _ _ _ _ us hl => match us, hl with | [_, _], _ => rfl
theorem ok_Book_is_content (T : Tx K mg) : FnOk P HasW.w K mg base CX0 6 (He.fAd K ("Book", some "is_content")) T.fd_Book_is_content ["self", "thing"] (sp_Book_is_content K) := by
  refine T.F_Book_is_content.ok sc_Book_is_content (fun vs H Q E h => len_Book_is_content h) (fun cdv A outer s H vs Q E hr h => ⟨t_Book_is_content K, PSs.nox ?_, pure_Book_is_content h⟩)
  exact (pss_cons (ps_if (pt_not (pt_val (pe_call (ok_is_content_form T) (hr.mono (by decide)) (by rfl) T.g_is_content_form T.F_is_content_form.kp (b_is_content_form T) .nil pass0 (pa_cons (pv 1) pa_nil)))) (pss_one (ps_ret pe_bl)) pss_nil)
      (pss_cons (ps_if (pt_cmpR op_eq (pe_ix ix_seq (pv 1) pe_int (fun _ _ => rfl)) pe_str (nomark _)) (pss_one (ps_ret (pe_and (pe_meth (pv 0) T.cl_Book T.me_Book_has_kinds (ok_Book_has_kinds T) (hr.mono (by decide)) (b_Book_has_kinds T) .nil pass0 (pa_cons (pe_lc (own := [("label", 2), ("part", 3)]) (g := (gTup K 2 (gCons (gName 2) (gCons (gName 3) gNil)))) (tt := tYes) (te := (tVar 3)) rfl sc_Book_is_content.nd (pi_tup (pe_ix ix_seq (pv 1) pe_int (fun _ _ => rfl))) (blkOk_by (own := [("label", 2), ("part", 3)]) (N := N_Book_is_content) (sc := defScope s_Book_is_content) (by decide +kernel)) (fun _ _ _ _ _ => (pg_tup rfl (pgs_cons (pg_name (i := 2) sc_Book_is_content.nd rfl (Or.inl rfl)) (pgs_cons (pg_name (i := 3) sc_Book_is_content.nd rfl (Or.inl rfl)) pgs_nil)))) (fun _ _ _ _ _ => pts_nil) (fun _ _ _ _ _ => (pv 3))) (pa_cons (pe_tup (pa_cons pe_str (pa_cons pe_str pa_nil))) pa_nil))) (pe_one (pe_cmpR op_le (pe_meth (pv 0) T.cl_Book T.me_Book_depth (ok_Book_depth T) (hr.mono (by decide)) (b_Book_depth T) .nil pass0 (pa_cons (pv 1) pa_nil)) (pe_glob (v := .int 8) (by rfl) T.c_DEEPEST.choose_spec ⟨_, rfl⟩) (nomark _)))))) pss_nil)
      (pss_cons (ps_if (pt_cmpR op_eq (pe_ix ix_seq (pv 1) pe_int (fun _ _ => rfl)) pe_str (nomark _)) (pss_one (ps_ret (pe_and (pe_meth (pv 0) T.cl_Book T.me_Book_has_kinds (ok_Book_has_kinds T) (hr.mono (by decide)) (b_Book_has_kinds T) .nil pass0 (pa_cons (pe_ix ix_seq (pv 1) pe_int (fun _ _ => rfl)) (pa_cons (pe_tup (pa_cons pe_str pa_nil)) pa_nil))) (pe_one (pe_meth (pv 0) T.cl_Book T.me_Book_has_kinds (ok_Book_has_kinds T) (hr.mono (by decide)) (b_Book_has_kinds T) .nil pass0 (pa_cons (pe_lst (pa_cons (pe_ix ix_seq (pv 1) pe_int (fun _ _ => rfl)) pa_nil)) (pa_cons (pe_tup (pa_cons pe_str pa_nil)) pa_nil))))))) pss_nil)
      (pss_one (ps_ret pe_bl)))))
theorem b_Book_give_next (T : Tx K mg) : Binds K T.fd_Book_give_next ["self", "content"] [] := T.F_Book_give_next.bindsN fun _ _ _ _ _ _ us hl => match us, hl with | [_, _], _ => rfl
theorem ok_Book_give_next (T : Tx K mg) : FnOk P HasW.w K mg base CX0 2 (He.fAd K ("Book", some "give_next")) T.fd_Book_give_next ["self", "content"] (sp_Book_give_next K) := by
  refine T.F_Book_give_next.ok sc_Book_give_next (fun vs H Q E h => len_Book_give_next h) (fun cdv A outer s H vs Q E hr h => ⟨t_Book_give_next K, PSs.nox ?_, pure_Book_give_next h⟩)
  exact (pss_cons (ps_if (pt_cmpR op_ge (pe_callB call_len (by rfl) T.z_len PySem.boot_len (pa_cons (pe_fld (pv 0) rfl) pa_nil)) (pe_glob (v := .int 400) (by rfl) T.c_MOST.choose_spec ⟨_, rfl⟩) (nomark _)) (pss_one ps_never) pss_nil)
      (pss_cons (ps_nput rfl hr.units (pe_fld (pv 0) rfl) (pv 1) (pe_callB call_len (by rfl) T.z_len PySem.boot_len (pa_cons (pe_fld (pv 0) rfl) pa_nil)) rfl)
      (pss_cons (ps_expr (pe_bm PySem.F.plainAttrs_list PySem.F.slot_list_append PySem.F.type_list_append mt_append (pe_fld (pv 0) rfl) (pa_cons (pe_meth (pv 0) T.cl_Book T.me_Book_depth (ok_Book_depth T) (hr.mono (by decide)) (b_Book_depth T) .nil pass0 (pa_cons (pv 1) pa_nil)) pa_nil)))
      (pss_one (ps_expr (pe_bm PySem.F.plainAttrs_list PySem.F.slot_list_append PySem.F.type_list_append mt_append (pe_fld (pv 0) rfl) (pa_cons (pv 1) pa_nil)))))))
theorem b_Book_named (T : Tx K mg) : Binds K T.fd_Book_named ["self", "content"] [] := T.F_Book_named.bindsN fun _ _ _ _ _ _ us hl => match us, hl with | [_, _], _ => rfl
theorem ok_Book_named (T : Tx K mg) : FnOk P HasW.w K mg base CX0 7 (He.fAd K ("Book", some "named")) T.fd_Book_named ["self", "content"] (sp_Book_named K) := by
  refine T.F_Book_named.ok sc_Book_named (fun vs H Q E h => len_Book_named h) (fun cdv A outer s H vs Q E hr h => ⟨t_Book_named K, PSs.nox ?_, pure_Book_named h⟩)
  exact (pss_cons (ps_if (pt_not (pt_val (pe_meth (pv 0) T.cl_Book T.me_Book_is_content (ok_Book_is_content T) (hr.mono (by decide)) (b_Book_is_content T) .nil pass0 (pa_cons (pv 1) pa_nil)))) (pss_one ps_never) pss_nil)
      (pss_cons (ps_if (pt_cmp (pc_nnotin rfl hr.units (pv 1) (pe_fld (pv 0) rfl))) (pss_one (ps_expr (pe_meth (pv 0) T.cl_Book T.me_Book_give_next (ok_Book_give_next T) (hr.mono (by decide)) (b_Book_give_next T) .nil pass0 (pa_cons (pv 1) pa_nil)))) pss_nil)
      (pss_one (ps_ret (pe_nget rfl hr.units (pe_fld (pv 0) rfl) (pv 1) (fun _ _ => rfl))))))
theorem b_l_book (T : Tx K mg) : Binds K T.fd_l_book ["_law_things"] [] := T.F_l_book.bindsN fun _ _ _ _ _ _ us hl => match us, hl with | [_], _ => rfl
theorem ok_l_book (T : Tx K mg) : FnOk P HasW.w K mg base CX0 8 (He.fAd K ("_law_book", none)) T.fd_l_book ["_law_things"] (sp_l_book K) := by
  refine T.F_l_book.ok sc_l_book (fun vs H Q E h => len_l_book h) (fun cdv A outer s H vs Q E hr h => ⟨t_l_book K, PSs.nox ?_, pure_l_book h⟩)
  exact (pss_cons (ps_set (i := 1) sc_l_book.nd rfl (Or.inl rfl) (pe_make0 T.mk_Book (ok_Book_init T) (hr.mono (by decide)) (by rfl) T.gc_Book (b_Book_init T) .nil pass0))
      (pss_cons (ps_for PassesOwn.never rfl (pi_list (pv 0)) (pg_name (i := 2) sc_l_book.nd rfl (Or.inl rfl)) (pss_one (ps_expr (pe_meth (pv 1) T.cl_Book T.me_Book_named (ok_Book_named T) (hr.mono (by decide)) (b_Book_named T) .nil pass0 (pa_cons (pv 2) pa_nil)))))
      (pss_one (ps_ret (pv 1)))))
theorem b_l_int (T : Tx K mg) : Binds K T.fd_l_int ["_law_thing"] [] := T.F_l_int.bindsN fun _ _ _ _ _ _ us hl => match us, hl with | [_], _ => rfl
theorem ok_l_int (T : Tx K mg) : FnOk P HasW.w K mg base CX0 1 (He.fAd K ("_law_int", none)) T.fd_l_int ["_law_thing"] (sp_l_int K) := by
  refine T.F_l_int.ok sc_l_int (fun vs H Q E h => len_l_int h) (fun cdv A outer s H vs Q E hr h => ⟨t_l_int K, PSs.nox ?_, pure_l_int h⟩)
  exact (pss_one (ps_ret (pe_and (pe_callB call_isi (by rfl) T.z_isinstance (by decide +kernel) (pa_cons (pv 0) (pa_cons (pe_bltn (v := .ty "int") (by rfl) T.z_int (by decide +kernel) rfl) pa_nil))) (pe_one (pe_not (pe_callB call_isi (by rfl) T.z_isinstance (by decide +kernel) (pa_cons (pv 0) (pa_cons (pe_bltn (v := .ty "bool") (by rfl) T.z_bool (by decide +kernel) rfl) pa_nil))))))))
theorem b_l_same (T : Tx K mg) : Binds K T.fd_l_same ["_law_found", "_law_due"] [] := T.F_l_same.bindsN fun _ _ _ _ _ _ us hl => match us, hl with | [_, _], _ => rfl
theorem ok_sameN (T : Tx K mg) : ∀ n : Nat, FnOk P HasW.w K mg base CX0 (n + 2) (He.fAd K ("_law_same", none)) T.fd_l_same ["_law_found", "_law_due"] (sp_sameN K n)
  | 0 => T.F_l_same.ok sc_l_same (fun vs H Q E h => len_sameN h) (fun cdv A outer s H vs Q E hr h => by
      obtain ⟨_, _, _, h, _⟩ := h
      exact h.elim)
  | n + 1 => by
    have G : FnOk P HasW.w K mg base CX0 (n + 2) (He.fAd K ("_law_same", none)) T.fd_l_same ["_law_found", "_law_due"] (sp_sameN K n) := ok_sameN T n
    refine T.F_l_same.ok sc_l_same (fun vs H Q E h => len_sameN h) (fun cdv A outer s H vs Q E hr h => ⟨t_l_same K n, PSs.nox ?_, pure_l_same h⟩)
    exact (pss_cons (ps_if (PW.pt (pw_or (pt_val (pe_callB call_isi (by rfl) T.z_isinstance (by decide +kernel) (pa_cons (pv 1) (pa_cons (pe_bltn (v := .ty "tuple") (by rfl) T.z_tuple (by decide +kernel) rfl) pa_nil)))) (pw_or1 (pt_val (pe_callB call_isi (by rfl) T.z_isinstance (by decide +kernel) (pa_cons (pv 1) (pa_cons (pe_bltn (v := .ty "list") (by rfl) T.z_list (by decide +kernel) rfl) pa_nil))))))) (pss_cons (ps_if (PW.pt (pw_or (pt_cmpR op_ne (pe_callB call_isi (by rfl) T.z_isinstance (by decide +kernel) (pa_cons (pv 1) (pa_cons (pe_bltn (v := .ty "tuple") (by rfl) T.z_tuple (by decide +kernel) rfl) pa_nil))) (pe_callB call_isi (by rfl) T.z_isinstance (by decide +kernel) (pa_cons (pv 0) (pa_cons (pe_bltn (v := .ty "tuple") (by rfl) T.z_tuple (by decide +kernel) rfl) pa_nil))) (nomark _)) (pw_or1 (pt_cmpR op_ne (pe_callB call_isi (by rfl) T.z_isinstance (by decide +kernel) (pa_cons (pv 1) (pa_cons (pe_bltn (v := .ty "list") (by rfl) T.z_list (by decide +kernel) rfl) pa_nil))) (pe_callB call_isi (by rfl) T.z_isinstance (by decide +kernel) (pa_cons (pv 0) (pa_cons (pe_bltn (v := .ty "list") (by rfl) T.z_list (by decide +kernel) rfl) pa_nil))) (nomark _))))) (pss_one (ps_ret pe_bl)) pss_nil)
      (pss_cons (ps_if (pt_cmpR op_ne (pe_callB call_len (by rfl) T.z_len PySem.boot_len (pa_cons (pv 0) pa_nil)) (pe_callB call_len (by rfl) T.z_len PySem.boot_len (pa_cons (pv 1) pa_nil)) (nomark _)) (pss_one (ps_ret pe_bl)) pss_nil)
      (pss_cons (ps_for PassesOwn.never rfl (pi_range1 (by rfl) T.z_range (pa_cons (pe_callB call_len (by rfl) T.z_len PySem.boot_len (pa_cons (pv 1) pa_nil)) pa_nil)) (pg_name (i := 2) sc_l_same.nd rfl (Or.inl rfl)) (pss_one (ps_if (pt_not (pt_val (pe_call G hr (by rfl) T.g_l_same T.F_l_same.kp (b_l_same T) .nil pass0 (pa_cons (pe_ix ix_seq (pv 0) (pv 2) (fun _ _ => rfl)) (pa_cons (pe_ix ix_seq (pv 1) (pv 2) (fun _ _ => rfl)) pa_nil))))) (pss_one (ps_ret pe_bl)) pss_nil)))
      (pss_one (ps_ret pe_bl))))) pss_nil)
      (pss_cons (ps_if (pt_val (pe_callB call_isi (by rfl) T.z_isinstance (by decide +kernel) (pa_cons (pv 1) (pa_cons (pe_bltn (v := .ty "bool") (by rfl) T.z_bool (by decide +kernel) rfl) pa_nil)))) (pss_one (ps_ret (pe_and (pe_callB call_isi (by rfl) T.z_isinstance (by decide +kernel) (pa_cons (pv 0) (pa_cons (pe_bltn (v := .ty "bool") (by rfl) T.z_bool (by decide +kernel) rfl) pa_nil))) (pe_one (pe_cmpR op_eq (pv 0) (pv 1) (nomark _)))))) pss_nil)
      (pss_cons (ps_if (pt_val (pe_callB call_isi (by rfl) T.z_isinstance (by decide +kernel) (pa_cons (pv 1) (pa_cons (pe_bltn (v := .ty "int") (by rfl) T.z_int (by decide +kernel) rfl) pa_nil)))) (pss_one (ps_ret (pe_and (pe_call (ok_l_int T) (hr.mono (by omega)) (by rfl) T.g_l_int T.F_l_int.kp (b_l_int T) .nil pass0 (pa_cons (pv 0) pa_nil)) (pe_one (pe_cmpR op_eq (pv 0) (pv 1) (nomark _)))))) pss_nil)
      (pss_cons (ps_if (pt_val (pe_callB call_isi (by rfl) T.z_isinstance (by decide +kernel) (pa_cons (pv 1) (pa_cons (pe_bltn (v := .ty "str") (by rfl) T.z_str (by decide +kernel) rfl) pa_nil)))) (pss_one (ps_ret (pe_and (pe_callB call_isi (by rfl) T.z_isinstance (by decide +kernel) (pa_cons (pv 0) (pa_cons (pe_bltn (v := .ty "str") (by rfl) T.z_str (by decide +kernel) rfl) pa_nil))) (pe_one (pe_cmpR op_eq (pv 0) (pv 1) (nomark _)))))) pss_nil)
      (pss_one (ps_ret (pe_and (pe_cmpR op_isN (pv 1) pe_non (nomark _)) (pe_one (pe_cmpR op_isN (pv 0) pe_non (nomark _))))))))))
theorem ok_l_same (T : Tx K mg) : FnOk P HasW.w K mg base CX0 8 (He.fAd K ("_law_same", none)) T.fd_l_same ["_law_found", "_law_due"] (sp_l_same K) := ok_sameN T 6
theorem b_Book_thing (T : Tx K mg) : Binds K T.fd_Book_thing ["self", "name"] [] := T.F_Book_thing.bindsN fun _ _ _ _ _ _ us hl => match us, hl with | [_, _], _ => rfl
theorem ok_Book_thing (T : Tx K mg) : FnOk P HasW.w K mg base CX0 3 (He.fAd K ("Book", some "thing")) T.fd_Book_thing ["self", "name"] (sp_Book_thing K) := by
  refine T.F_Book_thing.ok sc_Book_thing (fun vs H Q E h => len_Book_thing h) (fun cdv A outer s H vs Q E hr h => ⟨t_Book_thing K, PSs.nox ?_, pure_Book_thing h⟩)
  exact (pss_cons (ps_if (pt_not (pt_val (pe_meth (pv 0) T.cl_Book T.me_Book_is_name (ok_Book_is_name T) (hr.mono (by decide)) (b_Book_is_name T) .nil pass0 (pa_cons (pv 1) pa_nil)))) (pss_one ps_never) pss_nil)
      (pss_one (ps_ret (pe_ix ix_seq (pe_fld (pv 0) rfl) (pv 1) (fun _ _ => rfl)))))
theorem b_Book_leaf_rows (T : Tx K mg) : Binds K T.fd_Book_leaf_rows ["self", "leaf"] [] := T.F_Book_leaf_rows.bindsN fun _ _ _ _ _ _ us hl => match us, hl with | [_, _], _ => rfl
theorem ok_Book_leaf_rows (T : Tx K mg) : FnOk P HasW.w K mg base CX0 4 (He.fAd K ("Book", some "leaf_rows")) T.fd_Book_leaf_rows ["self", "leaf"] (sp_Book_leaf_rows K) := by
  refine T.F_Book_leaf_rows.ok sc_Book_leaf_rows (fun vs H Q E h => len_Book_leaf_rows h) (fun cdv A outer s H vs Q E hr h => ⟨t_Book_leaf_rows K, PSs.nox ?_, pure_Book_leaf_rows h⟩)
  exact (pss_one (ps_ret (pe_ix ix_seq (pe_meth (pv 0) T.cl_Book T.me_Book_thing (ok_Book_thing T) (hr.mono (by decide)) (b_Book_thing T) .nil pass0 (pa_cons (pv 1) pa_nil)) pe_int (fun _ _ => rfl))))
theorem b_plain_price (T : Tx K mg) : Binds K T.fd_plain_price ["book", "leaf"] [] := T.F_plain_price.bindsN fun _ _ _ _ _ _ us hl => match us, hl with | [_, _], _ => rfl
theorem ok_plain_price (T : Tx K mg) : FnOk P HasW.w K mg base CX0 5 (He.fAd K ("plain_price", none)) T.fd_plain_price ["book", "leaf"] (sp_plain_price K) := by
  refine T.F_plain_price.ok sc_plain_price (fun vs H Q E h => len_plain_price h) (fun cdv A outer s H vs Q E hr h => ⟨t_plain_price K, PSs.nox ?_, pure_plain_price h⟩)
  exact (pss_one (ps_ret (pe_op op_mul (pe_glob (v := .int 2) (by rfl) T.c_PUT.choose_spec ⟨_, rfl⟩) (pe_callB call_len (by rfl) T.z_len PySem.boot_len (pa_cons (pe_meth (pv 0) T.cl_Book T.me_Book_leaf_rows (ok_Book_leaf_rows T) (hr.mono (by decide)) (b_Book_leaf_rows T) .nil pass0 (pa_cons (pv 1) pa_nil)) pa_nil)))))
theorem b_are_put (T : Tx K mg) : Binds K T.fd_are_put ["thing"] [] := T.F_are_put.bindsN fun _ _ _ _ _ _ us hl => match us, hl with | [_], _ => rfl
theorem ok_are_put (T : Tx K mg) : FnOk P HasW.w K mg base CX0 4 (He.fAd K ("are_put", none)) T.fd_are_put ["thing"] (sp_are_put K) := by
  refine T.F_are_put.ok sc_are_put (fun vs H Q E h => len_are_put h) (fun cdv A outer s H vs Q E hr h => ⟨t_are_put K, PSs.nox ?_, pure_are_put h⟩)
  exact (pss_one (ps_ret (pe_and (pe_callB call_isi (by rfl) T.z_isinstance (by decide +kernel) (pa_cons (pv 0) (pa_cons (pe_bltn (v := .ty "tuple") (by rfl) T.z_tuple (by decide +kernel) rfl) pa_nil))) (pe_and (pe_cmpR op_gt (pe_callB call_len (by rfl) T.z_len PySem.boot_len (pa_cons (pv 0) pa_nil)) pe_int (nomark _)) (pe_one (pe_callB (cr_all rfl) (by rfl) T.z_all (by decide +kernel) (pa_cons (pe_lc (own := [("row", 1)]) (g := (gName 1)) (tt := tYes) (te := (tCall (sp_is_row K) [] E0 (tCons (tVar 1) tNil))) rfl sc_are_put.nd (pi_tup (pv 0)) (blkOk_by (own := [("row", 1)]) (N := N_are_put) (sc := defScope s_are_put) (by decide +kernel)) (fun _ _ _ _ _ => (pg_name (i := 1) sc_are_put.nd rfl (Or.inl rfl))) (fun _ _ _ _ _ => pts_nil) (fun _ _ _ _ _ => (pe_call (ok_is_row T) (hr.mono (by decide)) (by rfl) T.g_is_row T.F_is_row.kp (b_is_row T) .nil pass0 (pa_cons (pv 1) pa_nil)))) pa_nil)))))))
theorem b_is_piece (T : Tx K mg) : Binds K T.fd_is_piece ["thing"] [] := T.F_is_piece.bindsN fun _ _ _ _ _ _ us hl => match us, hl with | [_], _ => rfl
theorem ok_is_piece (T : Tx K mg) : FnOk P HasW.w K mg base CX0 5 (He.fAd K ("is_piece", none)) T.fd_is_piece ["thing"] (sp_is_piece K) := by
  refine T.F_is_piece.ok sc_is_piece (fun vs H Q E h => len_is_piece h) (fun cdv A outer s H vs Q E hr h => ⟨t_is_piece K, PSs.nox ?_, pure_is_piece h⟩)
  exact (pss_cons (ps_if (PW.pt (pw_or (pt_not (pt_val (pe_callB call_isi (by rfl) T.z_isinstance (by decide +kernel) (pa_cons (pv 0) (pa_cons (pe_bltn (v := .ty "tuple") (by rfl) T.z_tuple (by decide +kernel) rfl) pa_nil))))) (pw_or1 (pt_cmpR op_eq (pe_callB call_len (by rfl) T.z_len PySem.boot_len (pa_cons (pv 0) pa_nil)) pe_int (nomark _))))) (pss_one (ps_ret pe_bl)) pss_nil)
      (pss_cons (ps_if (pt_cmpR op_eq (pe_ix ix_seq (pv 0) pe_int (fun _ _ => rfl)) pe_str (nomark _)) (pss_one (ps_ret (pe_and (pe_cmpR op_eq (pe_callB call_len (by rfl) T.z_len PySem.boot_len (pa_cons (pv 0) pa_nil)) pe_int (nomark _)) (pe_and (pe_call (ok_is_int T) (hr.mono (by decide)) (by rfl) T.g_is_int T.F_is_int.kp (b_is_int T) .nil pass0 (pa_cons (pe_ix ix_seq (pv 0) pe_int (fun _ _ => rfl)) pa_nil)) (pe_and (pe_call (ok_is_int T) (hr.mono (by decide)) (by rfl) T.g_is_int T.F_is_int.kp (b_is_int T) .nil pass0 (pa_cons (pe_ix ix_seq (pv 0) pe_int (fun _ _ => rfl)) pa_nil)) (pe_and (pe_cmpR op_ge (pe_ix ix_seq (pv 0) pe_int (fun _ _ => rfl)) pe_int (nomark _)) (pe_one (pe_cmpR op_ge (pe_ix ix_seq (pv 0) pe_int (fun _ _ => rfl)) pe_int (nomark _))))))))) pss_nil)
      (pss_one (ps_ret (pe_and (pe_cmpR op_eq (pe_ix ix_seq (pv 0) pe_int (fun _ _ => rfl)) pe_str (nomark _)) (pe_and (pe_call (ok_is_pair T) (hr.mono (by decide)) (by rfl) T.g_is_pair T.F_is_pair.kp (b_is_pair T) .nil pass0 (pa_cons (pv 0) pa_nil)) (pe_one (pe_call (ok_are_put T) (hr.mono (by decide)) (by rfl) T.g_are_put T.F_are_put.kp (b_are_put T) .nil pass0 (pa_cons (pe_ix ix_seq (pv 0) pe_int (fun _ _ => rfl)) pa_nil)))))))))
theorem b_rows_in (T : Tx K mg) : Binds K T.fd_rows_in ["piece"] [] := T.F_rows_in.bindsN fun _ _ _ _ _ _ us hl => match us, hl with | [_], _ => rfl
theorem ok_rows_in (T : Tx K mg) : FnOk P HasW.w K mg base CX0 1 (He.fAd K ("rows_in", none)) T.fd_rows_in ["piece"] (sp_rows_in K) := by
  refine T.F_rows_in.ok sc_rows_in (fun vs H Q E h => len_rows_in h) (fun cdv A outer s H vs Q E hr h => ⟨t_rows_in K, PSs.nox ?_, pure_rows_in h⟩)
  exact (pss_one (ps_ret (pe_ifExp (pt_cmpR op_eq (pe_ix ix_seq (pv 0) pe_int (fun _ _ => rfl)) pe_str (nomark _)) (pe_callB call_len (by rfl) T.z_len PySem.boot_len (pa_cons (pe_ix ix_seq (pv 0) pe_int (fun _ _ => rfl)) pa_nil)) (pe_ix ix_seq (pv 0) pe_int (fun _ _ => rfl)))))
theorem b_is_script (T : Tx K mg) : Binds K T.fd_is_script ["thing"] [] := T.F_is_script.bindsN fun _ _ _ _ _ _ us hl => match us, hl with | [_], _ => rfl
theorem ok_is_script (T : Tx K mg) : FnOk P HasW.w K mg base CX0 6 (He.fAd K ("is_script", none)) T.fd_is_script ["thing"] (sp_is_script K) := by
  refine T.F_is_script.ok sc_is_script (fun vs H Q E h => len_is_script h) (fun cdv A outer s H vs Q E hr h => ⟨t_is_script K, PSs.nox ?_, pure_is_script h⟩)
  exact (pss_cons (ps_if (PW.pt (pw_or (pt_not (pt_val (pe_callB call_isi (by rfl) T.z_isinstance (by decide +kernel) (pa_cons (pv 0) (pa_cons (pe_bltn (v := .ty "tuple") (by rfl) T.z_tuple (by decide +kernel) rfl) pa_nil))))) (pw_or1 (pt_not (pt_val (pe_callB (cr_all rfl) (by rfl) T.z_all (by decide +kernel) (pa_cons (pe_lc (own := [("piece", 1)]) (g := (gName 1)) (tt := tYes) (te := (tCall (sp_is_piece K) [] E0 (tCons (tVar 1) tNil))) rfl sc_is_script.nd (pi_tup (pv 0)) (blkOk_by (own := [("piece", 1)]) (N := N_is_script) (sc := defScope s_is_script) (by decide +kernel)) (fun _ _ _ _ _ => (pg_name (i := 1) sc_is_script.nd rfl (Or.inl rfl))) (fun _ _ _ _ _ => pts_nil) (fun _ _ _ _ _ => (pe_call (ok_is_piece T) (hr.mono (by decide)) (by rfl) T.g_is_piece T.F_is_piece.kp (b_is_piece T) .nil pass0 (pa_cons (pv 1) pa_nil)))) pa_nil))))))) (pss_one (ps_ret pe_bl)) pss_nil)
      (pss_one (ps_ret (pe_cmpR op_le (pe_callB (cr_sum rfl) (by rfl) T.z_sum (by decide +kernel) (pa_cons (pe_lc (own := [("piece", 1)]) (g := (gName 1)) (tt := tYes) (te := (tCall (sp_rows_in K) [] E0 (tCons (tVar 1) tNil))) rfl sc_is_script.nd (pi_tup (pv 0)) (blkOk_by (own := [("piece", 1)]) (N := N_is_script) (sc := defScope s_is_script) (by decide +kernel)) (fun _ _ _ _ _ => (pg_name (i := 1) sc_is_script.nd rfl (Or.inl rfl))) (fun _ _ _ _ _ => pts_nil) (fun _ _ _ _ _ => (pe_call (ok_rows_in T) (hr.mono (by decide)) (by rfl) T.g_rows_in T.F_rows_in.kp (b_rows_in T) .nil pass0 (pa_cons (pv 1) pa_nil)))) pa_nil)) (pe_glob (v := .int 40) (by rfl) T.c_MOST_ROWS.choose_spec ⟨_, rfl⟩) (nomark _)))))
theorem b_price (T : Tx K mg) : ∃ ds, Vals [V.int 3, V.int 2] ds ∧ Binds K T.fd_price ["script", "take", "put"] ds := T.F_price.binds0 1 (by simp) rfl fun _ _ _ _ _ _ us ks hu hk => match us, ks, hu, hk with | [_], [_, _], _, _ => ⟨_, _, _, _, _, _, rfl, rfl, _, _, _, _, _, _, rfl, rfl, rfl⟩
theorem ok_price (T : Tx K mg) : FnOk P HasW.w K mg base CX0 7 (He.fAd K ("price", none)) T.fd_price ["script", "take", "put"] (sp_price K) := by
  refine T.F_price.ok sc_price (fun vs H Q E h => len_price h) (fun cdv A outer s H vs Q E hr h => ⟨t_price K, PSs.nox ?_, pure_price h⟩)
  exact (pss_cons (ps_if (pt_not (pt_val (pe_call (ok_is_script T) (hr.mono (by decide)) (by rfl) T.g_is_script T.F_is_script.kp (b_is_script T) .nil pass0 (pa_cons (pv 0) pa_nil)))) (pss_one ps_never) pss_nil)
      (pss_one (ps_ret (pe_callB (cr_sum rfl) (by rfl) T.z_sum (by decide +kernel) (pa_cons (pe_lc (own := [("piece", 3)]) (g := (gName 3)) (tt := tYes) (te := (tIf (tTest (tOp rEq (tOp (rIx K) (tVar 3) (tC (.int 0))) (tC (.str "put")))) (tOp rMulI (tVar 2) (tCall (sp_rows_in K) [] E0 (tCons (tVar 3) tNil))) (tVar 1))) rfl sc_price.nd (pi_tup (pv 0)) (blkOk_by (own := [("piece", 3)]) (N := N_price) (sc := defScope s_price) (by decide +kernel)) (fun _ _ _ _ _ => (pg_name (i := 3) sc_price.nd rfl (Or.inl rfl))) (fun _ _ _ _ _ => pts_nil) (fun _ _ _ _ _ => (pe_ifExp (pt_cmpR op_eq (pe_ix ix_seq (pv 3) pe_int (fun _ _ => rfl)) pe_str (nomark _)) (pe_op op_mul (pv 2) (pe_call (ok_rows_in T) (hr.mono (by decide)) (by rfl) T.g_rows_in T.F_rows_in.kp (b_rows_in T) .nil pass0 (pa_cons (pv 3) pa_nil))) (pv 1)))) pa_nil)))))
theorem b_sending_price (T : Tx K mg) : Binds K T.fd_sending_price ["book", "triple", "over"] [] := T.F_sending_price.bindsN fun _ _ _ _ _ _ us hl => match us, hl with | [_, _, _], _ => rfl
theorem ok_sending_price (T : Tx K mg) : FnOk P HasW.w K mg base CX0 8 (He.fAd K ("sending_price", none)) T.fd_sending_price ["book", "triple", "over"] (sp_sending_price K) := by
  refine T.F_sending_price.ok sc_sending_price (fun vs H Q E h => len_sending_price h) (fun cdv A outer s H vs Q E hr h => ⟨t_sending_price K, PSs.nox ?_, pure_sending_price h⟩)
  exact (pss_cons (ps_asg (pv 1) (pg_tup rfl (pgs_cons (pg_name (i := 3) sc_sending_price.nd rfl (Or.inl rfl)) (pgs_cons (pg_name (i := 4) sc_sending_price.nd rfl (Or.inl rfl)) (pgs_cons (pg_name (i := 5) sc_sending_price.nd rfl (Or.inl rfl)) pgs_nil)))))
      (pss_one (ps_ret (pe_ifExp (pt_cmpR op_isN (pv 4) pe_non (nomark _)) (pe_call (ok_plain_price T) (hr.mono (by decide)) (by rfl) T.g_plain_price T.F_plain_price.kp (b_plain_price T) .nil pass0 (pa_cons (pv 0) (pa_cons (pv 3) pa_nil))) (pe_op op_add (pv 2) (pe_call (ok_price T) (hr.mono (by decide)) (by rfl) T.g_price T.F_price.kp (b_price T).choose_spec.2 (b_price T).choose_spec.1 pass0 (pa_cons (pv 5) pa_nil)))))))
theorem b_price_of (T : Tx K mg) : ∃ ds, Vals [V.int 2] ds ∧ Binds K T.fd_price_of ["book", "choice", "over"] ds := T.F_price_of.binds0 2 (by simp) rfl fun _ _ _ _ _ _ us ks hu hk => match us, ks, hu, hk with | [_, _], [_], _, _ => ⟨_, _, _, _, _, _, rfl, rfl, rfl⟩
theorem kb_price_of_over (T : Tx K mg) : ∃ mv : List Value, KBn K T.fd_price_of ["book", "choice", "over"] 2 ["over"] (fun us ws => us ++ ((ws.drop 0).take 1)) (fun us ws => (fun mv : List V => us ++ ((ws.drop 0).take 1)) []) :=
  T.F_price_of.kbinds0 2 ["over"] [] (fun us mv ws => us ++ ((ws.drop 0).take 1)) (by simp) (by simp) (fun r1 r2 r3 => r1.append ((r3.drop 0).take 1)) fun _ _ _ _ _ _ us mv ws hu hm hw => match us, mv, ws, hu, hm, hw with | [_, _], [], [_], _, _, _ => rfl
theorem ok_price_of (T : Tx K mg) : FnOk P HasW.w K mg base CX0 9 (He.fAd K ("price_of", none)) T.fd_price_of ["book", "choice", "over"] (sp_price_of K) := by
  refine T.F_price_of.ok sc_price_of (fun vs H Q E h => len_price_of h) (fun cdv A outer s H vs Q E hr h => ⟨t_price_of K, PSs.nox ?_, pure_price_of h⟩)
  exact (pss_one (ps_ret (pe_callB (cr_sum rfl) (by rfl) T.z_sum (by decide +kernel) (pa_cons (pe_lc (own := [("triple", 3)]) (g := (gName 3)) (tt := tYes) (te := (tCall (sp_sending_price K) [] E0 (tCons (tVar 0) (tCons (tVar 3) (tCons (tVar 2) tNil))))) rfl sc_price_of.nd (pi_tup (pv 1)) (blkOk_by (own := [("triple", 3)]) (N := N_price_of) (sc := defScope s_price_of) (by decide +kernel)) (fun _ _ _ _ _ => (pg_name (i := 3) sc_price_of.nd rfl (Or.inl rfl))) (fun _ _ _ _ _ => pts_nil) (fun _ _ _ _ _ => (pe_call (ok_sending_price T) (hr.mono (by decide)) (by rfl) T.g_sending_price T.F_sending_price.kp (b_sending_price T) .nil pass0 (pa_cons (pv 0) (pa_cons (pv 3) (pa_cons (pv 2) pa_nil)))))) pa_nil))))
theorem b_l_script_price (T : Tx K mg) : Binds K T.fd_l_script_price ["_law_script"] [] := T.F_l_script_price.bindsN fun _ _ _ _ _ _ us hl => match us, hl with | [_], _ => rfl
theorem ok_l_script_price (T : Tx K mg) : FnOk P HasW.w K mg base CX0 1 (He.fAd K ("_law_script_price", none)) T.fd_l_script_price ["_law_script"] (sp_l_script_price K) := by
  refine T.F_l_script_price.ok sc_l_script_price (fun vs H Q E h => len_l_script_price h) (fun cdv A outer s H vs Q E hr h => ⟨t_l_script_price K, PSs.nox ?_, pure_l_script_price h⟩)
  exact (pss_cons (ps_set (i := 1) sc_l_script_price.nd rfl (Or.inl rfl) pe_int)
      (pss_cons (ps_for PassesOwn.never rfl (pi_tup (pv 0)) (pg_name (i := 2) sc_l_script_price.nd rfl (Or.inl rfl)) (pss_one (ps_if (pt_cmpR op_eq (pe_ix ix_seq (pv 2) pe_int (fun _ _ => rfl)) pe_str (nomark _)) (pss_one (ps_set (i := 1) sc_l_script_price.nd rfl (Or.inl rfl) (pe_op op_add (pv 1) pe_int))) (pss_one (ps_set (i := 1) sc_l_script_price.nd rfl (Or.inl rfl) (pe_op op_add (pv 1) (pe_op op_mul pe_int (pe_callB call_len (by rfl) T.z_len PySem.boot_len (pa_cons (pe_ix ix_seq (pv 2) pe_int (fun _ _ => rfl)) pa_nil)))))))))
      (pss_one (ps_ret (pv 1)))))
theorem b_l_choice_price (T : Tx K mg) : Binds K T.fd_l_choice_price ["_law_things", "_law_choice", "_law_extra"] [] := T.F_l_choice_price.bindsN fun _ _ _ _ _ _ us hl => match us, hl with | [_, _, _], _ => rfl
theorem ok_l_choice_price (T : Tx K mg) : FnOk P HasW.w K mg base CX0 2 (He.fAd K ("_law_choice_price", none)) T.fd_l_choice_price ["_law_things", "_law_choice", "_law_extra"] (sp_l_choice_price K) := by
  refine T.F_l_choice_price.ok sc_l_choice_price (fun vs H Q E h => len_l_choice_price h) (fun cdv A outer s H vs Q E hr h => ⟨t_l_choice_price K, PSs.nox ?_, pure_l_choice_price h⟩)
  exact (pss_cons (ps_set (i := 3) sc_l_choice_price.nd rfl (Or.inl rfl) pe_int)
      (pss_cons (ps_for PassesOwn.never rfl (pi_tup (pv 1)) (pg_name (i := 4) sc_l_choice_price.nd rfl (Or.inl rfl)) (pss_one (ps_if (pt_cmpR op_isN (pe_ix ix_seq (pv 4) pe_int (fun _ _ => rfl)) pe_non (nomark _)) (pss_one (ps_set (i := 3) sc_l_choice_price.nd rfl (Or.inl rfl) (pe_op op_add (pv 3) (pe_op op_mul pe_int (pe_callB call_len (by rfl) T.z_len PySem.boot_len (pa_cons (pe_ix ix_seq (pe_ix ix_seq (pv 0) (pe_ix ix_seq (pv 4) pe_int (fun _ _ => rfl)) (fun _ _ => rfl)) pe_int (fun _ _ => rfl)) pa_nil)))))) (pss_one (ps_set (i := 3) sc_l_choice_price.nd rfl (Or.inl rfl) (pe_op op_add (pe_op op_add (pv 3) (pv 2)) (pe_call (ok_l_script_price T) (hr.mono (by decide)) (by rfl) T.g_l_script_price T.F_l_script_price.kp (b_l_script_price T) .nil pass0 (pa_cons (pe_ix ix_seq (pv 4) pe_int (fun _ _ => rfl)) pa_nil))))))))
      (pss_one (ps_ret (pv 3)))))
theorem b_row_price (T : Tx K mg) : Binds K T.fd_row_price ["book", "row"] [] := T.F_row_price.bindsN fun _ _ _ _ _ _ us hl => match us, hl with | [_, _], _ => rfl
theorem ok_row_price (T : Tx K mg) : FnOk P HasW.w K mg base CX0 8 (He.fAd K ("row_price", none)) T.fd_row_price ["book", "row"] (sp_row_price K) := by
  refine T.F_row_price.ok sc_row_price (fun vs H Q E h => len_row_price h) (fun cdv A outer s H vs Q E hr h => ⟨t_row_price K, PSs.nox ?_, pure_row_price h⟩)
  exact (pss_cons (ps_if (pt_cmpR op_eq (pe_ix ix_seq (pv 1) pe_int (fun _ _ => rfl)) pe_str (nomark _)) (pss_one (ps_ret (pe_op op_add (pe_glob (v := .int 2) (by rfl) T.c_OVER.choose_spec ⟨_, rfl⟩) (pe_call (ok_price T) (hr.mono (by decide)) (by rfl) T.g_price T.F_price.kp (b_price T).choose_spec.2 (b_price T).choose_spec.1 pass0 (pa_cons (pe_ix ix_seq (pv 1) pe_int (fun _ _ => rfl)) pa_nil))))) pss_nil)
      (pss_cons (ps_set (i := 2) sc_row_price.nd rfl (Or.inl rfl) (pe_ix ix_seq (pv 1) pe_int (fun _ _ => rfl)))
      (pss_one (ps_ret (pe_op op_mul (pe_glob (v := .int 2) (by rfl) T.c_PUT.choose_spec ⟨_, rfl⟩) (pe_op op_add (pe_callB call_len (by rfl) T.z_len PySem.boot_len (pa_cons (pe_ix ix_seq (pv 2) pe_int (fun _ _ => rfl)) pa_nil)) (pe_ifExp (pt_cmpR op_eq (pe_ix ix_seq (pv 2) pe_int (fun _ _ => rfl)) pe_str (nomark _)) pe_int pe_int)))))))
theorem b_law (T : Tx K mg) : Binds K T.fd_law ["_law_script"] [] := T.F_law.bindsN fun _ _ _ _ _ _ us hl => match us, hl with | [_], _ => rfl
theorem ok_law (T : Tx K mg) : FnOk P HasW.w K mg base CX0 10 (He.fAd K ("law", none)) T.fd_law ["_law_script"] (sp_law K) := by
  refine T.F_law.ok sc_law (fun vs H Q E h => len_law h) (fun cdv A outer s H vs Q E hr h => ⟨t_law K, PSs.nox ?_, pure_law T.kk h⟩)
  exact (pss_cons (ps_set (i := 1) sc_law.nd rfl (Or.inl rfl) (pe_call (ok_l_deck T) (hr.mono (by decide)) (by rfl) T.g_l_deck T.F_l_deck.kp (b_l_deck T) .nil pass0 (pa_cons (pv 0) pa_nil)))
      (pss_cons (ps_set (i := 2) sc_law.nd rfl (Or.inl rfl) (pe_call (ok_l_draw T) (hr.mono (by decide)) (by rfl) T.g_l_draw T.F_l_draw.kp (b_l_draw T) .nil pass0 (pa_cons (pv 1) (pa_cons pe_int pa_nil))))
      (pss_cons (ps_set (i := 3) sc_law.nd rfl (Or.inl rfl) (pe_call (ok_l_leaves T) (hr.mono (by decide)) (by rfl) T.g_l_leaves T.F_l_leaves.kp (b_l_leaves T) .nil pass0 (pa_cons (pv 1) (pa_cons pe_int pa_nil))))
      (pss_cons (ps_set (i := 4) sc_law.nd rfl (Or.inl rfl) (pe_call (ok_l_parted T) (hr.mono (by decide)) (by rfl) T.g_l_parted T.F_l_parted.kp (b_l_parted T) .nil pass0 (pa_cons (pv 1) (pa_cons (pv 3) pa_nil))))
      (pss_cons (ps_set (i := 5) sc_law.nd rfl (Or.inl rfl) (pe_call (ok_l_own_choice T) (hr.mono (by decide)) (by rfl) T.g_l_own_choice T.F_l_own_choice.kp (b_l_own_choice T) .nil pass0 (pa_cons (pv 1) (pa_cons (pv 3) (pa_cons (pe_ix ix_seq (pv 4) pe_int (fun _ _ => rfl)) (pa_cons (pe_ix ix_seq (pv 4) pe_int (fun _ _ => rfl)) pa_nil))))))
      (pss_cons (ps_set (i := 6) sc_law.nd rfl (Or.inl rfl) (pe_tup (pa_cons pe_str (pa_cons (pe_call (ok_l_entries T) (hr.mono (by decide)) (by rfl) T.g_l_entries T.F_l_entries.kp (b_l_entries T) .nil pass0 (pa_cons (pv 1) (pa_cons (pe_op op_cat (pe_listRg rfl (by rfl) T.z_list (prg_1 (by rfl) T.z_range (pe_callB call_len (by rfl) T.z_len PySem.boot_len (pa_cons (pv 3) pa_nil)))) (pe_lst (pa_cons pe_int pa_nil))) pa_nil))) pa_nil))))
      (pss_cons (ps_if (pt_cmpR op_eq (pe_callB call_len (by rfl) T.z_len PySem.boot_len (pa_cons (pv 3) pa_nil)) pe_int (nomark _)) (pss_one (ps_set (i := 6) sc_law.nd rfl (Or.inl rfl) (pe_tup (pa_cons pe_str (pa_cons (pe_tup pa_nil) pa_nil))))) pss_nil)
      (pss_cons (ps_set (i := 7) sc_law.nd rfl (Or.inr rfl) (pe_call (ok_l_give T) (hr.mono (by decide)) (by rfl) T.g_l_give T.F_l_give.kp (b_l_give T) .nil pass0 (pa_cons (pv 3) (pa_cons (pv 6) pa_nil))))
      (pss_cons (ps_setLc (i := 8) (own := [("_law_k", 9)]) (g := (gName 9)) (tt := tYes) (te := (tOp rAddI (tOp rAddI (tVar 7) (tC (.int 1))) (tVar 9))) rfl sc_law.nd rfl rfl (sw_true rfl rfl rfl (by decide +kernel)) (pi_range1 (by rfl) T.z_range (pa_cons (pe_call (ok_l_draw T) (hr.mono (by decide)) (by rfl) T.g_l_draw T.F_l_draw.kp (b_l_draw T) .nil pass0 (pa_cons (pv 1) (pa_cons pe_int pa_nil))) pa_nil)) (blkOk_by (own := [("_law_k", 9)]) (N := N_law) (sc := defScope s_law) (by decide +kernel)) (fun _ _ _ _ _ => (pg_name (i := 9) sc_law.nd rfl (Or.inl rfl))) (fun _ _ _ _ _ => pts_nil) (fun _ _ _ _ _ => (pe_op op_add (pe_op op_add (pv 7) pe_int) (pv 9))))
      (pss_cons (ps_for PassesOwn.never rfl (pi_list (pv 8)) (pg_name (i := 10) sc_law.nd rfl (Or.inl rfl)) (pss_one (ps_expr (pe_call (ok_l_give T) (hr.mono (by decide)) (by rfl) T.g_l_give T.F_l_give.kp (b_l_give T) .nil pass0 (pa_cons (pv 3) (pa_cons (pe_tup (pa_cons pe_str (pa_cons (pe_tup pa_nil) (pa_cons (pv 7) (pa_cons (pv 10) pa_nil))))) pa_nil))))))
      (pss_cons (ps_set (i := 11) sc_law.nd rfl (Or.inl rfl) (pe_call (ok_l_give T) (hr.mono (by decide)) (by rfl) T.g_l_give T.F_l_give.kp (b_l_give T) .nil pass0 (pa_cons (pv 3) (pa_cons (pe_tup (pa_cons pe_str (pa_cons (pe_callTy call_tuple_of (by rfl) T.z_tuple (by decide +kernel) (pa_cons (pv 8) pa_nil)) (pa_cons (pv 7) (pa_cons (pe_call (ok_l_draw T) (hr.mono (by decide)) (by rfl) T.g_l_draw T.F_l_draw.kp (b_l_draw T) .nil pass0 (pa_cons (pv 1) (pa_cons (pe_op op_add (pe_op op_pow pe_int pe_int) pe_int) pa_nil))) pa_nil))))) pa_nil))))
      (pss_cons (ps_set (i := 12) sc_law.nd rfl (Or.inl rfl) (pe_call (ok_l_book T) (hr.mono (by decide)) (by rfl) T.g_l_book T.F_l_book.kp (b_l_book T) .nil pass0 (pa_cons (pv 3) pa_nil)))
      (pss_cons (ps_if (pt_not (pt_val (pe_call (ok_l_same T) (hr.mono (by decide)) (by rfl) T.g_l_same T.F_l_same.kp (b_l_same T) .nil pass0 (pa_cons (pe_callN (n := 2) (ks := ["over"]) (ok_price_of T) (hr.mono (by decide)) (by rfl) T.g_price_of T.F_price_of.kp (kb_price_of_over T).choose_spec pass0 (pa_cons (pv 12) (pa_cons (pv 5) pa_nil)) (pk_cons (pv 2) pk_nil)) (pa_cons (pe_call (ok_l_choice_price T) (hr.mono (by decide)) (by rfl) T.g_l_choice_price T.F_l_choice_price.kp (b_l_choice_price T) .nil pass0 (pa_cons (pv 3) (pa_cons (pv 5) (pa_cons (pv 2) pa_nil)))) pa_nil))))) (pss_one (ps_ret pe_bl)) pss_nil)
      (pss_cons (ps_if (pt_not (pt_val (pe_call (ok_l_same T) (hr.mono (by decide)) (by rfl) T.g_l_same T.F_l_same.kp (b_l_same T) .nil pass0 (pa_cons (pe_call (ok_price_of T) (hr.mono (by decide)) (by rfl) T.g_price_of T.F_price_of.kp (b_price_of T).choose_spec.2 (b_price_of T).choose_spec.1 pass0 (pa_cons (pv 12) (pa_cons (pv 5) pa_nil))) (pa_cons (pe_call (ok_l_choice_price T) (hr.mono (by decide)) (by rfl) T.g_l_choice_price T.F_l_choice_price.kp (b_l_choice_price T) .nil pass0 (pa_cons (pv 3) (pa_cons (pv 5) (pa_cons pe_int pa_nil)))) pa_nil))))) (pss_one (ps_ret pe_bl)) pss_nil)
      (pss_cons (ps_for PassesOwn.never rfl (pi_tup (pv 5)) (pg_name (i := 13) sc_law.nd rfl (Or.inl rfl)) (pss_cons (ps_if (pt_cmpR op_isN (pe_ix ix_seq (pv 13) pe_int (fun _ _ => rfl)) pe_non (nomark _)) (pss_one (ps_set (i := 14) sc_law.nd rfl (Or.inl rfl) (pe_call (ok_row_price T) (hr.mono (by decide)) (by rfl) T.g_row_price T.F_row_price.kp (b_row_price T) .nil pass0 (pa_cons (pv 12) (pa_cons (pe_tup (pa_cons (pe_ix ix_seq (pv 13) pe_int (fun _ _ => rfl)) (pa_cons pe_str (pa_cons (pe_ix ix_seq (pv 3) (pe_ix ix_seq (pv 13) pe_int (fun _ _ => rfl)) (fun _ _ => rfl)) pa_nil)))) pa_nil))))) (pss_one (ps_set (i := 14) sc_law.nd rfl (Or.inl rfl) (pe_call (ok_row_price T) (hr.mono (by decide)) (by rfl) T.g_row_price T.F_row_price.kp (b_row_price T) .nil pass0 (pa_cons (pv 12) (pa_cons (pe_tup (pa_cons (pe_ix ix_seq (pv 13) pe_int (fun _ _ => rfl)) (pa_cons pe_str (pa_cons (pe_ix ix_seq (pv 13) pe_int (fun _ _ => rfl)) (pa_cons (pe_ix ix_seq (pv 13) pe_int (fun _ _ => rfl)) pa_nil))))) pa_nil))))))
      (pss_one (ps_if (pt_not (pt_val (pe_call (ok_l_same T) (hr.mono (by decide)) (by rfl) T.g_l_same T.F_l_same.kp (b_l_same T) .nil pass0 (pa_cons (pv 14) (pa_cons (pe_call (ok_l_choice_price T) (hr.mono (by decide)) (by rfl) T.g_l_choice_price T.F_l_choice_price.kp (b_l_choice_price T) .nil pass0 (pa_cons (pv 3) (pa_cons (pe_tup (pa_cons (pv 13) pa_nil)) (pa_cons pe_int pa_nil)))) pa_nil))))) (pss_one (ps_ret pe_bl)) pss_nil))))
      (pss_cons (ps_if (pt_not (pt_val (pe_call (ok_l_same T) (hr.mono (by decide)) (by rfl) T.g_l_same T.F_l_same.kp (b_l_same T) .nil pass0 (pa_cons (pe_call (ok_row_price T) (hr.mono (by decide)) (by rfl) T.g_row_price T.F_row_price.kp (b_row_price T) .nil pass0 (pa_cons (pv 12) (pa_cons (pe_tup (pa_cons (pv 7) (pa_cons pe_str (pa_cons (pe_ix ix_seq (pv 3) (pv 7) (fun _ _ => rfl)) pa_nil)))) pa_nil))) (pa_cons (pe_op op_mul pe_int (pe_callB call_len (by rfl) T.z_len PySem.boot_len (pa_cons (pe_ix ix_seq (pv 6) pe_int (fun _ _ => rfl)) pa_nil))) pa_nil))))) (pss_one (ps_ret pe_bl)) pss_nil)
      (pss_cons (ps_set (i := 15) sc_law.nd rfl (Or.inl rfl) (pe_op op_add (pe_op op_mul pe_int (pe_callB call_len (by rfl) T.z_len PySem.boot_len (pa_cons (pe_ix ix_seq (pe_ix ix_seq (pv 3) (pv 11) (fun _ _ => rfl)) pe_int (fun _ _ => rfl)) pa_nil))) pe_int))
      (pss_cons (ps_if (pt_not (pt_val (pe_call (ok_l_same T) (hr.mono (by decide)) (by rfl) T.g_l_same T.F_l_same.kp (b_l_same T) .nil pass0 (pa_cons (pe_call (ok_row_price T) (hr.mono (by decide)) (by rfl) T.g_row_price T.F_row_price.kp (b_row_price T) .nil pass0 (pa_cons (pv 12) (pa_cons (pe_tup (pa_cons (pv 11) (pa_cons pe_str (pa_cons (pe_ix ix_seq (pv 3) (pv 11) (fun _ _ => rfl)) pa_nil)))) pa_nil))) (pa_cons (pv 15) pa_nil))))) (pss_one (ps_ret pe_bl)) pss_nil)
      (pss_one (ps_ret (pe_call (ok_l_same T) (hr.mono (by decide)) (by rfl) T.g_l_same T.F_l_same.kp (b_l_same T) .nil pass0 (pa_cons (pe_tup (pa_cons (pe_glob (v := .int 2) (by rfl) T.c_OVER.choose_spec ⟨_, rfl⟩) (pa_cons (pe_glob (v := .int 3) (by rfl) T.c_TAKE.choose_spec ⟨_, rfl⟩) (pa_cons (pe_glob (v := .int 2) (by rfl) T.c_PUT.choose_spec ⟨_, rfl⟩) (pa_cons (pe_glob (v := .int 24) (by rfl) T.c_PACK.choose_spec ⟨_, rfl⟩) pa_nil))))) (pa_cons (pe_tup (pa_cons pe_int (pa_cons pe_int (pa_cons pe_int (pa_cons pe_int pa_nil))))) pa_nil)))))))))))))))))))))))
end
def d_l_deck : He.DefD := ⟨("_law_deck", none), "_law_deck", "_law_deck", defArgs s_l_deck, defBody s_l_deck, defScope s_l_deck, [], []⟩
def d_l_mixed : He.DefD := ⟨("_law_mixed", none), "_law_mixed", "_law_mixed", defArgs s_l_mixed, defBody s_l_mixed, defScope s_l_mixed, [], []⟩
def d_l_draw : He.DefD := ⟨("_law_draw", none), "_law_draw", "_law_draw", defArgs s_l_draw, defBody s_l_draw, defScope s_l_draw, [], []⟩
def d_l_text : He.DefD := ⟨("_law_text", none), "_law_text", "_law_text", defArgs s_l_text, defBody s_l_text, defScope s_l_text, [], []⟩
def d_l_rows : He.DefD := ⟨("_law_rows", none), "_law_rows", "_law_rows", defArgs s_l_rows, defBody s_l_rows, defScope s_l_rows, [], []⟩
def d_l_give : He.DefD := ⟨("_law_give", none), "_law_give", "_law_give", defArgs s_l_give, defBody s_l_give, defScope s_l_give, [], []⟩
def d_l_leaves : He.DefD := ⟨("_law_leaves", none), "_law_leaves", "_law_leaves", defArgs s_l_leaves, defBody s_l_leaves, defScope s_l_leaves, [], []⟩
def d_l_parted : He.DefD := ⟨("_law_parted", none), "_law_parted", "_law_parted", defArgs s_l_parted, defBody s_l_parted, defScope s_l_parted, [], []⟩
def d_l_own_script : He.DefD := ⟨("_law_own_script", none), "_law_own_script", "_law_own_script", defArgs s_l_own_script, defBody s_l_own_script, defScope s_l_own_script, [], []⟩
def d_l_own_choice : He.DefD := ⟨("_law_own_choice", none), "_law_own_choice", "_law_own_choice", defArgs s_l_own_choice, defBody s_l_own_choice, defScope s_l_own_choice, [], []⟩
def d_l_label : He.DefD := ⟨("_law_label", none), "_law_label", "_law_label", defArgs s_l_label, defBody s_l_label, defScope s_l_label, [], []⟩
def d_l_entries : He.DefD := ⟨("_law_entries", none), "_law_entries", "_law_entries", defArgs s_l_entries, defBody s_l_entries, defScope s_l_entries, [], []⟩
def d_Book_init : He.DefD := ⟨("Book", some "__init__"), "__init__", "Book.__init__", defArgs s_Book_init, defBody s_Book_init, defScope s_Book_init, [], []⟩
def d_is_sign : He.DefD := ⟨("is_sign", none), "is_sign", "is_sign", defArgs s_is_sign, defBody s_is_sign, defScope s_is_sign, [], []⟩
def d_is_text : He.DefD := ⟨("is_text", none), "is_text", "is_text", defArgs s_is_text, defBody s_is_text, defScope s_is_text, [], []⟩
def d_is_row : He.DefD := ⟨("is_row", none), "is_row", "is_row", defArgs s_is_row, defBody s_is_row, defScope s_is_row, [], []⟩
def d_is_rows : He.DefD := ⟨("is_rows", none), "is_rows", "is_rows", defArgs s_is_rows, defBody s_is_rows, defScope s_is_rows, [], []⟩
def d_is_pair : He.DefD := ⟨("is_pair", none), "is_pair", "is_pair", defArgs s_is_pair, defBody s_is_pair, defScope s_is_pair, [], []⟩
def d_is_label : He.DefD := ⟨("is_label", none), "is_label", "is_label", defArgs s_is_label, defBody s_is_label, defScope s_is_label, [], []⟩
def d_is_int : He.DefD := ⟨("is_int", none), "is_int", "is_int", defArgs s_is_int, defBody s_is_int, defScope s_is_int, [], []⟩
def d_is_entry : He.DefD := ⟨("is_entry", none), "is_entry", "is_entry", defArgs s_is_entry, defBody s_is_entry, defScope s_is_entry, [], []⟩
def d_rises : He.DefD := ⟨("rises", none), "rises", "rises", defArgs s_rises, defBody s_rises, defScope s_rises, [], []⟩
def d_is_entries : He.DefD := ⟨("is_entries", none), "is_entries", "is_entries", defArgs s_is_entries, defBody s_is_entries, defScope s_is_entries, [], []⟩
def d_is_ints : He.DefD := ⟨("is_ints", none), "is_ints", "is_ints", defArgs s_is_ints, defBody s_is_ints, defScope s_is_ints, [], []⟩
def d_is_rising : He.DefD := ⟨("is_rising", none), "is_rising", "is_rising", defArgs s_is_rising, defBody s_is_rising, defScope s_is_rising, [], []⟩
def d_is_stamp : He.DefD := ⟨("is_stamp", none), "is_stamp", "is_stamp", defArgs s_is_stamp, defBody s_is_stamp, defScope s_is_stamp, [], []⟩
def d_is_version_form : He.DefD := ⟨("is_version_form", none), "is_version_form", "is_version_form", defArgs s_is_version_form, defBody s_is_version_form, defScope s_is_version_form, [], []⟩
def d_is_content_form : He.DefD := ⟨("is_content_form", none), "is_content_form", "is_content_form", defArgs s_is_content_form, defBody s_is_content_form, defScope s_is_content_form, [], []⟩
def d_Book_is_name : He.DefD := ⟨("Book", some "is_name"), "is_name", "Book.is_name", defArgs s_Book_is_name, defBody s_Book_is_name, defScope s_Book_is_name, [], []⟩
def d_Book_has_kinds : He.DefD := ⟨("Book", some "has_kinds"), "has_kinds", "Book.has_kinds", defArgs s_Book_has_kinds, defBody s_Book_has_kinds, defScope s_Book_has_kinds, [], []⟩
def d_Book_depth : He.DefD := ⟨("Book", some "depth"), "depth", "Book.depth", defArgs s_Book_depth, defBody s_Book_depth, defScope s_Book_depth, [], []⟩
def d_Book_is_content : He.DefD := ⟨("Book", some "is_content"), "is_content", "Book.is_content", defArgs s_Book_is_content, defBody s_Book_is_content, defScope s_Book_is_content, [], []⟩
def d_Book_give_next : He.DefD := ⟨("Book", some "give_next"), "give_next", "Book.give_next", defArgs s_Book_give_next, defBody s_Book_give_next, defScope s_Book_give_next, [], []⟩
def d_Book_named : He.DefD := ⟨("Book", some "named"), "named", "Book.named", defArgs s_Book_named, defBody s_Book_named, defScope s_Book_named, [], []⟩
def d_l_book : He.DefD := ⟨("_law_book", none), "_law_book", "_law_book", defArgs s_l_book, defBody s_l_book, defScope s_l_book, [], []⟩
def d_l_int : He.DefD := ⟨("_law_int", none), "_law_int", "_law_int", defArgs s_l_int, defBody s_l_int, defScope s_l_int, [], []⟩
def d_l_same : He.DefD := ⟨("_law_same", none), "_law_same", "_law_same", defArgs s_l_same, defBody s_l_same, defScope s_l_same, [], []⟩
def d_Book_thing : He.DefD := ⟨("Book", some "thing"), "thing", "Book.thing", defArgs s_Book_thing, defBody s_Book_thing, defScope s_Book_thing, [], []⟩
def d_Book_leaf_rows : He.DefD := ⟨("Book", some "leaf_rows"), "leaf_rows", "Book.leaf_rows", defArgs s_Book_leaf_rows, defBody s_Book_leaf_rows, defScope s_Book_leaf_rows, [], []⟩
def d_plain_price : He.DefD := ⟨("plain_price", none), "plain_price", "plain_price", defArgs s_plain_price, defBody s_plain_price, defScope s_plain_price, [], []⟩
def d_are_put : He.DefD := ⟨("are_put", none), "are_put", "are_put", defArgs s_are_put, defBody s_are_put, defScope s_are_put, [], []⟩
def d_is_piece : He.DefD := ⟨("is_piece", none), "is_piece", "is_piece", defArgs s_is_piece, defBody s_is_piece, defScope s_is_piece, [], []⟩
def d_rows_in : He.DefD := ⟨("rows_in", none), "rows_in", "rows_in", defArgs s_rows_in, defBody s_rows_in, defScope s_rows_in, [], []⟩
def d_is_script : He.DefD := ⟨("is_script", none), "is_script", "is_script", defArgs s_is_script, defBody s_is_script, defScope s_is_script, [], []⟩
def d_price : He.DefD := ⟨("price", none), "price", "price", defArgs s_price, defBody s_price, defScope s_price, [], [("take", .int 3), ("put", .int 2)]⟩
def d_sending_price : He.DefD := ⟨("sending_price", none), "sending_price", "sending_price", defArgs s_sending_price, defBody s_sending_price, defScope s_sending_price, [], []⟩
def d_price_of : He.DefD := ⟨("price_of", none), "price_of", "price_of", defArgs s_price_of, defBody s_price_of, defScope s_price_of, [], [("over", .int 2)]⟩
def d_l_script_price : He.DefD := ⟨("_law_script_price", none), "_law_script_price", "_law_script_price", defArgs s_l_script_price, defBody s_l_script_price, defScope s_l_script_price, [], []⟩
def d_l_choice_price : He.DefD := ⟨("_law_choice_price", none), "_law_choice_price", "_law_choice_price", defArgs s_l_choice_price, defBody s_l_choice_price, defScope s_l_choice_price, [], []⟩
def d_row_price : He.DefD := ⟨("row_price", none), "row_price", "row_price", defArgs s_row_price, defBody s_row_price, defScope s_row_price, [], []⟩
def d_law : He.DefD := ⟨("law", none), "law", "law", defArgs s_law, defBody s_law, defScope s_law, [], []⟩
def fn : List He.DefD := [d_l_deck, d_l_mixed, d_l_draw, d_l_text, d_l_rows, d_l_give, d_l_leaves, d_l_parted, d_l_own_script, d_l_own_choice, d_l_label, d_l_entries, d_Book_init, d_is_sign, d_is_text, d_is_row, d_is_rows, d_is_pair, d_is_label, d_is_int, d_is_entry, d_rises, d_is_entries, d_is_ints, d_is_rising, d_is_stamp, d_is_version_form, d_is_content_form, d_Book_is_name, d_Book_has_kinds, d_Book_depth, d_Book_is_content, d_Book_give_next, d_Book_named, d_l_book, d_l_int, d_l_same, d_Book_thing, d_Book_leaf_rows, d_plain_price, d_are_put, d_is_piece, d_rows_in, d_is_script, d_price, d_sending_price, d_price_of, d_l_script_price, d_l_choice_price, d_row_price, d_law]
def fa : List He.Fa := [.glo "_law_deck", .glo "_law_mixed", .glo "_law_draw", .glo "_law_text", .glo "_law_rows", .glo "_law_give", .glo "_law_leaves", .glo "_law_parted", .glo "_law_own_script", .glo "_law_own_choice", .glo "_law_label", .glo "_law_entries", .glo "is_sign", .glo "is_text", .glo "is_row", .glo "is_rows", .glo "is_pair", .glo "is_label", .glo "is_int", .glo "is_entry", .glo "rises", .glo "is_entries", .glo "is_ints", .glo "is_rising", .glo "is_stamp", .glo "is_version_form", .glo "is_content_form", .glo "_law_book", .glo "_law_int", .glo "_law_same", .glo "plain_price", .glo "are_put", .glo "is_piece", .glo "rows_in", .glo "is_script", .glo "price", .glo "sending_price", .glo "price_of", .glo "_law_script_price", .glo "_law_choice_price", .glo "row_price", .glo "law", .free "all", .free "bool", .free "int", .free "isinstance", .free "len", .free "list", .free "max", .free "ord", .free "range", .free "sorted", .free "str", .free "sum", .free "tuple", .free "zip", .int "BARRED_SIGN" 37, .int "DEEPEST" 8, .int "LAST_STAMP" 1000000000000000000, .int "LONGEST_LABEL" 8, .int "MOST" 400, .int "MOST_ENTRIES" 20, .int "MOST_PARENTS" 4, .int "MOST_ROWS" 40, .int "MOST_SIGNS" 40, .int "OVER" 2, .int "PACK" 24, .int "PUT" 2, .int "TAKE" 3, .glo "Book", .cls "Book", .noat "Book" "contents", .noat "Book" "depths", .noat "Book" "given", .meth "Book" "is_name", .meth "Book" "has_kinds", .meth "Book" "depth", .meth "Book" "is_content", .meth "Book" "give_next", .meth "Book" "named", .meth "Book" "thing", .meth "Book" "leaf_rows", .mkr "Book"]
abbrev R : PySem.W.OpenRow := PySem.W.OpenLaw.row PySem.Challenge.rw_fewasks_k44_prices
abbrev hk : PySem.W.Hook := He.hookD 4 fa fn
def ob (s : PySem.W.SharedT) : He.AlD := He.obsDG 4 fa fn (HandSHeadRun.getT s)
theorem ob_eq (s : PySem.W.SharedT) : ob s = hk.obs s.abs := He.obsDG_eq (HandSHeadRun.getT_eq s)
def loose : List Str := [("_wall" : Str), ("HouseError" : Str), ("NoThing" : Str), ("NoName" : Str), ("TooMany" : Str), ("NoScript" : Str), ("is_int" : Str), ("is_text" : Str), ("is_sign" : Str), ("is_label" : Str), ("is_pair" : Str), ("rises" : Str), ("is_ints" : Str), ("is_rising" : Str), ("is_row" : Str), ("is_rows" : Str), ("is_entry" : Str), ("is_entries" : Str), ("is_stamp" : Str), ("is_version_form" : Str), ("is_content_form" : Str), ("is_script" : Str), ("is_piece" : Str), ("are_put" : Str), ("rows_in" : Str), ("price" : Str), ("price_of" : Str), ("sending_price" : Str), ("plain_price" : Str), ("Book" : Str), ("row_price" : Str), ("_law_deck" : Str), ("_law_mixed" : Str), ("_law_draw" : Str), ("_law_text" : Str), ("_law_label" : Str), ("_law_give" : Str), ("_law_rows" : Str), ("_law_entries" : Str), ("_law_book" : Str), ("_law_int" : Str), ("_law_same" : Str), ("_law_script_price" : Str), ("_law_leaves" : Str), ("_law_choice_price" : Str), ("_law_parted" : Str), ("_law_own_script" : Str), ("_law_own_choice" : Str), ("BARRED_SIGN" : Str), ("DEEPEST" : Str), ("LAST_STAMP" : Str), ("LONGEST_LABEL" : Str), ("MOST" : Str), ("MOST_ENTRIES" : Str), ("MOST_PARENTS" : Str), ("MOST_ROWS" : Str), ("MOST_SIGNS" : Str), ("OVER" : Str), ("PACK" : Str), ("PUT" : Str), ("TAKE" : Str)]
theorem run (w : World) : HandSHeadRun.RunEq R (PySem.W.view R.prog [68]) hk ob 4000 loose w := by
  intro os
  kernel_rfl
theorem facts {P : Program} {w : World} {K : PySem.W.Frag} {h : Heap} {mg : Str → Option Value} {f : Addr} (X : K.In h) (G : h.Ns mainGlobals mg) (hfa : mg ("law" : Str) = some (.ref f)) (c : He.SaysD fa fn K) :
    ∃ fd : FuncData, (∀ (s : Shared) (v : Value), BindsTo s fd ⟨[v], []⟩ [("_law_script", v)]) ∧ ∀ base : Heap, K.In base → base.Ns mainGlobals mg → FnOk P w K mg base CX0 10 f fd ["_law_script"] (sp_law K) := by
  obtain ⟨fd0, F0⟩ := c.def_ 0 (d := d_l_deck) rfl
  obtain ⟨fd1, F1⟩ := c.def_ 1 (d := d_l_mixed) rfl
  obtain ⟨fd2, F2⟩ := c.def_ 2 (d := d_l_draw) rfl
  obtain ⟨fd3, F3⟩ := c.def_ 3 (d := d_l_text) rfl
  obtain ⟨fd4, F4⟩ := c.def_ 4 (d := d_l_rows) rfl
  obtain ⟨fd5, F5⟩ := c.def_ 5 (d := d_l_give) rfl
  obtain ⟨fd6, F6⟩ := c.def_ 6 (d := d_l_leaves) rfl
  obtain ⟨fd7, F7⟩ := c.def_ 7 (d := d_l_parted) rfl
  obtain ⟨fd8, F8⟩ := c.def_ 8 (d := d_l_own_script) rfl
  obtain ⟨fd9, F9⟩ := c.def_ 9 (d := d_l_own_choice) rfl
  obtain ⟨fd10, F10⟩ := c.def_ 10 (d := d_l_label) rfl
  obtain ⟨fd11, F11⟩ := c.def_ 11 (d := d_l_entries) rfl
  obtain ⟨fd12, F12⟩ := c.def_ 12 (d := d_Book_init) rfl
  obtain ⟨fd13, F13⟩ := c.def_ 13 (d := d_is_sign) rfl
  obtain ⟨fd14, F14⟩ := c.def_ 14 (d := d_is_text) rfl
  obtain ⟨fd15, F15⟩ := c.def_ 15 (d := d_is_row) rfl
  obtain ⟨fd16, F16⟩ := c.def_ 16 (d := d_is_rows) rfl
  obtain ⟨fd17, F17⟩ := c.def_ 17 (d := d_is_pair) rfl
  obtain ⟨fd18, F18⟩ := c.def_ 18 (d := d_is_label) rfl
  obtain ⟨fd19, F19⟩ := c.def_ 19 (d := d_is_int) rfl
  obtain ⟨fd20, F20⟩ := c.def_ 20 (d := d_is_entry) rfl
  obtain ⟨fd21, F21⟩ := c.def_ 21 (d := d_rises) rfl
  obtain ⟨fd22, F22⟩ := c.def_ 22 (d := d_is_entries) rfl
  obtain ⟨fd23, F23⟩ := c.def_ 23 (d := d_is_ints) rfl
  obtain ⟨fd24, F24⟩ := c.def_ 24 (d := d_is_rising) rfl
  obtain ⟨fd25, F25⟩ := c.def_ 25 (d := d_is_stamp) rfl
  obtain ⟨fd26, F26⟩ := c.def_ 26 (d := d_is_version_form) rfl
  obtain ⟨fd27, F27⟩ := c.def_ 27 (d := d_is_content_form) rfl
  obtain ⟨fd28, F28⟩ := c.def_ 28 (d := d_Book_is_name) rfl
  obtain ⟨fd29, F29⟩ := c.def_ 29 (d := d_Book_has_kinds) rfl
  obtain ⟨fd30, F30⟩ := c.def_ 30 (d := d_Book_depth) rfl
  obtain ⟨fd31, F31⟩ := c.def_ 31 (d := d_Book_is_content) rfl
  obtain ⟨fd32, F32⟩ := c.def_ 32 (d := d_Book_give_next) rfl
  obtain ⟨fd33, F33⟩ := c.def_ 33 (d := d_Book_named) rfl
  obtain ⟨fd34, F34⟩ := c.def_ 34 (d := d_l_book) rfl
  obtain ⟨fd35, F35⟩ := c.def_ 35 (d := d_l_int) rfl
  obtain ⟨fd36, F36⟩ := c.def_ 36 (d := d_l_same) rfl
  obtain ⟨fd37, F37⟩ := c.def_ 37 (d := d_Book_thing) rfl
  obtain ⟨fd38, F38⟩ := c.def_ 38 (d := d_Book_leaf_rows) rfl
  obtain ⟨fd39, F39⟩ := c.def_ 39 (d := d_plain_price) rfl
  obtain ⟨fd40, F40⟩ := c.def_ 40 (d := d_are_put) rfl
  obtain ⟨fd41, F41⟩ := c.def_ 41 (d := d_is_piece) rfl
  obtain ⟨fd42, F42⟩ := c.def_ 42 (d := d_rows_in) rfl
  obtain ⟨fd43, F43⟩ := c.def_ 43 (d := d_is_script) rfl
  obtain ⟨fd44, F44⟩ := c.def_ 44 (d := d_price) rfl
  obtain ⟨fd45, F45⟩ := c.def_ 45 (d := d_sending_price) rfl
  obtain ⟨fd46, F46⟩ := c.def_ 46 (d := d_price_of) rfl
  obtain ⟨fd47, F47⟩ := c.def_ 47 (d := d_l_script_price) rfl
  obtain ⟨fd48, F48⟩ := c.def_ 48 (d := d_l_choice_price) rfl
  obtain ⟨fd49, F49⟩ := c.def_ 49 (d := d_row_price) rfl
  obtain ⟨fd50, F50⟩ := c.def_ 50 (d := d_law) rfl
  letI : HasW := ⟨w⟩
  have e := hfa.symm.trans (He.glo_ok X G (c.fact 41 (f := .glo "law") rfl))
  cases e
  have b := FunD.bindsA (ps := ["_law_script"]) F50 fun _ _ _ _ _ _ us hl => match us, hl with | [_], _ => rfl
  exact ⟨fd50, fun s v => b s [v] rfl, fun base _ _ => ok_law (⟨fd0, F0, (He.glo_ok X G (c.fact 0 (f := .glo "_law_deck") rfl)), fd1, F1, (He.glo_ok X G (c.fact 1 (f := .glo "_law_mixed") rfl)), fd2, F2, (He.glo_ok X G (c.fact 2 (f := .glo "_law_draw") rfl)), fd3, F3, (He.glo_ok X G (c.fact 3 (f := .glo "_law_text") rfl)), fd4, F4, (He.glo_ok X G (c.fact 4 (f := .glo "_law_rows") rfl)), fd5, F5, (He.glo_ok X G (c.fact 5 (f := .glo "_law_give") rfl)), fd6, F6, (He.glo_ok X G (c.fact 6 (f := .glo "_law_leaves") rfl)), fd7, F7, (He.glo_ok X G (c.fact 7 (f := .glo "_law_parted") rfl)), fd8, F8, (He.glo_ok X G (c.fact 8 (f := .glo "_law_own_script") rfl)), fd9, F9, (He.glo_ok X G (c.fact 9 (f := .glo "_law_own_choice") rfl)), fd10, F10, (He.glo_ok X G (c.fact 10 (f := .glo "_law_label") rfl)), fd11, F11, (He.glo_ok X G (c.fact 11 (f := .glo "_law_entries") rfl)), fd12, F12, fd13, F13, (He.glo_ok X G (c.fact 12 (f := .glo "is_sign") rfl)), fd14, F14, (He.glo_ok X G (c.fact 13 (f := .glo "is_text") rfl)), fd15, F15, (He.glo_ok X G (c.fact 14 (f := .glo "is_row") rfl)), fd16, F16, (He.glo_ok X G (c.fact 15 (f := .glo "is_rows") rfl)), fd17, F17, (He.glo_ok X G (c.fact 16 (f := .glo "is_pair") rfl)), fd18, F18, (He.glo_ok X G (c.fact 17 (f := .glo "is_label") rfl)), fd19, F19, (He.glo_ok X G (c.fact 18 (f := .glo "is_int") rfl)), fd20, F20, (He.glo_ok X G (c.fact 19 (f := .glo "is_entry") rfl)), fd21, F21, (He.glo_ok X G (c.fact 20 (f := .glo "rises") rfl)), fd22, F22, (He.glo_ok X G (c.fact 21 (f := .glo "is_entries") rfl)), fd23, F23, (He.glo_ok X G (c.fact 22 (f := .glo "is_ints") rfl)), fd24, F24, (He.glo_ok X G (c.fact 23 (f := .glo "is_rising") rfl)), fd25, F25, (He.glo_ok X G (c.fact 24 (f := .glo "is_stamp") rfl)), fd26, F26, (He.glo_ok X G (c.fact 25 (f := .glo "is_version_form") rfl)), fd27, F27, (He.glo_ok X G (c.fact 26 (f := .glo "is_content_form") rfl)), fd28, F28, fd29, F29, fd30, F30, fd31, F31, fd32, F32, fd33, F33, fd34, F34, (He.glo_ok X G (c.fact 27 (f := .glo "_law_book") rfl)), fd35, F35, (He.glo_ok X G (c.fact 28 (f := .glo "_law_int") rfl)), fd36, F36, (He.glo_ok X G (c.fact 29 (f := .glo "_law_same") rfl)), fd37, F37, fd38, F38, fd39, F39, (He.glo_ok X G (c.fact 30 (f := .glo "plain_price") rfl)), fd40, F40, (He.glo_ok X G (c.fact 31 (f := .glo "are_put") rfl)), fd41, F41, (He.glo_ok X G (c.fact 32 (f := .glo "is_piece") rfl)), fd42, F42, (He.glo_ok X G (c.fact 33 (f := .glo "rows_in") rfl)), fd43, F43, (He.glo_ok X G (c.fact 34 (f := .glo "is_script") rfl)), fd44, F44, (He.glo_ok X G (c.fact 35 (f := .glo "price") rfl)), fd45, F45, (He.glo_ok X G (c.fact 36 (f := .glo "sending_price") rfl)), fd46, F46, (He.glo_ok X G (c.fact 37 (f := .glo "price_of") rfl)), fd47, F47, (He.glo_ok X G (c.fact 38 (f := .glo "_law_script_price") rfl)), fd48, F48, (He.glo_ok X G (c.fact 39 (f := .glo "_law_choice_price") rfl)), fd49, F49, (He.glo_ok X G (c.fact 40 (f := .glo "row_price") rfl)), fd50, F50, (He.free_ok X G (c.fact 42 (f := .free "all") rfl)), (He.free_ok X G (c.fact 43 (f := .free "bool") rfl)), (He.free_ok X G (c.fact 44 (f := .free "int") rfl)), (He.free_ok X G (c.fact 45 (f := .free "isinstance") rfl)), (He.free_ok X G (c.fact 46 (f := .free "len") rfl)), (He.free_ok X G (c.fact 47 (f := .free "list") rfl)), (He.free_ok X G (c.fact 48 (f := .free "max") rfl)), (He.free_ok X G (c.fact 49 (f := .free "ord") rfl)), (He.free_ok X G (c.fact 50 (f := .free "range") rfl)), (He.free_ok X G (c.fact 51 (f := .free "sorted") rfl)), (He.free_ok X G (c.fact 52 (f := .free "str") rfl)), (He.free_ok X G (c.fact 53 (f := .free "sum") rfl)), (He.free_ok X G (c.fact 54 (f := .free "tuple") rfl)), (He.free_ok X G (c.fact 55 (f := .free "zip") rfl)), (He.int_ok X G (c.fact 56 (f := .int "BARRED_SIGN" 37) rfl)), (He.int_ok X G (c.fact 57 (f := .int "DEEPEST" 8) rfl)), (He.int_ok X G (c.fact 58 (f := .int "LAST_STAMP" 1000000000000000000) rfl)), (He.int_ok X G (c.fact 59 (f := .int "LONGEST_LABEL" 8) rfl)), (He.int_ok X G (c.fact 60 (f := .int "MOST" 400) rfl)), (He.int_ok X G (c.fact 61 (f := .int "MOST_ENTRIES" 20) rfl)), (He.int_ok X G (c.fact 62 (f := .int "MOST_PARENTS" 4) rfl)), (He.int_ok X G (c.fact 63 (f := .int "MOST_ROWS" 40) rfl)), (He.int_ok X G (c.fact 64 (f := .int "MOST_SIGNS" 40) rfl)), (He.int_ok X G (c.fact 65 (f := .int "OVER" 2) rfl)), (He.int_ok X G (c.fact 66 (f := .int "PACK" 24) rfl)), (He.int_ok X G (c.fact 67 (f := .int "PUT" 2) rfl)), (He.int_ok X G (c.fact 68 (f := .int "TAKE" 3) rfl)), (He.glo_ok X G (c.fact 69 (f := .glo "Book") rfl)), (He.cls_ok (c.fact 70 (f := .cls "Book") rfl)), (He.noat_ok (c.fact 71 (f := .noat "Book" "contents") rfl)), (He.noat_ok (c.fact 72 (f := .noat "Book" "depths") rfl)), (He.noat_ok (c.fact 73 (f := .noat "Book" "given") rfl)), (He.meth_ok (c.fact 74 (f := .meth "Book" "is_name") rfl)), (He.meth_ok (c.fact 75 (f := .meth "Book" "has_kinds") rfl)), (He.meth_ok (c.fact 76 (f := .meth "Book" "depth") rfl)), (He.meth_ok (c.fact 77 (f := .meth "Book" "is_content") rfl)), (He.meth_ok (c.fact 78 (f := .meth "Book" "give_next") rfl)), (He.meth_ok (c.fact 79 (f := .meth "Book" "named") rfl)), (He.meth_ok (c.fact 80 (f := .meth "Book" "thing") rfl)), (He.meth_ok (c.fact 81 (f := .meth "Book" "leaf_rows") rfl)), (He.mkr_ok (c.fact 82 (f := .mkr "Book") rfl))⟩ : Tx K mg)⟩
end K44
open PySem PySem.W PySem.Calls PyProof.Rows
set_option maxRecDepth 100000 in
set_option maxHeartbeats 0 in
theorem PySem.Challenge.cw_fewasks_k44_prices_holds : PySem.Challenge.rw_fewasks_k44_prices.Holds := by
  w_on; o_law
  refine HandSHeadRun.head_any (r := OpenLaw.row PySem.Challenge.rw_fewasks_k44_prices) (q := view (OpenLaw.row PySem.Challenge.rw_fewasks_k44_prices).prog [68]) (H := K44.hk) (ob := K44.ob) (M := 4000) (loose := K44.loose) (d := HandSHeadRun.topDef (OpenLaw.row PySem.Challenge.rw_fewasks_k44_prices).prog 68) (kwd := []) K44.ob_eq
    (by kernel_rfl) (fun s => by kernel_rfl) K44.run (by kernel_rfl) (by kernel_rfl) (by kernel_rfl) (by rfl) (by first | assumption | decide +kernel) (by decide +kernel) ⟨rfl, rfl, rfl, rfl, rfl, by decide +kernel⟩ ?hw ?hc
  case hw => w_witness2
  case hc =>
    refine L2.walk_ofE (l := PySem.Challenge.rw_fewasks_k44_prices) (n := 63) (k := 10) (x := "_law_script") (CX := L2.CX0) rfl (by decide) (by kernel_rfl) ⟨rfl, by decide, by decide⟩ ?F (fun _ _ _ _ z => z)
    intro w mg fa h Y G hmg0
    obtain ⟨K, KX, c⟩ := Y
    have hmg : mg ("law" : PySem.Str) = some (.ref fa) := by
      have e : (HandSHeadRun.topDef (OpenLaw.row PySem.Challenge.rw_fewasks_k44_prices).prog 68).name = ("law" : PySem.Str) := by kernel_rfl
      rw [← e]
      exact hmg0
    obtain ⟨fd, hb, hF⟩ := K44.facts (P := (PySem.Challenge.rw_fewasks_k44_prices).prog) (w := w) KX G hmg c
    exact ⟨K, fd, Fw.sp_law K, KX, hb, fun H a ns hl _ hS => ⟨a, ns, rfl, hS, hl, fun _ => rfl⟩, hF⟩
