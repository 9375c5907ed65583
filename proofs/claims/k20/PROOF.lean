import PyProof.Rows.All
import Wide.All
import OpenK.AllK
import Wide.FinOn
import KE.KStateDown
import HandS.ForMost
import HandS.IsInst
import HandS.Conv
import HandS.Wide
import HandS.WideBits
import HandS.SortInts
import HandS.DictComp
import HandS.Zip
import HandS.Rev
import HandS.Flow
import HandS.Steps
import HandS.Defaults
import HandS.Head0
import HandS.Head1
import HandS.Head2
import HandS.HeadEnd
import HandS.HeadHook1
import HandS.HeadHook2
import HandS.TupAny
import HandS.TupLe
import HandS.Style
import HandS.SortKw
import HandS.More
import HandS.Walk
import HandS.Deep
import HandS.MakeKwOnly
import PySem.Challenge.RW_fewasks_k20_whole_few_asks
set_option Elab.async false
set_option linter.all false
set_option maxRecDepth 100000
set_option maxHeartbeats 4000000
namespace Fw
open PySem L2 RZ RT
/-! ### readings by name -/
abbrev rAddI : R2 := rI0 fun i j => .int (i + j)
abbrev rSubI : R2 := rI0 fun i j => .int (i - j)
abbrev rMulI : R2 := rI CMul fun i j => .int (i * j)
abbrev rDivI : R2 := rI CDivW fun i j => .int (i / j)
abbrev rModI : R2 := rI (fun _ j => 0 < j) fun i j => .int (i % j)
abbrev rPowI : R2 := rI CPow fun i j => .int (i ^ j.toNat)
abbrev rLtI : R2 := rI0 fun i j => .bl (decide (i < j))
abbrev rLeI : R2 := rI0 fun i j => .bl (decide (i ≤ j))
abbrev rGtI : R2 := rI0 fun i j => .bl (decide (j < i))
abbrev rGeI : R2 := rI0 fun i j => .bl (decide (j ≤ i))
abbrev rNegI : V → Hp → VK → Prop := rU fun i => .int (-i)
abbrev fIsN : R2 := fun x y H Q => y = .non ∧ Q (.bl (decide (x = .non))) H
abbrev fNotN : R2 := fun x y H Q => y = .non ∧ Q (.bl (!decide (x = .non))) H
def fLen (K : PySem.W.Frag) : List V → Hp → VK → Prop := fun xs H Q => ∃ x n, xs = [x] ∧ LenV K x H n ∧ Q (.int n) H
def fListOf (K : PySem.W.Frag) : List V → Hp → VK → Prop := fun xs H Q => ∃ p ys, xs = [.ref p] ∧ (SqL K H p ys ∨ SqT K H p ys) ∧ ∀ l, H l = none → Q (.ref l) (upd H l (.lst ys))
def fTupleOf (K : PySem.W.Frag) : List V → Hp → VK → Prop := fun xs H Q => ∃ p ys, xs = [.ref p] ∧ ((SqL K H p ys ∧ ∀ l, H l = none → Q (.ref l) (upd H l (.tup ys))) ∨ (SqT K H p ys ∧ Q (.ref p) H))
def fMin2 : List V → Hp → VK → Prop := fun xs H Q => ∃ i j, xs = [.int i, .int j] ∧ Q (.int (if j < i then j else i)) H
def fMax2 : List V → Hp → VK → Prop := fun xs H Q => ∃ i j, xs = [.int i, .int j] ∧ Q (.int (if j > i then j else i)) H
/-! ### steps -/
section
variable {K : PySem.W.Frag} {H : Hp} {p : Addr} {xs : List V} {i : Int} {v : V} {Q : VK}
theorem ixL (h : H p = some (.lst xs)) (ha : atI xs i = some v) (q : Q v H) : rIx K (.ref p) (.int i) H Q := .inl ⟨p, xs, i, v, rfl, rfl, .inl (.inl h), ha, q⟩
theorem ixT (h : H p = some (.tup xs)) (ha : atI xs i = some v) (q : Q v H) : rIx K (.ref p) (.int i) H Q := .inr (.inl ⟨p, xs, i, v, rfl, rfl, .inl (.inl h), ha, q⟩)
theorem lenL {σ : L2.St} (h : H p = some (.lst xs)) (q : Q (.int xs.length) H) : tNil σ H fun ys H2 => fLen K (.ref p :: ys) H2 Q := ⟨_, _, rfl, .inl ⟨xs, .inl (.inl h), rfl⟩, q⟩
theorem lenT {σ : L2.St} (h : H p = some (.tup xs)) (q : Q (.int xs.length) H) : tNil σ H fun ys H2 => fLen K (.ref p :: ys) H2 Q := ⟨_, _, rfl, .inr ⟨xs, .inl (.inl h), rfl⟩, q⟩
theorem sqL (h : H p = some (.lst xs)) : SqL K H p xs := .inl (.inl h)
theorem sqT (h : H p = some (.tup xs)) : SqT K H p xs := .inl (.inl h)
end
theorem updS {H : Hp} {a : Addr} {o : HO} : upd H a o a = some o := upd_same
theorem updN {H : Hp} {a b : Addr} {o : HO} {r : Option HO} (n : b ≠ a) (h : H b = r) : upd H a o b = r := by rw [upd_ne n]; exact h
theorem small100 {m : Int} (h : m.natAbs ≤ 1000000000000000000) : m.natAbs < 2 ^ 100 := Nat.lt_of_le_of_lt h (by decide)
/-- the number in a slot, as a measure -/
def slotN (k : Nat) (σ : L2.St) : Nat := match σ[k]? with
  | some (some (V.int n)) => n.toNat
  | _ => 0
theorem getLastD_of {l : List V} (h : l ≠ []) : l.getLastD .non = l.getLast h := by
  rw [List.getLastD_eq_getLast?, List.getLast?_eq_getLast h]
  rfl
theorem pow18 : (10 : Int) ^ (18 : Int).toNat = 1000000000000000000 := by decide
/-! ### the deck of a law -/
/-- the deck at D: the cells at c, the turn at most t -/
def Dk (c D : Addr) (ns : List Int) (t : Nat) (H : Hp) : Prop := c ≠ D ∧ H c = some (.lst (ns.map V.int)) ∧ ns.length ≤ 63 ∧
  ∃ i n u : Int, H D = some (.lst [.ref c, .int i, .int n, .int u]) ∧ 0 ≤ i ∧ i ≤ ns.length ∧ 0 ≤ n ∧ 0 ≤ u ∧ u ≤ t
def sp_l_deck (K : PySem.W.Frag) : Sp := fun vs H Q _ => ∃ (a : Addr) (ns : List Int), vs = [.ref a] ∧ SqL K H a (ns.map V.int) ∧ ns.length ≤ 63 ∧
  ∀ c D H', Same H H' → H c = none → H D = none → Dk c D ns 0 H' → Q (.ref D) H'
def sp_l_mixed (_ : PySem.W.Frag) : Sp := fun vs H Q _ => ∃ (c t : Int), vs = [.int c, .int t] ∧ 0 ≤ t ∧ t ≤ 1000000000 ∧ ∀ v : Int, Q (.int v) H
def sp_l_draw (_ : PySem.W.Frag) : Sp := fun vs H Q _ => ∃ (c D : Addr) (ns : List Int) (t : Nat) (m : Int), vs = [.ref D, .int m] ∧ Dk c D ns t H ∧ t < 1000000000 ∧ 0 < m ∧ m.natAbs < 2 ^ 100 ∧
  ∀ (v : Int) (H' : Hp), 0 ≤ v → v < m → Dk c D ns (t + 1) H' → (∀ b, b ≠ D → H' b = H b) → Q (.int v) H'
def sp_l_int (_ : PySem.W.Frag) : Sp := fun vs H Q _ => ∃ i : Int, vs = [.int i] ∧ Q (.bl true) H
abbrev N_l_deck : List Str := ["_law_script"]
def t_l_deck (K : PySem.W.Frag) : TS := (tRet (tLst (tCons (tCB (fListOf K) (tCons (tVar 0) tNil)) (tCons (tC (.int 0)) (tCons (tC (.int 0)) (tCons (tC (.int 0)) tNil))))))
abbrev N_l_mixed : List Str := ["_law_cell", "_law_turn"]
def t_l_mixed (K : PySem.W.Frag) : TS := (tRet (tOp rModI (tOp rPowI (tOp rAddI (tOp rAddI (tOp rModI (tVar 0) (tC (.int 2147483629))) (tOp rMulI (tVar 1) (tC (.int 1000003)))) (tC (.int 17))) (tC (.int 5))) (tC (.int 2147483647))))
abbrev N_l_draw : List Str := ["_law_deck_here", "_law_many", "_law_cells", "_law_found", "_law_number"]
def t_l_draw_in (K : PySem.W.Frag) : TS := (tSeq (tIfS (tTest (tOp rLtI (tOp (rIx K) (tVar 2) (tOp rSubI (tOp (rIx K) (tVar 0) (tC (.int 1))) (tC (.int 1)))) (tOp rPowI (tC (.int 10)) (tC (.int 18))))) (tRet (tOp rModI (tCall (sp_l_mixed K) [] E0 (tCons (tOp (rIx K) (tVar 2) (tOp rSubI (tOp (rIx K) (tVar 0) (tC (.int 1))) (tC (.int 1)))) (tCons (tOp (rIx K) (tVar 0) (tC (.int 3))) tNil))) (tVar 1))) tNext)
    (tAsg (tOp (rIx K) (tVar 2) (tOp rSubI (tOp (rIx K) (tVar 0) (tC (.int 1))) (tC (.int 1)))) (gSub (tVar 0) (tC (.int 2)) rSetL)))
def t_l_draw_last (K : PySem.W.Frag) : TS := (tRet (tOp rModI (tCall (sp_l_mixed K) [] E0 (tCons (tVar 4) (tCons (tOp (rIx K) (tVar 0) (tC (.int 3))) tNil))) (tVar 1)))
def t_l_draw_rest (K : PySem.W.Frag) : TS := (tSeq (tIfS (tTest (tOp rGtI (tOp (rIx K) (tVar 0) (tC (.int 2))) (tC (.int 0)))) (tSeq (tAsg (tOp rModI (tOp (rIx K) (tVar 0) (tC (.int 2))) (tVar 1)) (gName 3))
    (tSeq (tAsg (tOp rDivI (tOp (rIx K) (tVar 0) (tC (.int 2))) (tVar 1)) (gSub (tVar 0) (tC (.int 2)) rSetL))
    (tRet (tVar 3)))) tNext)
    (tSeq (tAsg (tOp rMulI (tOp (rIx K) (tVar 0) (tC (.int 3))) (tC (.int 48271))) (gName 4))
    (tSeq (tIfS (tTest (tOp rGtI (tCB (fLen K) (tCons (tVar 2) tNil)) (tC (.int 0)))) (tAsg (tOp rAddI (tVar 4) (tOp rModI (tOp (rIx K) (tVar 2) (tOp rModI (tOp rMulI (tOp (rIx K) (tVar 0) (tC (.int 3))) (tC (.int 7))) (tCB (fLen K) (tCons (tVar 2) tNil)))) (tC (.int 2147483629)))) (gName 4)) tNext)
    (t_l_draw_last K))))
def t_l_draw_mid (K : PySem.W.Frag) : TS := (tSeq (tIfS (tAnd (tTest (tOp rEq (tOp (rIx K) (tVar 0) (tC (.int 2))) (tC (.int 0)))) (tTest (tOp rLtI (tOp (rIx K) (tVar 0) (tC (.int 1))) (tCB (fLen K) (tCons (tVar 2) tNil))))) (tSeq (tAsg (tOp rAddI (tOp (rIx K) (tVar 0) (tC (.int 1))) (tC (.int 1))) (gSub (tVar 0) (tC (.int 1)) rSetL))
    (t_l_draw_in K)) tNext)
    (t_l_draw_rest K))
def t_l_draw (K : PySem.W.Frag) : TS := (tSeq (tAsg (tOp (rIx K) (tVar 0) (tC (.int 0))) (gName 2))
    (tSeq (tAsg (tOp rAddI (tOp (rIx K) (tVar 0) (tC (.int 3))) (tC (.int 1))) (gSub (tVar 0) (tC (.int 3)) rSetL))
    (t_l_draw_mid K)))
abbrev N_l_int : List Str := ["_law_thing"]
def t_l_int (K : PySem.W.Frag) : TS := (tRet (tAndV (tCB (rIsi K) (tCons (tVar 0) (tCons (tC (.ty "int")) tNil))) (tNotV (tCB (rIsi K) (tCons (tVar 0) (tCons (tC (.ty "bool")) tNil))))))
theorem pure_l_deck {K : PySem.W.Frag} {vs : List V} {H : Hp} {Q : VK} {E : XK} (h : sp_l_deck K vs H Q E) : t_l_deck K { nx := fun _ H' => Q .non H', rt := Q } (start N_l_deck vs) H := by
  obtain ⟨a, ns, rfl, hS, hl, k⟩ := h
  refine ⟨_, rfl, a, _, rfl, .inl hS, fun c nc => ⟨by show (4 : Nat) ≤ sizeLine; decide, fun D nD => ?_⟩⟩
  have ncD : c ≠ D := fun e => by rw [← e, updS] at nD; cases nD
  have nD0 : H D = none := by rw [upd_ne ncD.symm] at nD; exact nD
  refine k c D _ (fun b o e => updN (ne_of_none e nD0) (updN (ne_of_none e nc) e)) nc nD0 ⟨ncD, updN ncD updS, hl, 0, 0, 0, updS, Int.le_refl _, by omega, Int.le_refl _, Int.le_refl _, Int.le_refl _⟩
theorem pure_l_mixed {K : PySem.W.Frag} {vs : List V} {H : Hp} {Q : VK} {E : XK} (h : sp_l_mixed K vs H Q E) : t_l_mixed K { nx := fun _ H' => Q .non H', rt := Q } (start N_l_mixed vs) H := by
  obtain ⟨c, t, rfl, h0, h1, k⟩ := h
  refine ⟨_, rfl, _, _, rfl, rfl, (by show (0 : Int) < 2147483629; decide), _, rfl, _, _, rfl, rfl, .inr ⟨by decide, by decide⟩, _, _, rfl, rfl, _, _, rfl, rfl, _, _, rfl, rfl, ⟨by decide, by decide, ?_⟩, _, _, rfl, rfl, (by show (0 : Int) < 2147483647; decide), k _⟩
  have := Int.emod_nonneg c (show (2147483629 : Int) ≠ 0 by decide)
  have := Int.emod_lt_of_pos c (show (0 : Int) < 2147483629 by decide)
  omega
theorem pure_l_int {K : PySem.W.Frag} {vs : List V} {H : Hp} {Q : VK} {E : XK} (h : sp_l_int K vs H Q E) : t_l_int K { nx := fun _ H' => Q .non H', rt := Q } (start N_l_int vs) H := by
  obtain ⟨i, rfl, k⟩ := h
  refine ⟨_, rfl, _, _, _, _, true, rfl, .ty _, .base (.int i), kit_ty (by decide +kernel), _, rfl, iteT ?_⟩
  refine ⟨_, rfl, _, _, _, _, false, rfl, .ty _, .base (.int i), kit_ty (by decide +kernel), _, rfl, k⟩
theorem pure_l_draw {K : PySem.W.Frag} {vs : List V} {H : Hp} {Q : VK} {E : XK} (h : sp_l_draw K vs H Q E) : t_l_draw K { nx := fun _ H' => Q .non H', rt := Q } (start N_l_draw vs) H := by
  obtain ⟨c, D, ns, t, m, rfl, ⟨ncD, hc, hl, i, n, u, hD, i0, i1, n0, u0, u1⟩, ht, m0, m1, k⟩ := h
  have cells : ∀ {j : Int}, 0 ≤ j → j < ns.length → ∃ z : Int, atI (ns.map V.int) j = some (.int z) := fun {j} h0 h1 => by
    obtain ⟨q, rfl⟩ := Int.eq_ofNat_of_zero_le h0
    have hq : q < ns.length := by omega
    exact ⟨ns[q], atI_nat (by rw [List.getElem?_map, List.getElem?_eq_getElem hq]; rfl)⟩
  -- the rest, from any i and n
  have rest : ∀ (i n : Int) (H2 : Hp) (z3 z4 : Option V), 0 ≤ i → i ≤ ns.length → 0 ≤ n → H2 D = some (.lst [.ref c, .int i, .int n, .int (u + 1)]) → H2 c = some (.lst (ns.map V.int)) → (∀ b, b ≠ D → H2 b = H b) →
      t_l_draw_rest K { nx := fun _ H' => Q .non H', rt := Q } [some (.ref D), some (.int m), some (.ref c), z3, z4] H2 := by
    intro i n H2 z3 z4 i0 i1 n0 hD2 hc2 fr2
    have mod0 : ∀ x : Int, 0 ≤ x % m := fun x => Int.emod_nonneg x (by omega)
    have mod1 : ∀ x : Int, x % m < m := fun x => Int.emod_lt_of_pos x m0
    refine ⟨_, rfl, ixL hD2 rfl ⟨_, _, rfl, rfl, _, rfl, ite2 (fun e => ?_) (fun e => ?_)⟩⟩
    · have hn : 0 < n := of_decide_eq_true e
      refine ⟨_, rfl, ixL hD2 rfl ⟨_, rfl, _, _, rfl, rfl, m0, ?_⟩⟩
      refine ⟨_, rfl, ixL hD2 rfl ⟨_, rfl, _, _, rfl, rfl, wide_div m0 m1 (by decide) (by decide), _, rfl, D, _, _, 2, rfl, rfl, hD2, rfl, ?_⟩⟩
      refine ⟨_, rfl, k _ _ (mod0 n) (mod1 n) ⟨ncD, updN ncD hc2, hl, i, n / m, u + 1, updS, i0, i1, Int.ediv_nonneg n0 (by omega), by omega, by omega⟩ fun b nb => (upd_ne nb).trans (fr2 b nb)⟩
    · refine ⟨_, rfl, ixL hD2 rfl ⟨_, _, rfl, rfl, .inr ⟨by decide, by decide⟩, ?_⟩⟩
      have last : ∀ (y : Int), t_l_draw_last K { nx := fun _ H' => Q .non H', rt := Q } [some (.ref D), some (.int m), some (.ref c), z3, some (.int y)] H2 := fun y => by
        refine ⟨_, rfl, _, rfl, ixL hD2 rfl ⟨y, u + 1, rfl, by omega, by omega, fun v => ?_⟩⟩
        refine ⟨_, rfl, _, _, rfl, rfl, m0, k _ _ (mod0 v) (mod1 v) ⟨ncD, hc2, hl, i, n, u + 1, hD2, i0, i1, n0, by omega, by omega⟩ fr2⟩
      refine ⟨_, rfl, lenL hc2 ⟨_, _, rfl, rfl, _, rfl, ite2 (fun e => ?_) (fun e => ?_)⟩⟩
      · have hn : 0 < ns.length := by
          have q : (0 : Int) < (ns.map V.int).length := of_decide_eq_true e
          rw [List.length_map] at q
          omega
        have hlen : ((ns.map V.int).length : Int) = ns.length := by rw [List.length_map]
        obtain ⟨z, hz⟩ := cells (j := (u + 1) * 7 % ((ns.map V.int).length : Int)) (Int.emod_nonneg _ (by omega)) (by rw [hlen]; exact Int.emod_lt_of_pos _ (by omega))
        refine ⟨_, rfl, _, rfl, _, rfl, ixL hD2 rfl ⟨_, _, rfl, rfl, .inr ⟨by decide, by decide⟩, _, rfl, lenL hc2 ⟨_, _, rfl, rfl, (by show (0 : Int) < ((ns.map V.int).length : Int); omega), ixL hc2 hz ⟨_, _, rfl, rfl, (by show (0 : Int) < 2147483629; decide), _, _, rfl, rfl, ?_⟩⟩⟩⟩
        exact last _
      · exact last _
  have mid : ∀ (H1 : Hp) (z3 z4 : Option V), H1 D = some (.lst [.ref c, .int i, .int n, .int (u + 1)]) → H1 c = some (.lst (ns.map V.int)) → (∀ b, b ≠ D → H1 b = H b) →
      t_l_draw_mid K { nx := fun _ H' => Q .non H', rt := Q } [some (.ref D), some (.int m), some (.ref c), z3, z4] H1 := by
    intro H1 z3 z4 hD1 hc1 fr1
    refine ⟨_, rfl, ixL hD1 rfl ⟨rfl, _, rfl, ?_⟩⟩
    refine ite2 (fun e => ?_) (fun e => iteF (rest i n H1 _ _ i0 i1 n0 hD1 hc1 fr1))
    refine ⟨_, rfl, ixL hD1 rfl ⟨_, rfl, lenL hc1 ⟨_, _, rfl, rfl, _, rfl, ite2 (fun e2 => ?_) (fun e2 => rest i n H1 _ _ i0 i1 n0 hD1 hc1 fr1)⟩⟩⟩
    have hi : i < ns.length := by
      have q : i < ((ns.map V.int).length : Int) := of_decide_eq_true e2
      rw [List.length_map] at q
      exact q
    obtain ⟨z, hz⟩ := cells i0 hi
    have ei : i + 1 - 1 = i := by omega
    have inn : ∀ (H2 : Hp), H2 D = some (.lst [.ref c, .int (i + 1), .int n, .int (u + 1)]) → H2 c = some (.lst (ns.map V.int)) → (∀ b, b ≠ D → H2 b = H b) →
        t_l_draw_in K { nx := t_l_draw_rest K { nx := fun _ H' => Q .non H', rt := Q }, rt := Q } [some (.ref D), some (.int m), some (.ref c), z3, z4] H2 := by
      intro H2 hD2 hc2 fr2
      refine ⟨_, rfl, _, rfl, ixL hD2 rfl ⟨_, _, rfl, rfl, ixL hc2 (by rw [ei]; exact hz) ⟨_, _, rfl, rfl, ⟨by decide, by decide, by decide⟩, _, _, rfl, rfl, _, rfl, ite2 (fun e3 => ?_) (fun e3 => ?_)⟩⟩⟩
      · refine ⟨_, rfl, _, rfl, ixL hD2 rfl ⟨_, _, rfl, rfl, ixL hc2 (by rw [ei]; exact hz) ⟨_, rfl, ixL hD2 rfl ⟨z, u + 1, rfl, by omega, by omega, fun v => ?_⟩⟩⟩⟩
        refine ⟨_, rfl, _, _, rfl, rfl, m0, k _ _ (Int.emod_nonneg v (by omega)) (Int.emod_lt_of_pos v m0) ⟨ncD, hc2, hl, i + 1, n, u + 1, hD2, by omega, by omega, n0, by omega, by omega⟩ fr2⟩
      · have hz0 : ¬ z < 1000000000000000000 := fun q => e3 (decide_eq_true (by rw [pow18]; exact q))
        refine ⟨_, rfl, _, rfl, ixL hD2 rfl ⟨_, _, rfl, rfl, ixL hc2 (by rw [ei]; exact hz) ⟨_, rfl, D, _, _, 2, rfl, rfl, hD2, rfl, ?_⟩⟩⟩
        exact rest (i + 1) z _ _ _ (by omega) (by omega) (by omega) updS (updN ncD hc2) fun b nb => updN nb (fr2 b nb)
    refine ⟨_, rfl, ixL hD1 rfl ⟨_, _, rfl, rfl, _, rfl, D, _, _, 1, rfl, rfl, hD1, rfl, ?_⟩⟩
    exact inn _ updS (updN ncD hc1) fun b nb => updN nb (fr1 b nb)
  -- cells = deck[0]; deck[3] = deck[3] + 1
  refine ⟨_, rfl, ixL hD rfl ?_⟩
  refine ⟨_, rfl, ixL hD rfl ⟨_, _, rfl, rfl, _, rfl, D, _, _, 3, rfl, rfl, hD, rfl, ?_⟩⟩
  exact mid _ _ _ updS (updN ncD hc) fun b nb => upd_ne nb
/-! ### the same data, kind for kind -/
/-- two values of the same data, at most n deep -/
def SameV (H : Hp) : Nat → V → V → Prop
  | 0, _, _ => False
  | n + 1, x, y => (x = y ∧ (x = .non ∨ (∃ i, x = .int i) ∨ (∃ b, x = .bl b) ∨ ∃ z, x = .str z)) ∨
    ∃ p q xs ys, x = .ref p ∧ y = .ref q ∧ ((H p = some (.lst xs) ∧ H q = some (.lst ys)) ∨ (H p = some (.tup xs) ∧ H q = some (.tup ys))) ∧ xs.length = ys.length ∧ xs.length ≤ 100000 ∧
      ∀ (i : Nat) (a b : V), xs[i]? = some a → ys[i]? = some b → SameV H n a b
theorem SameV.int {H : Hp} {n : Nat} {i j : Int} (e : i = j) : SameV H (n + 1) (.int i) (.int j) := Or.inl ⟨by rw [e], .inr (.inl ⟨i, rfl⟩)⟩
theorem SameV.bl {H : Hp} {n : Nat} {i j : Bool} (e : i = j) : SameV H (n + 1) (.bl i) (.bl j) := Or.inl ⟨by rw [e], .inr (.inr (.inl ⟨i, rfl⟩))⟩
theorem SameV.tup {H : Hp} {n : Nat} {p q : Addr} {xs ys : List V} (h1 : H p = some (.tup xs)) (h2 : H q = some (.tup ys)) (hl : xs.length = ys.length) (hz : xs.length ≤ 100000) (h : ∀ (i : Nat) (a b : V), xs[i]? = some a → ys[i]? = some b → SameV H n a b) : SameV H (n + 1) (.ref p) (.ref q) :=
  Or.inr ⟨p, q, xs, ys, rfl, rfl, .inr ⟨h1, h2⟩, hl, hz, h⟩
theorem SameV.lst {H : Hp} {n : Nat} {p q : Addr} {xs ys : List V} (h1 : H p = some (.lst xs)) (h2 : H q = some (.lst ys)) (hl : xs.length = ys.length) (hz : xs.length ≤ 100000) (h : ∀ (i : Nat) (a b : V), xs[i]? = some a → ys[i]? = some b → SameV H n a b) : SameV H (n + 1) (.ref p) (.ref q) :=
  Or.inr ⟨p, q, xs, ys, rfl, rfl, .inl ⟨h1, h2⟩, hl, hz, h⟩
theorem SameV.ints {H : Hp} {n : Nat} {ns : List Int} : ∀ (i : Nat) (a b : V), (ns.map V.int)[i]? = some a → (ns.map V.int)[i]? = some b → SameV H (n + 1) a b := fun i a b h1 h2 => by
  have e : a = b := Option.some.inj (h1.symm.trans h2)
  rw [List.getElem?_map] at h1
  cases q : ns[i]? with
  | none => rw [q] at h1; cases h1
  | some z => rw [q] at h1; exact Or.inl ⟨e, .inr (.inl ⟨z, (Option.some.inj h1).symm⟩)⟩
def sp_sameN (_ : PySem.W.Frag) (n : Nat) : Sp := fun vs H Q _ => ∃ x y, vs = [x, y] ∧ SameV H n x y ∧ Q (.bl true) H
abbrev sp_l_same (K : PySem.W.Frag) : Sp := sp_sameN K 6
abbrev N_l_same : List Str := ["_law_found", "_law_due", "_law_k"]
def t_l_same_loop (K : PySem.W.Frag) (n : Nat) : TS := (tSeq (tIfS (tTest (tOp rNe (tCB (fLen K) (tCons (tVar 0) tNil)) (tCB (fLen K) (tCons (tVar 1) tNil)))) (tRet (tC (.bl false))) tNext)
    (tSeq (tFor (iRng1 (tCons (tCB (fLen K) (tCons (tVar 1) tNil)) tNil)) (gName 2) (tIfS (tNot (tB (tCall (sp_sameN K n) [] E0 (tCons (tOp (rIx K) (tVar 0) (tVar 2)) (tCons (tOp (rIx K) (tVar 1) (tVar 2)) tNil))))) (tRet (tC (.bl false))) tNext))
    (tRet (tC (.bl true)))))
def t_l_same_tail (K : PySem.W.Frag) (n : Nat) : TS := (tSeq (tIfS (tB (tCB (rIsi K) (tCons (tVar 1) (tCons (tC (.ty "bool")) tNil)))) (tRet (tAndV (tCB (rIsi K) (tCons (tVar 0) (tCons (tC (.ty "bool")) tNil))) (tOp rEq (tVar 0) (tVar 1)))) tNext)
    (tSeq (tIfS (tB (tCB (rIsi K) (tCons (tVar 1) (tCons (tC (.ty "int")) tNil)))) (tRet (tAndV (tCall (sp_l_int K) [] E0 (tCons (tVar 0) tNil)) (tOp rEq (tVar 0) (tVar 1)))) tNext)
    (tSeq (tIfS (tB (tCB (rIsi K) (tCons (tVar 1) (tCons (tC (.ty "str")) tNil)))) (tRet (tAndV (tCB (rIsi K) (tCons (tVar 0) (tCons (tC (.ty "str")) tNil))) (tOp rEq (tVar 0) (tVar 1)))) tNext)
    (tRet (tAndV (tOp fIsN (tVar 1) (tC .non)) (tOp fIsN (tVar 0) (tC .non)))))))
def t_l_same (K : PySem.W.Frag) (n : Nat) : TS := (tSeq (tIfS (tOr (tB (tCB (rIsi K) (tCons (tVar 1) (tCons (tC (.ty "tuple")) tNil)))) (tB (tCB (rIsi K) (tCons (tVar 1) (tCons (tC (.ty "list")) tNil))))) (tSeq (tIfS (tOr (tTest (tOp rNe (tCB (rIsi K) (tCons (tVar 1) (tCons (tC (.ty "tuple")) tNil))) (tCB (rIsi K) (tCons (tVar 0) (tCons (tC (.ty "tuple")) tNil))))) (tTest (tOp rNe (tCB (rIsi K) (tCons (tVar 1) (tCons (tC (.ty "list")) tNil))) (tCB (rIsi K) (tCons (tVar 0) (tCons (tC (.ty "list")) tNil)))))) (tRet (tC (.bl false))) tNext)
    (t_l_same_loop K n)) tNext)
    (t_l_same_tail K n))
section
variable {K : PySem.W.Frag} {H : Hp} {x : V} {Q : VK} {σ : L2.St} {c t : String} {b : Bool}
theorem isi (ty : TyX K H x (.type t)) (k : kitB t c = some b) (q : Q (.bl b) H) : tCons (tC (.ty c)) tNil σ H fun ys H2 => rIsi K (x :: ys) H2 Q := ⟨_, _, _, _, b, rfl, .ty _, ty, kit_ty k, q⟩
end
theorem k_it : kitB "int" "tuple" = some false := by decide +kernel
theorem k_il : kitB "int" "list" = some false := by decide +kernel
theorem k_ib : kitB "int" "bool" = some false := by decide +kernel
theorem k_ii : kitB "int" "int" = some true := by decide +kernel
theorem k_bt : kitB "bool" "tuple" = some false := by decide +kernel
theorem k_bl : kitB "bool" "list" = some false := by decide +kernel
theorem k_bb : kitB "bool" "bool" = some true := by decide +kernel
theorem k_bi : kitB "bool" "int" = some true := by decide +kernel
theorem k_st : kitB "str" "tuple" = some false := by decide +kernel
theorem k_sl : kitB "str" "list" = some false := by decide +kernel
theorem k_sb : kitB "str" "bool" = some false := by decide +kernel
theorem k_si : kitB "str" "int" = some false := by decide +kernel
theorem k_ss : kitB "str" "str" = some true := by decide +kernel
theorem k_nt : kitB "NoneType" "tuple" = some false := by decide +kernel
theorem k_nl : kitB "NoneType" "list" = some false := by decide +kernel
theorem k_nb : kitB "NoneType" "bool" = some false := by decide +kernel
theorem k_ni : kitB "NoneType" "int" = some false := by decide +kernel
theorem k_ns : kitB "NoneType" "str" = some false := by decide +kernel
theorem k_tt : kitB "tuple" "tuple" = some true := by decide +kernel
theorem k_tl : kitB "tuple" "list" = some false := by decide +kernel
theorem k_ti : kitB "tuple" "int" = some false := by decide +kernel
theorem k_tb : kitB "tuple" "bool" = some false := by decide +kernel
theorem k_lt : kitB "list" "tuple" = some false := by decide +kernel
theorem k_ll : kitB "list" "list" = some true := by decide +kernel
theorem k_li : kitB "list" "int" = some false := by decide +kernel
theorem k_lb : kitB "list" "bool" = some false := by decide +kernel
theorem len_le {n : Nat} (h : n ≤ 100000) : -(2 ^ 62 : Int) ≤ (n : Int) ∧ (n : Int) < 2 ^ 62 := by
  have e : (2 : Int) ^ 62 = 4611686018427387904 := by decide
  rw [e]
  omega
theorem pure_l_same {K : PySem.W.Frag} {n : Nat} {vs : List V} {H : Hp} {Q : VK} {E : XK} (h : sp_sameN K (n + 1) vs H Q E) : t_l_same K n { nx := fun _ H' => Q .non H', rt := Q } (start N_l_same vs) H := by
  obtain ⟨x, y, rfl, h, k⟩ := h
  rcases h with ⟨rfl, h⟩ | ⟨p, q, xs, ys, rfl, rfl, h, hl, hz, hs⟩
  · rcases h with rfl | ⟨i, rfl⟩ | ⟨b, rfl⟩ | ⟨z, rfl⟩
    · refine ⟨_, rfl, isi (.base .non) k_nt ⟨_, rfl, iteF ⟨_, rfl, isi (.base .non) k_nl ⟨_, rfl, iteF ?_⟩⟩⟩⟩
      refine ⟨_, rfl, isi (.base .non) k_nb ⟨_, rfl, iteF ?_⟩⟩
      refine ⟨_, rfl, isi (.base .non) k_ni ⟨_, rfl, iteF ?_⟩⟩
      refine ⟨_, rfl, isi (.base .non) k_ns ⟨_, rfl, iteF ?_⟩⟩
      exact ⟨_, rfl, rfl, _, rfl, iteT ⟨_, rfl, rfl, k⟩⟩
    · refine ⟨_, rfl, isi (.base (.int i)) k_it ⟨_, rfl, iteF ⟨_, rfl, isi (.base (.int i)) k_il ⟨_, rfl, iteF ?_⟩⟩⟩⟩
      refine ⟨_, rfl, isi (.base (.int i)) k_ib ⟨_, rfl, iteF ?_⟩⟩
      refine ⟨_, rfl, isi (.base (.int i)) k_ii ⟨_, rfl, iteT ?_⟩⟩
      refine ⟨_, rfl, i, rfl, _, rfl, iteT ⟨_, rfl, _, rfl, rfl, ?_⟩⟩
      rw [decide_eq_true rfl]
      exact k
    · refine ⟨_, rfl, isi (.base (.bl b)) k_bt ⟨_, rfl, iteF ⟨_, rfl, isi (.base (.bl b)) k_bl ⟨_, rfl, iteF ?_⟩⟩⟩⟩
      refine ⟨_, rfl, isi (.base (.bl b)) k_bb ⟨_, rfl, iteT ?_⟩⟩
      refine ⟨_, rfl, isi (.base (.bl b)) k_bb ⟨_, rfl, iteT ⟨_, rfl, _, rfl, rfl, ?_⟩⟩⟩
      rw [decide_eq_true rfl]
      exact k
    · refine ⟨_, rfl, isi (.base (.str z)) k_st ⟨_, rfl, iteF ⟨_, rfl, isi (.base (.str z)) k_sl ⟨_, rfl, iteF ?_⟩⟩⟩⟩
      refine ⟨_, rfl, isi (.base (.str z)) k_sb ⟨_, rfl, iteF ?_⟩⟩
      refine ⟨_, rfl, isi (.base (.str z)) k_si ⟨_, rfl, iteF ?_⟩⟩
      refine ⟨_, rfl, isi (.base (.str z)) k_ss ⟨_, rfl, iteT ?_⟩⟩
      refine ⟨_, rfl, isi (.base (.str z)) k_ss ⟨_, rfl, iteT ⟨_, rfl, _, rfl, rfl, ?_⟩⟩⟩
      rw [decide_eq_true rfl]
      exact k
  · -- the loop over both
    have loop : (∃ o, (H p = some o ∧ (o = .lst xs ∨ o = .tup xs))) → (∃ o, (H q = some o ∧ (o = .lst ys ∨ o = .tup ys))) → ∀ z2 : Option V,
        t_l_same_loop K n { nx := t_l_same_tail K n { nx := fun _ H' => Q .non H', rt := Q }, rt := Q } [some (.ref p), some (.ref q), z2] H := by
      intro hp hq z2
      have hlen : ∀ {r : Addr} {zs : List V} {R : VK} {σ : L2.St}, (∃ o, (H r = some o ∧ (o = .lst zs ∨ o = .tup zs))) → R (.int zs.length) H → tNil σ H fun ws H2 => fLen K (.ref r :: ws) H2 R := by
        rintro r zs R σ ⟨o, h1, rfl | rfl⟩ h2
        · exact lenL h1 h2
        · exact lenT h1 h2
      have hix : ∀ {r : Addr} {zs : List V} {R : VK} {i : Int} {v : V}, (∃ o, (H r = some o ∧ (o = .lst zs ∨ o = .tup zs))) → atI zs i = some v → R v H → rIx K (.ref r) (.int i) H R := by
        rintro r zs R i v ⟨o, h1, rfl | rfl⟩ h2 h3
        · exact ixL h1 h2 h3
        · exact ixT h1 h2 h3
      refine ⟨_, rfl, hlen hp ⟨_, rfl, hlen hq ⟨rfl, _, rfl, ?_⟩⟩⟩
      rw [decide_eq_true (show V.int (xs.length : Int) = V.int (ys.length : Int) by rw [hl])]
      refine iteF ?_
      refine ⟨_, rfl, hlen hq ⟨_, rfl, (len_le (by omega)).1, (len_le (by omega)).2, for_range (lo := 0) (n := ((ys.length : Int)).toNat) (fun i σ H' => H' = H ∧ ∃ z, σ = [some (.ref p), some (.ref q), z]) ⟨rfl, _, rfl⟩ ?_ ?_⟩⟩
      · rintro i σ H' hi ⟨rfl, z, rfl⟩
        have hi1 : i < ys.length := by omega
        have hi2 : i < xs.length := by omega
        have e1 : atI xs (0 + (i : Int)) = some xs[i] := by rw [Int.zero_add]; exact atI_nat (List.getElem?_eq_getElem hi2)
        have e2 : atI ys (0 + (i : Int)) = some ys[i] := by rw [Int.zero_add]; exact atI_nat (List.getElem?_eq_getElem hi1)
        refine ⟨_, rfl, _, rfl, hix hp e1 ⟨_, rfl, _, rfl, hix hq e2 ⟨_, _, rfl, hs i _ _ (List.getElem?_eq_getElem hi2) (List.getElem?_eq_getElem hi1), _, rfl, iteF ?_⟩⟩⟩
        exact ⟨rfl, _, rfl⟩
      · rintro σ H' ⟨rfl, z, rfl⟩
        exact k
    rcases h with ⟨h1, h2⟩ | ⟨h1, h2⟩
    · have t1 : TyX K H (.ref p) (.type "list") := .base (.lst h1)
      have t2 : TyX K H (.ref q) (.type "list") := .base (.lst h2)
      refine ⟨_, rfl, isi t2 k_lt ⟨_, rfl, iteF ⟨_, rfl, isi t2 k_ll ⟨_, rfl, iteT ?_⟩⟩⟩⟩
      refine ⟨_, rfl, isi t2 k_lt ⟨_, rfl, isi t1 k_lt ⟨rfl, _, rfl, iteF ⟨_, rfl, isi t2 k_ll ⟨_, rfl, isi t1 k_ll ⟨rfl, _, rfl, iteF ?_⟩⟩⟩⟩⟩⟩
      exact loop ⟨_, h1, .inl rfl⟩ ⟨_, h2, .inl rfl⟩ _
    · have t1 : TyX K H (.ref p) (.type "tuple") := .base (.tup h1)
      have t2 : TyX K H (.ref q) (.type "tuple") := .base (.tup h2)
      refine ⟨_, rfl, isi t2 k_tt ⟨_, rfl, iteT ?_⟩⟩
      refine ⟨_, rfl, isi t2 k_tt ⟨_, rfl, isi t1 k_tt ⟨rfl, _, rfl, iteF ⟨_, rfl, isi t2 k_tl ⟨_, rfl, isi t1 k_tl ⟨rfl, _, rfl, iteF ?_⟩⟩⟩⟩⟩⟩
      exact loop ⟨_, h1, .inr rfl⟩ ⟨_, h2, .inr rfl⟩ _
def sp_law (K : PySem.W.Frag) : Sp := fun vs H Q _ => ∃ (a : Addr) (ns : List Int), vs = [.ref a] ∧ SqL K H a (ns.map V.int) ∧ ns.length ≤ 63 ∧ ∀ H', Q (.bl true) H'
section
variable {K : PySem.W.Frag} {vs : List V} {H : Hp} {Q : VK} {E : XK}
theorem len_law (h : sp_law K vs H Q E) : vs.length = 1 := by
  obtain ⟨_, _, rfl, _⟩ := h
  rfl
theorem len_l_deck (h : sp_l_deck K vs H Q E) : vs.length = 1 := by
  obtain ⟨_, _, rfl, _⟩ := h
  rfl
theorem len_l_mixed (h : sp_l_mixed K vs H Q E) : vs.length = 2 := by
  obtain ⟨_, _, rfl, _⟩ := h
  rfl
theorem len_l_draw (h : sp_l_draw K vs H Q E) : vs.length = 2 := by
  obtain ⟨_, _, _, _, _, rfl, _⟩ := h
  rfl
theorem len_l_int (h : sp_l_int K vs H Q E) : vs.length = 1 := by
  obtain ⟨_, rfl, _⟩ := h
  rfl
theorem len_sameN {n : Nat} (h : sp_sameN K n vs H Q E) : vs.length = 2 := by
  obtain ⟨_, _, rfl, _⟩ := h
  rfl
end
/-! ### comprehensions whose elements change nothing -/
section
variable {K : PySem.W.Frag} {a : Addr} {xs ys : List V} {g : TG} {tt : TT} {te : TE} {vs : List Nat} {σ : L2.St} {H1 : Hp} {D : Addr} {Qd : Hp → Prop}
/-- [e for x in xs], xs a tuple, ys the values in order -/
theorem lc_mapT (hq : ∀ acc, SqT K (upd H1 D (.lst acc)) a xs) (hl : ys.length = xs.length) (hz : xs.length ≤ 100000)
    (hs : ∀ (i : Nat) (x y : V) (acc : List V) (R : VK), xs[i]? = some x → ys[i]? = some y → R y (upd H1 D (.lst acc)) → g x (wipe σ vs) (upd H1 D (.lst acc)) fun σ2 H2 => wipe σ2 vs = wipe σ vs ∧ tt σ2 H2 fun b H3 => if b = true then te σ2 H3 R else False)
    (hd : Qd (upd H1 D (.lst ys))) (mt : ∀ σ H P P', (∀ b H1, P b H1 → P' b H1) → tt σ H P → tt σ H P') (mg : ∀ v σ H P P', (∀ σ1 H1, P σ1 H1 → P' σ1 H1) → g v σ H P → g v σ H P') :
    ∃ W : Nat → Nat → Hp → Prop, (∃ m, W 0 m (upd H1 D (.lst []))) ∧ ∀ i m H, W i m H →
      ((Itt K a).stop i H ∧ Qd H) ∨ ((Itt K a).go i H ∧ ∃ Nx : Hp → Prop, (∀ H', Nx H' → ∃ m', m' < m ∧ W (i + 1) m' H') ∧ ∀ x H', (Itt K a).yld i H x H' → g x (wipe σ vs) H' fun σ2 H2 => wipe σ2 vs = wipe σ vs ∧ tt σ2 H2 fun b H3 =>
        if b = true then te σ2 H3 fun y H4 => ∃ acc, H4 D = some (.lst acc) ∧ acc.length < sizeLine ∧ Nx (upd H4 D (.lst (acc ++ [y]))) else Nx H3) := by
  refine lc_tup (K := K) (a := a) (xs := xs) (fun i H => H = upd H1 D (.lst (ys.take i))) (by rw [List.take_zero]) (fun i H _ e => by rw [e]; exact hq _) (fun i x H hx e => ?_) (fun H e => by
    rw [e, List.take_of_length_le (by omega)]
    exact hd)
  subst e
  have hi : i < ys.length := by
    have := (List.getElem?_eq_some_iff.mp hx).1
    omega
  refine mg _ _ _ _ _ (fun σ1 H2 q => ⟨q.1, mt _ _ _ _ (fun b H3 q2 => ?_) q.2⟩) (hs i x ys[i] (ys.take i) (fun y H4 => ∃ acc, H4 D = some (.lst acc) ∧ acc.length < sizeLine ∧ upd H4 D (.lst (acc ++ [y])) = upd H1 D (.lst (ys.take (i + 1)))) hx (List.getElem?_eq_getElem hi) ⟨ys.take i, upd_same, Nat.lt_of_le_of_lt (by rw [List.length_take]; omega : (ys.take i).length ≤ 100000) (by decide), by rw [upd_upd, List.take_add_one, List.getElem?_eq_getElem hi]; rfl⟩)
  cases b with
  | true => exact q2
  | false => exact q2.elim
theorem lc_mapL (hq : ∀ acc, SqL K (upd H1 D (.lst acc)) a xs) (hl : ys.length = xs.length) (hz : xs.length ≤ 100000)
    (hs : ∀ (i : Nat) (x y : V) (acc : List V) (R : VK), xs[i]? = some x → ys[i]? = some y → R y (upd H1 D (.lst acc)) → g x (wipe σ vs) (upd H1 D (.lst acc)) fun σ2 H2 => wipe σ2 vs = wipe σ vs ∧ tt σ2 H2 fun b H3 => if b = true then te σ2 H3 R else False)
    (hd : Qd (upd H1 D (.lst ys))) (mt : ∀ σ H P P', (∀ b H1, P b H1 → P' b H1) → tt σ H P → tt σ H P') (mg : ∀ v σ H P P', (∀ σ1 H1, P σ1 H1 → P' σ1 H1) → g v σ H P → g v σ H P') :
    ∃ W : Nat → Nat → Hp → Prop, (∃ m, W 0 m (upd H1 D (.lst []))) ∧ ∀ i m H, W i m H →
      ((Itl K a).stop i H ∧ Qd H) ∨ ((Itl K a).go i H ∧ ∃ Nx : Hp → Prop, (∀ H', Nx H' → ∃ m', m' < m ∧ W (i + 1) m' H') ∧ ∀ x H', (Itl K a).yld i H x H' → g x (wipe σ vs) H' fun σ2 H2 => wipe σ2 vs = wipe σ vs ∧ tt σ2 H2 fun b H3 =>
        if b = true then te σ2 H3 fun y H4 => ∃ acc, H4 D = some (.lst acc) ∧ acc.length < sizeLine ∧ Nx (upd H4 D (.lst (acc ++ [y]))) else Nx H3) := by
  refine lc_list (K := K) (a := a) (xs := xs) (fun i H => H = upd H1 D (.lst (ys.take i))) (by rw [List.take_zero]) (fun i H _ e => by rw [e]; exact hq _) (fun i x H hx e => ?_) (fun H e => by
    rw [e, List.take_of_length_le (by omega)]
    exact hd)
  subst e
  have hi : i < ys.length := by
    have := (List.getElem?_eq_some_iff.mp hx).1
    omega
  refine mg _ _ _ _ _ (fun σ1 H2 q => ⟨q.1, mt _ _ _ _ (fun b H3 q2 => ?_) q.2⟩) (hs i x ys[i] (ys.take i) (fun y H4 => ∃ acc, H4 D = some (.lst acc) ∧ acc.length < sizeLine ∧ upd H4 D (.lst (acc ++ [y])) = upd H1 D (.lst (ys.take (i + 1)))) hx (List.getElem?_eq_getElem hi) ⟨ys.take i, upd_same, Nat.lt_of_le_of_lt (by rw [List.length_take]; omega : (ys.take i).length ≤ 100000) (by decide), by rw [upd_upd, List.take_add_one, List.getElem?_eq_getElem hi]; rfl⟩)
  cases b with
  | true => exact q2
  | false => exact q2.elim
theorem mono_yes : ∀ (σ : L2.St) (H : Hp) (P P' : Bool → Hp → Prop), (∀ b H1, P b H1 → P' b H1) → tYes σ H P → tYes σ H P' := fun _ _ _ _ f h => f _ _ h
theorem mono_gName {k : Nat} : ∀ (v : V) (σ : L2.St) (H : Hp) (P P' : L2.St → Hp → Prop), (∀ σ1 H1, P σ1 H1 → P' σ1 H1) → gName k v σ H P → gName k v σ H P' := fun _ _ _ _ _ f h => f _ _ h
end
end Fw

set_option Elab.async false
set_option linter.all false
set_option maxRecDepth 100000
set_option maxHeartbeats 4000000
namespace Fw
open PySem PySem.Spec PyProof.Rows L2
section
variable {X : Cx}
/-- a dict comprehension that is given to a name of its own, on one row -/
theorem sw_dict {kx vx : Expr} {gens : List Comprehension} {sc : Scope} {dpos npos : Pos} {nm : Str} {ln : Nat} {en : Env} (h1 : en.scope.kind = .function) (h2 : en.scope.names.lookup nm = some .local) (h3 : (npos.line == dpos.line) = true)
    (h4 : (sc.names.any fun (z, k) => z == nm && (k == .local || k == .cell)) = false) : swapsWith (.DictComp kx vx gens sc dpos) (some (.Name nm npos)) ln en = pure true := by
  have e1 : en.kindOf nm = some .local := h2
  have e2 : en.blockKind = .function := by
    unfold Env.blockKind
    rw [h1]
    rfl
  unfold swapsWith
  simp only [e2, e1, h4, Expr.pos, h3]
  rfl
theorem ps_setDc {i : Nat} {nm : Str} {npos : Pos} {kx vx tgt it : Expr} {tests : List Expr} {sc : Scope} {own : List (Str × Nat)} {dpos apos : Pos} {wi : TI} {g : TG} {tt : TT} {tk tv : TE} (calm : X.calm = true) (nd : X.N.Nodup) (at_ : X.N[i]? = some nm) (loc : X.env.scope.names.lookup nm = some .local)
    (sw : swapsWith (.DictComp kx vx [⟨tgt, it, tests, 0⟩] sc dpos) (some (.Name nm npos)) apos.line X.env = pure true) (walk : PI X tgt it wi) (blk : BlkOk X.N X.env.scope sc own)
    (pg : ∀ (z : Shared) (Hz : Hp) (cz : Addr) (clz : List (Str × Addr)) (fz : List Addr), PG (X.blk z Hz sc (compEnvC sc clz cz X.env) fz) tgt g)
    (pt : ∀ (z : Shared) (Hz : Hp) (cz : Addr) (clz : List (Str × Addr)) (fz : List Addr), PTs (X.blk z Hz sc (compEnvC sc clz cz X.env) fz) tests tt)
    (pk : ∀ (z : Shared) (Hz : Hp) (cz : Addr) (clz : List (Str × Addr)) (fz : List Addr), PE (X.blk z Hz sc (compEnvC sc clz cz X.env) fz) kx tk)
    (pv : ∀ (z : Shared) (Hz : Hp) (cz : Addr) (clz : List (Str × Addr)) (fz : List Addr), PE (X.blk z Hz sc (compEnvC sc clz cz X.env) fz) vx tv)
    (fold : ∀ z, foldedSetIterable it X.env z = pure z := by intro _; rfl) :
    PS X (.Assign [.Name nm npos] (.DictComp kx vx [⟨tgt, it, tests, 0⟩] sc dpos) apos) (tAsg (tDc wi g tt tk tv (own.map (·.2))) (gName i)) := by
  refine ⟨fun pins s σ H D inv rd => ?_⟩
  rw [exec_Assign_Name_used _ _ _ _ sw]
  refine wpAny_bind (wpAny_standAt ?_)
  refine wpAny_bind ?_
  show wpAny _ X.A (do let _ ← comprehension (.DictComp kx vx [⟨tgt, it, tests, 0⟩] sc dpos) sc X.env (firstIterPos [⟨tgt, it, tests, 0⟩] dpos) newDict false (eval it X.env) (some (assign (.Name nm npos) X.env))) _ _ s
  have rd2 : tDc wi g tt tk tv (own.map (·.2)) σ H (fun x Hx => gName i x σ Hx D.nx) := rd
  refine wpAny_bind (thn (dc_core (Qf := fun _ s1 => SP X pins D .next s1) calm nd inv walk blk pg pt pk pv fold rd2 fun F C s1 m H1 inv1 q ns fp => ?_) fun _ s1 z => wpAny_pure (wpAny_pure z))
  show wpAny _ _ (assign (.Name nm npos) X.env (.ref F)) _ _ _
  obtain ⟨p0, p1, _, p3, p4, p5⟩ := fp
  refine wpAny_assign_Name (store_ok2 (v := V.ref F) inv1 nd at_ (.inl loc) rfl (fun s2 inv2 ⟨b, same, hb⟩ => ?_) (.inr loc))
  have ne : C ≠ b := hb.elim (fun z => by rw [z]; exact p1) fun z e => p4 nm b z e.symm
  refine ⟨m, ns.sameBut same ne, fun h3 same3 => ⟨_, H1, ?_, q⟩⟩
  exact inv2.turned (t' := s2.toks) (fun x o nx e => (same3.2 x nx).trans e) p0 p1 p3 p4 p5
end
end Fw

set_option Elab.async false
set_option linter.all false
set_option maxRecDepth 100000
set_option maxHeartbeats 4000000
namespace Fw
open PySem L2 RZ RT
/-! ### data -/
inductive Dt where
  | non | bl (b : Bool) | int (i : Int) | str (z : Str) | tup (xs : List Dt) | lst (xs : List Dt) | dct
/-- the value x is the data d, as H stands -/
inductive At (H : Hp) : V → Dt → Prop where
  | non : At H .non .non
  | bl (b : Bool) : At H (.bl b) (.bl b)
  | int (i : Int) : At H (.int i) (.int i)
  | str (z : Str) : At H (.str z) (.str z)
  | tup {p : Addr} {xs : List V} {ds : List Dt} (h : H p = some (.tup xs)) (hz : xs.length ≤ 100000) (hl : xs.length = ds.length) (ha : ∀ (i : Nat) (x : V) (d : Dt), xs[i]? = some x → ds[i]? = some d → At H x d) : At H (.ref p) (.tup ds)
  | lst {p : Addr} {xs : List V} {ds : List Dt} (h : H p = some (.lst xs)) (hz : xs.length ≤ 100000) (hl : xs.length = ds.length) (ha : ∀ (i : Nat) (x : V) (d : Dt), xs[i]? = some x → ds[i]? = some d → At H x d) : At H (.ref p) (.lst ds)
  | dct {p : Addr} {kvs : List (Key × V)} (h : H p = some (.dK kvs)) : At H (.ref p) .dct
theorem At.mono {H H' : Hp} (s : Same H H') {x : V} {d : Dt} (a : At H x d) : At H' x d := by
  induction a with
  | non => exact .non
  | bl b => exact .bl b
  | int i => exact .int i
  | str z => exact .str z
  | tup h hz hl _ ih => exact .tup (s _ _ h) hz hl ih
  | lst h hz hl _ ih => exact .lst (s _ _ h) hz hl ih
  | dct h => exact .dct (s _ _ h)
def Dt.ty : Dt → String
  | .non => "NoneType"
  | .bl _ => "bool"
  | .int _ => "int"
  | .str _ => "str"
  | .tup _ => "tuple"
  | .lst _ => "list"
  | .dct => "dict"
theorem At.tyX {K : PySem.W.Frag} {H : Hp} {x : V} {d : Dt} (a : At H x d) : TyX K H x (.type d.ty) := by
  cases a with
  | non => exact .base .non
  | bl b => exact .base (.bl b)
  | int i => exact .base (.int i)
  | str z => exact .base (.str z)
  | tup h => exact .base (.tup h)
  | lst h => exact .base (.lst h)
  | dct h => exact .base (.dK h)
def isIntD : Dt → Bool
  | .int _ => true
  | _ => false
def isTupD : Dt → Bool
  | .tup _ => true
  | _ => false
def isPairD : Dt → Bool
  | .tup ds => decide (ds.length = 2)
  | _ => false
theorem k_dt : kitB "dict" "tuple" = some false := by decide +kernel
theorem k_di : kitB "dict" "int" = some false := by decide +kernel
theorem k_db : kitB "dict" "bool" = some false := by decide +kernel
theorem kit_tup (d : Dt) : kitB d.ty "tuple" = some (isTupD d) := by
  cases d with
  | non => exact k_nt
  | bl b => exact k_bt
  | int i => exact k_it
  | str z => exact k_st
  | tup xs => exact k_tt
  | lst xs => exact k_lt
  | dct => exact k_dt
/-- isinstance(x, tuple) of data -/
theorem isiTup {K : PySem.W.Frag} {H : Hp} {x : V} {d : Dt} {Q : VK} {σ : L2.St} (a : At H x d) (q : Q (.bl (isTupD d)) H) : tCons (tC (.ty "tuple")) tNil σ H fun ys H2 => rIsi K (x :: ys) H2 Q := isi a.tyX (kit_tup d) q
/-! ### inversions -/
theorem At.int_inv {H : Hp} {x : V} {i : Int} (a : At H x (.int i)) : x = .int i := by
  cases a
  rfl
theorem At.tup_inv {H : Hp} {x : V} {ds : List Dt} (a : At H x (.tup ds)) : ∃ (p : Addr) (xs : List V), x = .ref p ∧ H p = some (.tup xs) ∧ xs.length = ds.length ∧ xs.length ≤ 100000 ∧ ∀ (i : Nat) (x : V) (d : Dt), xs[i]? = some x → ds[i]? = some d → At H x d := by
  cases a with
  | tup h hz hl ha => exact ⟨_, _, rfl, h, hl, hz, ha⟩
theorem At.pair_inv {H : Hp} {x : V} {d e : Dt} (a : At H x (.tup [d, e])) : ∃ (p : Addr) (y z : V), x = .ref p ∧ H p = some (.tup [y, z]) ∧ At H y d ∧ At H z e := by
  obtain ⟨p, xs, rfl, h, hl, _, ha⟩ := a.tup_inv
  match xs, hl with
  | [y, z], _ => exact ⟨p, y, z, rfl, h, ha 0 _ _ rfl rfl, ha 1 _ _ rfl rfl⟩
theorem At.ints {H : Hp} {xs : List V} : ∀ {ns : List Int}, xs.length = ns.length → (∀ (i : Nat) (x : V) (d : Dt), xs[i]? = some x → (ns.map Dt.int)[i]? = some d → At H x d) → xs = ns.map V.int := by
  induction xs with
  | nil =>
    intro ns hl _
    cases ns with
    | nil => rfl
    | cons n r => cases hl
  | cons x r ih =>
    intro ns hl h
    cases ns with
    | nil => cases hl
    | cons n m =>
      rw [List.map_cons, (h 0 x (.int n) rfl rfl).int_inv, ih (ns := m) (Nat.succ.inj hl) fun i y d h1 h2 => h (i + 1) y d h1 h2]
/-- a tuple of ints -/
theorem At.of_ints {H : Hp} {p : Addr} {ns : List Int} (h : H p = some (.tup (ns.map V.int))) (hz : ns.length ≤ 100000) : At H (.ref p) (.tup (ns.map Dt.int)) := by
  refine .tup h (by rw [List.length_map]; exact hz) (by simp) fun i x d h1 h2 => ?_
  rw [List.getElem?_map] at h1 h2
  cases e : ns[i]? with
  | none => rw [e] at h1; cases h1
  | some n =>
    rw [e] at h1 h2
    cases Option.some.inj h1
    cases Option.some.inj h2
    exact .int n
theorem At.to_ints {H : Hp} {x : V} {ns : List Int} (a : At H x (.tup (ns.map Dt.int))) : ∃ p, x = .ref p ∧ H p = some (.tup (ns.map V.int)) ∧ ns.length ≤ 100000 := by
  obtain ⟨p, xs, rfl, h, hl, hz, ha⟩ := a.tup_inv
  rw [List.length_map] at hl
  have e := At.ints hl ha
  subst e
  exact ⟨p, rfl, h, by rw [List.length_map] at hz; exact hz⟩
/-! ### order -/
def adjL {α : Type} (r : α → α → Bool) (l : List α) : List Bool := List.zipWith r l (l.drop 1)
def adj {α : Type} (r : α → α → Bool) (l : List α) : Bool := (adjL r l).all id
theorem adjL_length {α : Type} (r : α → α → Bool) (l : List α) : (adjL r l).length = l.length - 1 := by
  unfold adjL
  rw [List.length_zipWith, List.length_drop]
  omega
theorem adjL_get {α : Type} {r : α → α → Bool} {l : List α} {i : Nat} {x y : α} {b : Bool} (hx : l[i]? = some x) (hy : l[i + 1]? = some y) (hb : (adjL r l)[i]? = some b) : b = r x y := by
  unfold adjL at hb
  rw [List.getElem?_zipWith, hx, List.getElem?_drop, Nat.add_comm 1 i, hy] at hb
  exact (Option.some.inj hb).symm
theorem adj_of {α : Type} {r : α → α → Bool} {l : List α} (h : ∀ (i : Nat) (x y : α), l[i]? = some x → l[i + 1]? = some y → r x y = true) : adj r l = true := by
  refine List.all_eq_true.mpr fun b hb => ?_
  obtain ⟨i, hi, e⟩ := List.getElem_of_mem hb
  have hl := adjL_length r l
  have h1 : i < l.length := by omega
  have h2 : i + 1 < l.length := by omega
  have := adjL_get (List.getElem?_eq_getElem h1) (List.getElem?_eq_getElem h2) (List.getElem?_eq_some_iff.mpr ⟨hi, e⟩)
  rw [this]
  exact h i _ _ (List.getElem?_eq_getElem h1) (List.getElem?_eq_getElem h2)
def ints1 : List Dt → List Int
  | .int i :: r => i :: ints1 r
  | _ :: r => ints1 r
  | [] => []
theorem ints1_map : ∀ ns : List Int, ints1 (ns.map Dt.int) = ns
  | [] => rfl
  | n :: r => by
    show n :: ints1 (r.map Dt.int) = n :: r
    rw [ints1_map r]
theorem allInt : ∀ {ds : List Dt}, ds.all isIntD = true → ds = (ints1 ds).map Dt.int
  | [], _ => rfl
  | .int i :: r, h => by
    have h2 : r.all isIntD = true := h
    show Dt.int i :: r = Dt.int i :: (ints1 r).map Dt.int
    rw [← allInt h2]
  | .non :: _, h => by cases h
  | .bl _ :: _, h => by cases h
  | .str _ :: _, h => by cases h
  | .tup _ :: _, h => by cases h
  | .lst _ :: _, h => by cases h
  | .dct :: _, h => by cases h
def ltD : Dt → Dt → Bool
  | .int i, .int j => decide (i < j)
  | .tup a, .tup b => HT.lexLt (ints1 a) (ints1 b)
  | _, _ => false
/-- what < of two values says -/
def Cmp (H : Hp) (x y : V) (b : Bool) : Prop := (∃ i j, x = .int i ∧ y = .int j ∧ b = decide (i < j)) ∨ (∃ p q ns ms, x = .ref p ∧ y = .ref q ∧ H p = some (.tup (ns.map V.int)) ∧ H q = some (.tup (ms.map V.int)) ∧ b = HT.lexLt ns ms)
theorem Cmp.mono {H H' : Hp} (s : Same H H') {x y : V} {b : Bool} (c : Cmp H x y b) : Cmp H' x y b := by
  rcases c with c | ⟨p, q, ns, ms, h1, h2, h3, h4, h5⟩
  · exact .inl c
  · exact .inr ⟨p, q, ns, ms, h1, h2, s _ _ h3, s _ _ h4, h5⟩
abbrev fLtA (K : PySem.W.Frag) : R2 := fun x y H Q => rLtI x y H Q ∨ rLtT K x y H Q
theorem Cmp.run {K : PySem.W.Frag} {H : Hp} {x y : V} {b : Bool} {Q : VK} (c : Cmp H x y b) (q : Q (.bl b) H) : fLtA K x y H Q := by
  rcases c with ⟨i, j, rfl, rfl, rfl⟩ | ⟨p, r, ns, ms, rfl, rfl, h3, h4, rfl⟩
  · exact .inl ⟨_, _, rfl, rfl, q⟩
  · exact .inr ⟨_, _, _, _, rfl, rfl, sqT h3, sqT h4, q⟩
/-! ### the comprehension over zip of two tuples -/
theorem lc_zipT {K : PySem.W.Frag} {a b : Addr} {xs ys : List V} {g : TG} {tt : TT} {te : TE} {vs : List Nat} {σ : L2.St} {H1 : Hp} {D : Addr} {Qd : Hp → Prop} (n : Nat) (hn : n = min xs.length ys.length) (Pv : Nat → Hp → Prop) (h0 : Pv 0 (upd H1 D (.lst [])))
    (hl : ∀ i H, Pv i H → SqT K H a xs ∧ SqT K H b ys)
    (hs : ∀ (i : Nat) (x y : V) (T : Addr) (H : Hp), xs[i]? = some x → ys[i]? = some y → Pv i H → H T = none → g (.ref T) (wipe σ vs) (upd H T (.tup [x, y])) fun σ2 H2 => wipe σ2 vs = wipe σ vs ∧ tt σ2 H2 fun b H3 =>
      if b = true then te σ2 H3 fun y H4 => ∃ acc, H4 D = some (.lst acc) ∧ acc.length < sizeLine ∧ Pv (i + 1) (upd H4 D (.lst (acc ++ [y]))) else Pv (i + 1) H3) (hd : ∀ H, Pv n H → Qd H) :
    ∃ W : Nat → Nat → Hp → Prop, (∃ m, W 0 m (upd H1 D (.lst []))) ∧ ∀ i m H, W i m H →
      ((ItzT K a b).stop i H ∧ Qd H) ∨ ((ItzT K a b).go i H ∧ ∃ Nx : Hp → Prop, (∀ H', Nx H' → ∃ m', m' < m ∧ W (i + 1) m' H') ∧ ∀ x H', (ItzT K a b).yld i H x H' → g x (wipe σ vs) H' fun σ2 H2 => wipe σ2 vs = wipe σ vs ∧ tt σ2 H2 fun b H3 =>
        if b = true then te σ2 H3 fun y H4 => ∃ acc, H4 D = some (.lst acc) ∧ acc.length < sizeLine ∧ Nx (upd H4 D (.lst (acc ++ [y]))) else Nx H3) := by
  refine ⟨fun i m H => m = n - i ∧ i ≤ n ∧ Pv i H, ⟨n, by simp, Nat.zero_le _, h0⟩, ?_⟩
  rintro i m H ⟨rfl, hi, p⟩
  obtain ⟨qa, qb⟩ := hl i H p
  by_cases hlt : i < n
  · have l1 : i < xs.length := by omega
    have l2 : i < ys.length := by omega
    refine .inr ⟨⟨xs, ys, xs[i], ys[i], qa, qb, List.getElem?_eq_getElem l1, List.getElem?_eq_getElem l2⟩, Pv (i + 1), fun H' p' => ⟨n - (i + 1), by omega, rfl, hlt, p'⟩, fun x H' y => ?_⟩
    obtain ⟨T, x1, x2, rfl, nT, rfl, f1, f2⟩ := y
    exact hs i x1 x2 T H (f1 _ qa) (f2 _ qb) p nT
  · have e : i = n := by omega
    subst e
    exact .inl ⟨⟨xs, ys, qa, qb, by omega⟩, hd H p⟩
/-! ### promises -/
def sp_is_int (_ : PySem.W.Frag) : Sp := fun vs H Q _ => ∃ (x : V) (d : Dt), vs = [x] ∧ At H x d ∧ Q (.bl (isIntD d)) H
def sp_is_pair (_ : PySem.W.Frag) : Sp := fun vs H Q _ => ∃ (x : V) (d : Dt), vs = [x] ∧ At H x d ∧ Q (.bl (isPairD d)) H
def sp_rises (_ : PySem.W.Frag) : Sp := fun vs H Q _ => ∃ (p : Addr) (xs : List V) (bs : List Bool), vs = [.ref p] ∧ H p = some (.tup xs) ∧ xs.length ≤ 100000 ∧ bs.length = xs.length - 1 ∧
  (∀ (i : Nat) (x y : V) (b : Bool), xs[i]? = some x → xs[i + 1]? = some y → bs[i]? = some b → Cmp H x y b) ∧ ∀ H', Same H H' → Q (.bl (bs.all id)) H'
abbrev N_is_int : List Str := ["thing"]
def t_is_int (K : PySem.W.Frag) : TS := (tRet (tAndV (tCB (rIsi K) (tCons (tVar 0) (tCons (tC (.ty "int")) tNil))) (tNotV (tCB (rIsi K) (tCons (tVar 0) (tCons (tC (.ty "bool")) tNil))))))
abbrev N_is_pair : List Str := ["thing"]
def t_is_pair (K : PySem.W.Frag) : TS := (tRet (tAndV (tCB (rIsi K) (tCons (tVar 0) (tCons (tC (.ty "tuple")) tNil))) (tOp rEq (tCB (fLen K) (tCons (tVar 0) tNil)) (tC (.int 2)))))
abbrev N_rises : List Str := ["things", "low", "high"]
def t_rises (K : PySem.W.Frag) : TS := (tRet (tCB (rAll K) (tCons (tLc (iZipA K (tCons (tVar 0) (tCons (tSl (rSlA K) (tVar 0) (tPart (tC (.int 1))) tNoPart) tNil))) (gTup K 2 (gCons (gName 1) (gCons (gName 2) gNil))) tYes (tOp (fLtA K) (tVar 1) (tVar 2)) [1, 2]) tNil)))
section
variable {K : PySem.W.Frag} {vs : List V} {H : Hp} {Q : VK} {E : XK}
theorem len_is_int (h : sp_is_int K vs H Q E) : vs.length = 1 := by
  obtain ⟨_, _, rfl, _⟩ := h
  rfl
theorem len_is_pair (h : sp_is_pair K vs H Q E) : vs.length = 1 := by
  obtain ⟨_, _, rfl, _⟩ := h
  rfl
theorem len_rises (h : sp_rises K vs H Q E) : vs.length = 1 := by
  obtain ⟨_, _, _, rfl, _⟩ := h
  rfl
theorem k_lI (d : Dt) : kitB d.ty "int" = some (match d with | .bl _ => true | .int _ => true | _ => false) := by
  cases d with
  | non => exact k_ni
  | bl b => exact k_bi
  | int i => exact k_ii
  | str z => exact k_si
  | tup xs => exact k_ti
  | lst xs => exact k_li
  | dct => exact k_di
theorem pure_is_int (h : sp_is_int K vs H Q E) : t_is_int K { nx := fun _ H' => Q .non H', rt := Q } (start N_is_int vs) H := by
  obtain ⟨x, d, rfl, a, k⟩ := h
  refine ⟨_, rfl, isi a.tyX (k_lI d) ⟨_, rfl, ?_⟩⟩
  cases d with
  | bl b => exact iteT ⟨_, rfl, isi a.tyX k_bb ⟨_, rfl, k⟩⟩
  | int i => exact iteT ⟨_, rfl, isi a.tyX k_ib ⟨_, rfl, k⟩⟩
  | _ => exact iteF k
theorem pure_is_pair (h : sp_is_pair K vs H Q E) : t_is_pair K { nx := fun _ H' => Q .non H', rt := Q } (start N_is_pair vs) H := by
  obtain ⟨x, d, rfl, a, k⟩ := h
  refine ⟨_, rfl, isiTup a ⟨_, rfl, ?_⟩⟩
  cases a with
  | @tup p xs ds hp hz hl ha =>
    refine iteT ⟨_, rfl, lenT hp ⟨rfl, ?_⟩⟩
    have e : decide (V.int (xs.length : Int) = V.int 2) = isPairD (.tup ds) := by
      show _ = decide (ds.length = 2)
      rw [← hl]
      by_cases h2 : xs.length = 2
      · rw [decide_eq_true h2, h2]
        rfl
      · rw [decide_eq_false h2]
        exact decide_eq_false fun z => h2 (by have := V.int.inj z; omega)
    rw [e]
    exact k
  | _ => exact iteF k
theorem cut1 (xs : List V) : cutV xs (some 1) none = xs.drop 1 := by
  unfold cutV
  rw [show HT.sIx xs.length 0 (some 1) = min 1 xs.length from HT.sIx_nat xs.length 0 1, HT.sIx_none]
  cases xs with
  | nil => rfl
  | cons x r =>
    rw [show min 1 (x :: r).length = 1 by
      rw [List.length_cons]
      omega]
    show (List.take ((x :: r).length - 1) r) = r
    rw [List.length_cons, Nat.add_sub_cancel]
    exact List.take_length
theorem pure_rises (h : sp_rises K vs H Q E) : t_rises K { nx := fun _ H' => Q .non H', rt := Q } (start N_rises vs) H := by
  obtain ⟨p, xs, bs, rfl, hp, hz, hb, hc, k⟩ := h
  -- zip(things, things[1:]), the second one at any place
  have main : ∀ (q : Addr) (H1 : Hp), Same H H1 → H1 q = some (.tup (xs.drop 1)) → ∀ D, H1 D = none → ∃ W : Nat → Nat → Hp → Prop, (∃ m, W 0 m (upd H1 D (.lst []))) ∧ ∀ i m H, W i m H →
      ((ItzT K p q).stop i H ∧ tNil (start N_rises [V.ref p]) H fun ys H2 => rAll K (.ref D :: ys) H2 Q) ∨ ((ItzT K p q).go i H ∧ ∃ Nx : Hp → Prop, (∀ H', Nx H' → ∃ m', m' < m ∧ W (i + 1) m' H') ∧ ∀ x H', (ItzT K p q).yld i H x H' → gTup K 2 (gCons (gName 1) (gCons (gName 2) gNil)) x (wipe (start N_rises [V.ref p]) [1, 2]) H' fun σ2 H2 => wipe σ2 [1, 2] = wipe (start N_rises [V.ref p]) [1, 2] ∧ tYes σ2 H2 fun b H3 =>
        if b = true then tOp (fLtA K) (tVar 1) (tVar 2) σ2 H3 fun y H4 => ∃ acc, H4 D = some (.lst acc) ∧ acc.length < sizeLine ∧ Nx (upd H4 D (.lst (acc ++ [y]))) else Nx H3) := by
    intro q H1 sm hq D nD
    refine lc_zipT (K := K) (a := p) (b := q) (xs := xs) (ys := xs.drop 1) (xs.length - 1) (by rw [List.length_drop]; omega) (fun i H2 => Same H1 H2 ∧ H2 D = some (.lst ((bs.take i).map V.bl))) ⟨fun b o e => updN (ne_of_none e nD) e, updS⟩ (fun i H2 s2 => ⟨sqT (s2.1 _ _ (sm _ _ hp)), sqT (s2.1 _ _ hq)⟩) (fun i x y T H2 hx hy s2 nT => ?_) (fun H2 s2 => ?_)
    · rw [List.getElem?_drop, Nat.add_comm] at hy
      have hi : i < bs.length := by
        have := (List.getElem?_eq_some_iff.mp hy).1
        omega
      have nTD : D ≠ T := ne_of_none s2.2 nT
      have sT : Same H1 (upd H2 T (.tup [x, y])) := fun b o e => updN (ne_of_none (s2.1 _ _ e) nT) (s2.1 _ _ e)
      refine ⟨T, [x, y], rfl, sqT updS, rfl, x, [y], rfl, y, [], rfl, rfl, rfl, ?_⟩
      refine ⟨_, rfl, _, rfl, Cmp.run ((hc i x y bs[i] hx hy (List.getElem?_eq_getElem hi)).mono (sm.trans sT)) ⟨(bs.take i).map V.bl, updN nTD s2.2, ?_, ?_⟩⟩
      · refine Nat.lt_of_le_of_lt (?_ : _ ≤ 100000) (by decide)
        rw [List.length_map, List.length_take]
        omega
      · refine ⟨fun b o e => updN (ne_of_none e nD) (sT _ _ e), ?_⟩
        rw [updS, List.take_add_one, List.getElem?_eq_getElem hi, List.map_append]
        rfl
    · refine ⟨D, bs, rfl, sqL ?_, k _ (sm.trans s2.1)⟩
      rw [s2.2, List.take_of_length_le (by omega)]
  refine ⟨_, rfl, _, rfl, _, rfl, p, xs, rfl, sqT hp, fun e => ?_, fun e q nq => ?_⟩
  · have e0 : xs.drop 1 = xs := by
      have e1 := e.1
      rw [show HT.sIx xs.length 0 (some 1) = min 1 xs.length from HT.sIx_nat xs.length 0 1] at e1
      have : xs.length = 0 := by omega
      rw [List.eq_nil_of_length_eq_zero this]
      rfl
    exact ⟨p, p, xs, xs, rfl, .inr ⟨sqT hp, sqT hp, main p H (Same.refl H) (by rw [e0]; exact hp)⟩⟩
  · have s1 : Same H (upd H q (.tup (cutV xs (some 1) none))) := fun b o e => updN (ne_of_none e nq) e
    refine ⟨p, q, xs, _, rfl, .inr ⟨sqT (s1 _ _ hp), sqT updS, main q _ s1 ?_⟩⟩
    rw [updS, cut1]
end
/-! ### sets of ints as dicts -/
def setOf (ns : List Int) : List (Key × V) := ns.foldl (fun acc n => putK acc (.inl n) (.bl true)) []
theorem setOf_snoc (ns : List Int) (n : Int) : setOf (ns ++ [n]) = putK (setOf ns) (.inl n) (.bl true) := by
  unfold setOf
  rw [List.foldl_append]
  rfl
theorem setOf_length (ns : List Int) : (setOf ns).length ≤ ns.length := by
  have : ∀ (ns : List Int) (acc : List (Key × V)), (ns.foldl (fun acc n => putK acc (.inl n) (.bl true)) acc).length ≤ acc.length + ns.length := by
    intro ns
    induction ns with
    | nil => intro acc; exact Nat.le_refl _
    | cons n r ih =>
      intro acc
      refine Nat.le_trans (ih (putK acc (.inl n) (.bl true))) ?_
      have := length_putK acc (.inl n : Key) (.bl true)
      rw [List.length_cons]
      omega
  have h := this ns []
  rw [List.length_nil, Nat.zero_add] at h
  exact h
theorem setOf_has (ns : List Int) (j : Int) : (valV (setOf ns) (.inl j)).isSome = ns.contains j := by
  have : ∀ (ns : List Int) (acc : List (Key × V)), (valV (ns.foldl (fun acc n => putK acc (.inl n) (.bl true)) acc) (.inl j)).isSome = ((valV acc (.inl j)).isSome || ns.contains j) := by
    intro ns
    induction ns with
    | nil => intro acc; simp
    | cons n r ih =>
      intro acc
      show (valV (r.foldl (fun acc n => putK acc (.inl n) (.bl true)) (putK acc (.inl n) (.bl true))) (.inl j)).isSome = _
      rw [ih, valV_put, List.contains_cons]
      by_cases e : j = n
      · subst e
        simp
      · have e2 : ¬ (Sum.inl j : Key) = Sum.inl n := fun z => e (Sum.inl.inj z)
        rw [if_neg e2, show (j == n) = false from beq_eq_false_iff_ne.mpr e, Bool.false_or]
  have h := this ns []
  rw [valV_nil] at h
  unfold setOf
  simpa using h
theorem take_snoc {α : Type} {l : List α} {i : Nat} {x : α} (h : l[i]? = some x) : l.take (i + 1) = l.take i ++ [x] := by
  rw [List.take_add_one, h]
  rfl
/-! ### rising, versions, links -/
def isRisingD : Dt → Bool
  | .tup ds => ds.all isIntD && adj ltD ds
  | _ => false
def geZ : Dt → Bool
  | .int i => decide (0 ≤ i)
  | _ => false
def areVersionsD : Dt → Bool
  | .tup ds => (ds.all isIntD && adj ltD ds) && (decide (ds.length ≤ 400) && ds.all geZ)
  | _ => false
def isLinkD (ns : List Int) : Dt → Bool
  | .tup [.int a, .int b] => ns.contains a && (ns.contains b && decide (b < a))
  | _ => false
def areLinksD (ns : List Int) : Dt → Bool
  | .tup ds => decide (ds.length ≤ 2000) && (ds.all (isLinkD ns) && adj ltD ds)
  | _ => false
def isShapeD : Dt → Bool
  | .tup [v, l] => areVersionsD v && areLinksD (match v with | .tup ds => ints1 ds | _ => []) l
  | _ => false
theorem isLinkD_two (ns : List Int) (a b : Int) : isLinkD ns (.tup [.int a, .int b]) = (ns.contains a && (ns.contains b && decide (b < a))) := rfl
theorem isRisingD_tup (ds : List Dt) : isRisingD (.tup ds) = (ds.all isIntD && adj ltD ds) := rfl
theorem areVersionsD_tup (ds : List Dt) : areVersionsD (.tup ds) = ((ds.all isIntD && adj ltD ds) && (decide (ds.length ≤ 400) && ds.all geZ)) := rfl
theorem areLinksD_tup (ns : List Int) (ds : List Dt) : areLinksD ns (.tup ds) = (decide (ds.length ≤ 2000) && (ds.all (isLinkD ns) && adj ltD ds)) := rfl
def isIntsD : Dt → Bool
  | .tup ds => ds.all isIntD
  | _ => false
def sp_is_intsD (_ : PySem.W.Frag) : Sp := fun vs H Q _ => ∃ (x : V) (d : Dt), vs = [x] ∧ At H x d ∧ ∀ H', Same H H' → Q (.bl (isIntsD d)) H'
theorem len_is_intsD {K : PySem.W.Frag} {vs : List V} {H : Hp} {Q : VK} {E : XK} (h : sp_is_intsD K vs H Q E) : vs.length = 1 := by
  obtain ⟨_, _, rfl, _⟩ := h
  rfl
def sp_is_rising (_ : PySem.W.Frag) : Sp := fun vs H Q _ => ∃ (x : V) (d : Dt), vs = [x] ∧ At H x d ∧ ∀ H', Same H H' → Q (.bl (isRisingD d)) H'
def sp_are_versions (_ : PySem.W.Frag) : Sp := fun vs H Q _ => ∃ (x : V) (d : Dt), vs = [x] ∧ At H x d ∧ ∀ H', Same H H' → Q (.bl (areVersionsD d)) H'
def sp_is_link (_ : PySem.W.Frag) : Sp := fun vs H Q _ => ∃ (x : V) (d : Dt) (k : Addr) (kvs : List (Key × V)) (ns : List Int), vs = [x, .ref k] ∧ At H x d ∧ H k = some (.dK kvs) ∧ (∀ i : Int, (valV kvs (.inl i)).isSome = ns.contains i) ∧ Q (.bl (isLinkD ns d)) H
def sp_are_links (_ : PySem.W.Frag) : Sp := fun vs H Q _ => ∃ (x y : V) (d : Dt) (ns : List Int), vs = [x, y] ∧ At H x d ∧ At H y (.tup (ns.map Dt.int)) ∧ ∀ H', Same H H' → Q (.bl (areLinksD ns d)) H'
abbrev N_is_ints : List Str := ["thing", "part"]
def t_is_ints (K : PySem.W.Frag) : TS := (tRet (tAndV (tCB (rIsi K) (tCons (tVar 0) (tCons (tC (.ty "tuple")) tNil))) (tCB (rAll K) (tCons (tLc (iTup K (tVar 0)) (gName 1) tYes (tCall (sp_is_int K) [] E0 (tCons (tVar 1) tNil)) [1]) tNil))))
abbrev N_is_rising : List Str := ["thing"]
def t_is_rising (K : PySem.W.Frag) : TS := (tRet (tAndV (tCall (sp_is_intsD K) [] E0 (tCons (tVar 0) tNil)) (tCall (sp_rises K) [] E0 (tCons (tVar 0) tNil))))
abbrev N_are_versions : List Str := ["thing", "version"]
def t_are_versions (K : PySem.W.Frag) : TS := (tRet (tAndV (tCall (sp_is_rising K) [] E0 (tCons (tVar 0) tNil)) (tAndV (tOp rLeI (tCB (fLen K) (tCons (tVar 0) tNil)) (tC (.int 400))) (tCB (rAll K) (tCons (tLc (iTup K (tVar 0)) (gName 1) tYes (tOp rGeI (tVar 1) (tC (.int 0))) [1]) tNil)))))
abbrev N_is_link : List Str := ["thing", "known"]
def t_is_link (K : PySem.W.Frag) : TS := (tSeq (tIfS (tOr (tNot (tB (tCall (sp_is_pair K) [] E0 (tCons (tVar 0) tNil)))) (tOr (tNot (tB (tCall (sp_is_int K) [] E0 (tCons (tOp (rIx K) (tVar 0) (tC (.int 0))) tNil)))) (tNot (tB (tCall (sp_is_int K) [] E0 (tCons (tOp (rIx K) (tVar 0) (tC (.int 1))) tNil)))))) (tRet (tC (.bl false))) tNext)
    (tRet (tAndV (tDIn (tOp (rIx K) (tVar 0) (tC (.int 0))) (tVar 1)) (tAndV (tDIn (tOp (rIx K) (tVar 0) (tC (.int 1))) (tVar 1)) (tOp rLtI (tOp (rIx K) (tVar 0) (tC (.int 1))) (tOp (rIx K) (tVar 0) (tC (.int 0))))))))
abbrev N_are_links : List Str := ["thing", "versions", "known", "version", "link"]
def t_are_links (K : PySem.W.Frag) : TS := (tSeq (tIfS (tOr (tNot (tB (tCB (rIsi K) (tCons (tVar 0) (tCons (tC (.ty "tuple")) tNil))))) (tTest (tOp rGtI (tCB (fLen K) (tCons (tVar 0) tNil)) (tC (.int 2000))))) (tRet (tC (.bl false))) tNext)
    (tSeq (tAsg (tDc (iTup K (tVar 1)) (gName 3) tYes (tVar 3) (tC (.bl true)) [3]) (gName 2))
    (tRet (tAndV (tCB (rAll K) (tCons (tLc (iTup K (tVar 0)) (gName 4) tYes (tCall (sp_is_link K) [] E0 (tCons (tVar 4) (tCons (tVar 2) tNil))) [4]) tNil)) (tCall (sp_rises K) [] E0 (tCons (tVar 0) tNil))))))
theorem cmp_of {H : Hp} {x y : V} {d e : Dt} (ax : At H x d) (ay : At H y e) (h : (∃ i j, d = .int i ∧ e = .int j) ∨ (∃ a b c f, d = .tup [.int a, .int b] ∧ e = .tup [.int c, .int f])) : Cmp H x y (ltD d e) := by
  rcases h with ⟨i, j, rfl, rfl⟩ | ⟨a, b, c, f, rfl, rfl⟩
  · exact .inl ⟨i, j, ax.int_inv, ay.int_inv, rfl⟩
  · obtain ⟨p, u, v, rfl, hp, a1, a2⟩ := ax.pair_inv
    obtain ⟨q, s, t, rfl, hq, b1, b2⟩ := ay.pair_inv
    rw [a1.int_inv, a2.int_inv] at hp
    rw [b1.int_inv, b2.int_inv] at hq
    exact .inr ⟨p, q, [a, b], [c, f], rfl, rfl, hp, hq, rfl⟩
section
variable {K : PySem.W.Frag} {vs : List V} {H : Hp} {Q : VK} {E : XK}
theorem len_is_rising (h : sp_is_rising K vs H Q E) : vs.length = 1 := by
  obtain ⟨_, _, rfl, _⟩ := h
  rfl
theorem len_are_versions (h : sp_are_versions K vs H Q E) : vs.length = 1 := by
  obtain ⟨_, _, rfl, _⟩ := h
  rfl
theorem len_is_link (h : sp_is_link K vs H Q E) : vs.length = 2 := by
  obtain ⟨_, _, _, _, _, rfl, _⟩ := h
  rfl
theorem len_are_links (h : sp_are_links K vs H Q E) : vs.length = 2 := by
  obtain ⟨_, _, _, _, rfl, _⟩ := h
  rfl
theorem map_all {α : Type} (f : α → Bool) (l : List α) : (l.map f).all id = l.all f := by
  rw [List.all_map]
  rfl
/-- rises of a tuple that is data of which all are ints, or all pairs of ints -/
theorem rises_at {p : Addr} {xs : List V} {ds : List Dt} {R : VK} (hp : H p = some (.tup xs)) (hz : xs.length ≤ 100000) (hl : xs.length = ds.length) (ha : ∀ (i : Nat) (x : V) (d : Dt), xs[i]? = some x → ds[i]? = some d → At H x d)
    (hd : (∀ d ∈ ds, ∃ i, d = .int i) ∨ ∀ d ∈ ds, ∃ a b, d = .tup [.int a, .int b]) (k : ∀ H', Same H H' → R (.bl (adj ltD ds)) H') : sp_rises K [.ref p] H R E := by
  refine ⟨p, xs, adjL ltD ds, rfl, hp, hz, by rw [adjL_length, hl], fun i x y b hx hy hb => ?_, k⟩
  have h1 : i < ds.length := by
    rw [← hl]
    exact (List.getElem?_eq_some_iff.mp hx).1
  have h2 : i + 1 < ds.length := by
    rw [← hl]
    exact (List.getElem?_eq_some_iff.mp hy).1
  have e1 := List.getElem?_eq_getElem h1
  have e2 := List.getElem?_eq_getElem h2
  rw [adjL_get e1 e2 hb]
  refine cmp_of (ha i x _ hx e1) (ha (i + 1) y _ hy e2) ?_
  rcases hd with hd | hd
  · obtain ⟨a, ea⟩ := hd _ (List.getElem_mem h1)
    obtain ⟨b, eb⟩ := hd _ (List.getElem_mem h2)
    exact .inl ⟨a, b, ea, eb⟩
  · obtain ⟨a, b, ea⟩ := hd _ (List.getElem_mem h1)
    obtain ⟨c, f, eb⟩ := hd _ (List.getElem_mem h2)
    exact .inr ⟨a, b, c, f, ea, eb⟩
theorem mem_int {ds : List Dt} (h : ds.all isIntD = true) : ∀ d ∈ ds, ∃ i, d = .int i := fun d hd => by
  have := List.all_eq_true.mp h d hd
  cases d with
  | int i => exact ⟨i, rfl⟩
  | _ => cases this
theorem pure_is_intsD (h : sp_is_intsD K vs H Q E) : t_is_ints K { nx := fun _ H' => Q .non H', rt := Q } (start N_is_ints vs) H := by
  obtain ⟨x, d, rfl, a, k⟩ := h
  refine ⟨_, rfl, isiTup a ⟨_, rfl, ?_⟩⟩
  cases a with
  | @tup p xs ds hp hz hl ha =>
    refine iteT ⟨_, rfl, p, rfl, ⟨_, sqT hp⟩, fun D nD => ?_⟩
    have up : ∀ acc, Same H (upd H D (.lst acc)) := fun acc b o e => updN (ne_of_none e nD) e
    refine lc_mapT (K := K) (a := p) (xs := xs) (ys := (ds.map isIntD).map V.bl) (fun acc => sqT (up acc _ _ hp)) (by simp [hl]) hz (fun i x y acc R hx hy r => ?_) ?_ mono_yes mono_gName
    · rw [List.getElem?_map, List.getElem?_map] at hy
      cases e : ds[i]? with
      | none => rw [e] at hy; cases hy
      | some d =>
        rw [e] at hy
        cases Option.some.inj hy
        exact ⟨rfl, ⟨_, rfl, x, d, rfl, (ha i x d hx e).mono (up acc), r⟩⟩
    · refine ⟨D, _, rfl, sqL updS, ?_⟩
      rw [map_all]
      exact k _ (up _)
  | _ => exact iteF (k _ (Same.refl H))
theorem pure_is_rising (h : sp_is_rising K vs H Q E) : t_is_rising K { nx := fun _ H' => Q .non H', rt := Q } (start N_is_rising vs) H := by
  obtain ⟨x, d, rfl, a, k⟩ := h
  refine ⟨_, rfl, x, d, rfl, a, fun H1 s1 => ⟨_, rfl, ?_⟩⟩
  cases a with
  | @tup p xs ds hp hz hl ha =>
    show if ds.all isIntD = true then _ else _
    refine ite2 (fun e => ?_) (fun e => ?_)
    · refine ⟨_, rfl, rises_at (K := K) (E := E0) (ds := ds) (s1 _ _ hp) hz hl (fun i x d h1 h2 => (ha i x d h1 h2).mono s1) (.inl (mem_int e)) fun H' s => ?_⟩
      have := k H' (s1.trans s)
      rw [isRisingD_tup, e, Bool.true_and] at this
      exact this
    · have e2 : ds.all isIntD = false := by
        cases q : ds.all isIntD with
        | true => exact absurd q e
        | false => rfl
      have := k _ s1
      rw [isRisingD_tup, e2, Bool.false_and] at this
      exact this
  | _ => exact iteF (k _ s1)
theorem pure_are_versions (h : sp_are_versions K vs H Q E) : t_are_versions K { nx := fun _ H' => Q .non H', rt := Q } (start N_are_versions vs) H := by
  obtain ⟨x, d, rfl, a, k⟩ := h
  refine ⟨_, rfl, x, d, rfl, a, fun H1 s1 => ⟨_, rfl, ?_⟩⟩
  have k1 : ∀ H', Same H1 H' → Q (.bl (areVersionsD d)) H' := fun H' s => k H' (s1.trans s)
  have a1 := a.mono s1
  cases a1 with
  | @tup p xs ds hp hz hl ha =>
    show if (ds.all isIntD && adj ltD ds) = true then _ else _
    refine ite2 (fun e => ?_) (fun e => ?_)
    · refine ⟨_, rfl, lenT hp ⟨_, _, rfl, rfl, _, rfl, ite2 (fun e2 => ?_) (fun e2 => ?_)⟩⟩
      · have e3 : decide (ds.length ≤ 400) = true := by
          have : (xs.length : Int) ≤ 400 := of_decide_eq_true e2
          exact decide_eq_true (by omega)
        refine ⟨_, rfl, p, rfl, ⟨_, sqT hp⟩, fun D nD => ?_⟩
        have up : ∀ acc, Same H1 (upd H1 D (.lst acc)) := fun acc b o e => updN (ne_of_none e nD) e
        refine lc_mapT (K := K) (a := p) (xs := xs) (ys := (ds.map geZ).map V.bl) (fun acc => sqT (up acc _ _ hp)) (by simp [hl]) hz (fun i x y acc R hx hy r => ?_) ?_ mono_yes mono_gName
        · rw [List.getElem?_map, List.getElem?_map] at hy
          cases ee : ds[i]? with
          | none => rw [ee] at hy; cases hy
          | some d =>
            rw [ee] at hy
            cases Option.some.inj hy
            rw [Bool.and_eq_true] at e
            obtain ⟨z, rfl⟩ := mem_int e.1 d (List.mem_of_getElem? ee)
            have := (ha i x _ hx ee).int_inv
            subst this
            exact ⟨rfl, ⟨_, rfl, _, _, rfl, rfl, r⟩⟩
        · refine ⟨D, _, rfl, sqL updS, ?_⟩
          rw [map_all]
          have := k1 _ (up ((ds.map geZ).map V.bl))
          rw [areVersionsD_tup, e, e3, Bool.true_and, Bool.true_and] at this
          exact this
      · have e3 : decide (ds.length ≤ 400) = false := decide_eq_false fun z => e2 (decide_eq_true (by omega))
        have := k1 _ (Same.refl H1)
        rw [areVersionsD_tup, e, e3, Bool.true_and, Bool.false_and] at this
        exact this
    · have e2 : (ds.all isIntD && adj ltD ds) = false := by
        cases q : (ds.all isIntD && adj ltD ds) with
        | true => exact absurd q e
        | false => rfl
      have := k1 _ (Same.refl H1)
      rw [areVersionsD_tup, e2, Bool.false_and] at this
      exact this
  | _ => exact iteF (k1 _ (Same.refl H1))
theorem link_no {ns : List Int} {e f : Dt} (h : ¬ (isIntD e = true ∧ isIntD f = true)) : isLinkD ns (.tup [e, f]) = false := by
  cases e <;> cases f <;> first | rfl | exact absurd ⟨rfl, rfl⟩ h
theorem pure_is_link (h : sp_is_link K vs H Q E) : t_is_link K { nx := fun _ H' => Q .non H', rt := Q } (start N_is_link vs) H := by
  obtain ⟨x, d, kk, kvs, ns, rfl, a, hk, hh, k⟩ := h
  refine ⟨_, rfl, x, d, rfl, a, _, rfl, ?_⟩
  by_cases hp : isPairD d = true
  · rw [hp]
    refine iteF ?_
    cases d with
    | tup ds =>
      have h2 : ds.length = 2 := of_decide_eq_true hp
      match ds, h2 with
      | [e, f], _ =>
        obtain ⟨p, y, z, rfl, hpp, ay, az⟩ := a.pair_inv
        refine ⟨_, rfl, ixT hpp rfl ⟨y, e, rfl, ay, _, rfl, ?_⟩⟩
        by_cases he : isIntD e = true
        · rw [he]
          refine iteF ⟨_, rfl, ixT hpp rfl ⟨z, f, rfl, az, _, rfl, ?_⟩⟩
          by_cases hf : isIntD f = true
          · rw [hf]
            refine iteF ?_
            cases e with
            | int i =>
              cases f with
              | int j =>
                have ey := ay.int_inv
                have ez := az.int_inv
                subst ey ez
                refine ⟨_, rfl, ixT hpp rfl ⟨_, rfl, kk, _, rfl, DGet.k (k := Sum.inl i) hk, _, rfl, ?_⟩⟩
                rw [hh]
                refine ite2 (fun e1 => ?_) (fun e1 => ?_)
                · refine ⟨_, rfl, ixT hpp rfl ⟨_, rfl, kk, _, rfl, DGet.k (k := Sum.inl j) hk, _, rfl, ?_⟩⟩
                  rw [hh]
                  refine ite2 (fun e2 => ?_) (fun e2 => ?_)
                  · refine ⟨_, rfl, ixT hpp rfl ⟨_, rfl, ixT hpp rfl ⟨_, _, rfl, rfl, ?_⟩⟩⟩
                    rw [isLinkD_two, e1, e2, Bool.true_and, Bool.true_and] at k
                    exact k
                  · rw [isLinkD_two, e1, Bool.eq_false_iff.mpr e2, Bool.true_and, Bool.false_and] at k
                    exact k
                · rw [isLinkD_two, Bool.eq_false_iff.mpr e1, Bool.false_and] at k
                  exact k
              | _ => cases hf
            | _ => cases he
          · rw [Bool.eq_false_iff.mpr hf]
            refine iteT ?_
            rw [link_no (fun q => hf q.2)] at k
            exact k
        · rw [Bool.eq_false_iff.mpr he]
          refine iteT ?_
          rw [link_no (fun q => he q.1)] at k
          exact k
    | _ => cases hp
  · rw [Bool.eq_false_iff.mpr hp]
    refine iteT ?_
    have e : isLinkD ns d = false := by
      cases d with
      | tup ds =>
        match ds, hp with
        | [], _ => rfl
        | [x], _ => cases x <;> rfl
        | [x, y], hp => exact absurd rfl hp
        | x :: y :: z :: r, _ => cases x <;> first | rfl | (cases y <;> rfl)
      | _ => rfl
    rw [e] at k
    exact k
theorem mem_link {ns : List Int} {ds : List Dt} (h : ds.all (isLinkD ns) = true) : ∀ d ∈ ds, ∃ a b, d = .tup [.int a, .int b] := fun d hd => by
  have := List.all_eq_true.mp h d hd
  unfold isLinkD at this
  split at this
  · exact ⟨_, _, rfl⟩
  · cases this
theorem pure_are_links (h : sp_are_links K vs H Q E) : t_are_links K { nx := fun _ H' => Q .non H', rt := Q } (start N_are_links vs) H := by
  obtain ⟨x, y, d, ns, rfl, a, ay, k⟩ := h
  refine ⟨_, rfl, isiTup a ⟨_, rfl, ?_⟩⟩
  cases a with
  | @tup p xs ds hp hz hl ha =>
    refine iteF ⟨_, rfl, lenT hp ⟨_, _, rfl, rfl, _, rfl, ite2 (fun e => ?_) (fun e => ?_)⟩⟩
    · have e2 : decide (ds.length ≤ 2000) = false := decide_eq_false fun z => by
        have : (2000 : Int) < xs.length := of_decide_eq_true e
        omega
      have := k _ (Same.refl H)
      rw [areLinksD_tup, e2, Bool.false_and] at this
      exact this
    · have e2 : decide (ds.length ≤ 2000) = true := by
        refine decide_eq_true ?_
        have : ¬ (2000 : Int) < xs.length := fun z => e (decide_eq_true z)
        omega
      obtain ⟨q, rfl, hq, hnz⟩ := ay.to_ints
      -- known = {version: True for version in versions}
      refine ⟨_, rfl, q, rfl, ⟨_, sqT hq⟩, fun D nD => ?_⟩
      have up : ∀ kvs, Same H (upd H D (.dK kvs)) := fun kvs b o e => updN (ne_of_none e nD) e
      refine dc_tup (K := K) (a := q) (xs := ns.map V.int) (fun i H2 => H2 = upd H D (.dK (setOf (ns.take i)))) (by rw [List.take_zero]; rfl) (fun i H2 _ e => by rw [e]; exact sqT (up _ _ _ hq)) (fun i x H2 hx e => ?_) (fun H2 e => ?_)
      · subst e
        rw [List.getElem?_map] at hx
        cases en : ns[i]? with
        | none => rw [en] at hx; cases hx
        | some n =>
          rw [en] at hx
          cases Option.some.inj hx
          refine ⟨rfl, ⟨_, rfl, setOf (ns.take i), Sum.inl n, rfl, updS, ?_, ?_⟩⟩
          · refine Nat.lt_of_le_of_lt (Nat.le_trans (setOf_length _) ?_ : _ ≤ 100000) (by decide)
            rw [List.length_take]
            omega
          · rw [upd_upd, take_snoc en, setOf_snoc]
      · subst e
        rw [List.length_map, List.take_length]
        -- all([is_link(link, known) for link in thing])
        refine ⟨_, rfl, p, rfl, ⟨_, sqT (up _ _ _ hp)⟩, fun M nM => ?_⟩
        have nMD : M ≠ D := fun z => by rw [z, updS] at nM; cases nM
        have s2 : ∀ acc, Same (upd H D (.dK (setOf ns))) (upd (upd H D (.dK (setOf ns))) M (.lst acc)) := fun acc b o e => updN (ne_of_none e nM) e
        refine lc_mapT (K := K) (a := p) (xs := xs) (ys := (ds.map (isLinkD ns)).map V.bl) (fun acc => sqT (s2 acc _ _ (up _ _ _ hp))) (by simp [hl]) hz (fun i x y acc R hx hy r => ?_) ?_ mono_yes mono_gName
        · rw [List.getElem?_map, List.getElem?_map] at hy
          cases ee : ds[i]? with
          | none => rw [ee] at hy; cases hy
          | some d =>
            rw [ee] at hy
            cases Option.some.inj hy
            exact ⟨rfl, ⟨_, rfl, _, rfl, x, d, D, setOf ns, ns, rfl, (ha i x d hx ee).mono ((up _).trans (s2 acc)), updN nMD.symm updS, setOf_has ns, r⟩⟩
        · refine ⟨M, _, rfl, sqL updS, _, rfl, ?_⟩
          rw [map_all]
          show if ds.all (isLinkD ns) = true then _ else _
          have kk : ∀ H', Same (upd (upd H D (.dK (setOf ns))) M (.lst ((ds.map (isLinkD ns)).map V.bl))) H' → Q (.bl (areLinksD ns (.tup ds))) H' := fun H' s => k H' (((up _).trans (s2 _)).trans s)
          refine ite2 (fun e3 => ?_) (fun e3 => ?_)
          · refine ⟨_, rfl, rises_at (K := K) (E := E0) (ds := ds) (s2 _ _ _ (up _ _ _ hp)) hz hl (fun i x d h1 h2 => (ha i x d h1 h2).mono ((up _).trans (s2 _))) (.inr (mem_link e3)) fun H' s => ?_⟩
            have := kk H' s
            rw [areLinksD_tup, e2, e3, Bool.true_and, Bool.true_and] at this
            exact this
          · have := kk _ (Same.refl _)
            rw [areLinksD_tup, e2, Bool.eq_false_iff.mpr e3, Bool.true_and, Bool.false_and] at this
            exact this
  | _ => exact iteT (k _ (Same.refl H))
end
end Fw

set_option Elab.async false
set_option linter.all false
set_option maxRecDepth 100000
set_option maxHeartbeats 4000000
namespace Fw
open PySem L2 RZ RT
/-! ### good shapes -/
def lkLt (a b : Int × Int) : Prop := a.1 < b.1 ∨ (a.1 = b.1 ∧ a.2 < b.2)
structure Good (vs : List Int) (ls : List (Int × Int)) : Prop where
  inc : vs.Pairwise (· < ·)
  nn : ∀ v ∈ vs, 0 ≤ v
  mem : ∀ l ∈ ls, l.1 ∈ vs ∧ l.2 ∈ vs ∧ l.2 < l.1
  lex : ls.Pairwise lkLt
theorem good_nil : Good [] [] := ⟨.nil, (fun _ h => by cases h), (fun _ h => by cases h), .nil⟩
/-- the links at these addresses -/
def LkAt (H : Hp) (rs : List Addr) (ls : List (Int × Int)) : Prop := rs.length = ls.length ∧ ∀ (i : Nat) (a : Addr) (l : Int × Int), rs[i]? = some a → ls[i]? = some l → H a = some (.tup [.int l.1, .int l.2])
def ShapeAt (H : Hp) (p : Addr) (vs : List Int) (ls : List (Int × Int)) : Prop := ∃ (q r : Addr) (rs : List Addr), H p = some (.tup [.ref q, .ref r]) ∧ H q = some (.tup (vs.map V.int)) ∧ H r = some (.tup (rs.map V.ref)) ∧ LkAt H rs ls
theorem LkAt.mono {H H' : Hp} {rs : List Addr} {ls : List (Int × Int)} (h : LkAt H rs ls) (s : ∀ (a : Addr) (xs : List V), H a = some (.tup xs) → H' a = some (.tup xs)) : LkAt H' rs ls := ⟨h.1, fun i a l h1 h2 => s _ _ (h.2 i a l h1 h2)⟩
theorem ShapeAt.mono {H H' : Hp} {p : Addr} {vs : List Int} {ls : List (Int × Int)} (h : ShapeAt H p vs ls) (s : ∀ (a : Addr) (xs : List V), H a = some (.tup xs) → H' a = some (.tup xs)) : ShapeAt H' p vs ls := by
  obtain ⟨q, r, rs, h1, h2, h3, h4⟩ := h
  exact ⟨q, r, rs, s _ _ h1, s _ _ h2, s _ _ h3, h4.mono s⟩
theorem LkAt.snoc {H : Hp} {rs : List Addr} {ls : List (Int × Int)} {T : Addr} {l : Int × Int} (h : LkAt H rs ls) (hT : H T = some (.tup [.int l.1, .int l.2])) : LkAt H (rs ++ [T]) (ls ++ [l]) := by
  refine ⟨by rw [List.length_append, List.length_append, h.1]; rfl, fun i a m h1 h2 => ?_⟩
  by_cases hi : i < rs.length
  · rw [List.getElem?_append_left hi] at h1
    rw [List.getElem?_append_left (by rw [← h.1]; exact hi)] at h2
    exact h.2 i a m h1 h2
  · have hi2 : i < (rs ++ [T]).length := (List.getElem?_eq_some_iff.mp h1).1
    rw [List.length_append, List.length_singleton] at hi2
    have e : i = rs.length := by omega
    rw [List.getElem?_append_right (by omega), e, Nat.sub_self] at h1
    rw [List.getElem?_append_right (by rw [← h.1]; omega), e, h.1, Nat.sub_self] at h2
    cases Option.some.inj h1
    cases Option.some.inj h2
    exact hT
theorem Dk.upd {c D q : Addr} {ns : List Int} {t : Nat} {H : Hp} {o : HO} (d : Dk c D ns t H) (h1 : q ≠ c) (h2 : q ≠ D) : Dk c D ns t (L2.upd H q o) := by
  obtain ⟨a, b, e, i, n, u, h, r⟩ := d
  exact ⟨a, updN h1.symm b, e, i, n, u, updN h2.symm h, r⟩
theorem Dk.le {c D : Addr} {ns : List Int} {t t' : Nat} {H : Hp} (d : Dk c D ns t H) (h : t ≤ t') : Dk c D ns t' H := by
  obtain ⟨a, b, e, i, n, u, hh, r1, r2, r3, r4, r5⟩ := d
  exact ⟨a, b, e, i, n, u, hh, r1, r2, r3, r4, by omega⟩
theorem Dk.someD {c D : Addr} {ns : List Int} {t : Nat} {H : Hp} (d : Dk c D ns t H) : ∃ xs, H D = some (.lst xs) := by
  obtain ⟨_, _, _, _, _, _, h, _⟩ := d
  exact ⟨_, h⟩
theorem Dk.someC {c D : Addr} {ns : List Int} {t : Nat} {H : Hp} (d : Dk c D ns t H) : ∃ xs, H c = some (.lst xs) := ⟨_, d.2.1⟩
theorem Dk.neD {c D q : Addr} {ns : List Int} {t : Nat} {H : Hp} (d : Dk c D ns t H) (h : H q = none) : q ≠ D := by
  obtain ⟨xs, e⟩ := d.someD
  exact (ne_of_none e h).symm
theorem Dk.neC {c D q : Addr} {ns : List Int} {t : Nat} {H : Hp} (d : Dk c D ns t H) (h : H q = none) : q ≠ c := by
  obtain ⟨xs, e⟩ := d.someC
  exact (ne_of_none e h).symm
/-- all but the deck stands -/
def Kp (D : Addr) (H H' : Hp) : Prop := ∀ b o, H b = some o → b ≠ D → H' b = some o
theorem Kp.refl (D : Addr) (H : Hp) : Kp D H H := fun _ _ e _ => e
theorem Kp.trans {D : Addr} {H H1 H2 : Hp} (a : Kp D H H1) (b : Kp D H1 H2) : Kp D H H2 := fun x o e n => b x o (a x o e n) n
theorem Kp.fr {D : Addr} {H H' : Hp} (f : ∀ b, b ≠ D → H' b = H b) : Kp D H H' := fun b o e n => by rw [f b n]; exact e
theorem Kp.new {D q : Addr} {H : Hp} {o : HO} (n : H q = none) : Kp D H (L2.upd H q o) := fun b u e _ => updN (ne_of_none e n) e
theorem Kp.of_same {D : Addr} {H H' : Hp} (s : Same H H') : Kp D H H' := fun b o e _ => s b o e
theorem Kp.tup {D : Addr} {H H' : Hp} {c : Addr} {ns : List Int} {t : Nat} (k : Kp D H H') (d : Dk c D ns t H) (a : Addr) (xs : List V) (h : H a = some (.tup xs)) : H' a = some (.tup xs) := by
  obtain ⟨ys, e⟩ := d.someD
  exact k a _ h (ne_of h e (by intro z; cases z))
/-- what was free at first, behind what keeps -/
theorem Kp.free {D q : Addr} {H H' : Hp} (k : Kp D H H') (h : H' q = none) (n : q ≠ D) : H q = none := by
  cases e : H q with
  | none => rfl
  | some o => rw [k q o e n] at h; cases h
/-- where two lists of one's own grow: versions and links -/
structure SI (H0 : Hp) (c D LV LL : Addr) (ns : List Int) (t : Nat) (vs : List Int) (rs : List Addr) (ls : List (Int × Int)) (H : Hp) : Prop where
  dk : Dk c D ns t H
  keep : Kp D H0 H
  hv : H LV = some (.lst (vs.map V.int))
  hl : H LL = some (.lst (rs.map V.ref))
  pr : LkAt H rs ls
  d0 : ∃ t0, Dk c D ns t0 H0
  v0 : H0 LV = none
  l0 : H0 LL = none
  ne : LV ≠ LL
section
variable {H0 H H' : Hp} {c D LV LL q : Addr} {ns : List Int} {t t' : Nat} {vs : List Int} {rs : List Addr} {ls : List (Int × Int)} {o : HO}
theorem SI.vD (s : SI H0 c D LV LL ns t vs rs ls H) : LV ≠ D := s.d0.choose_spec.neD s.v0
theorem SI.vC (s : SI H0 c D LV LL ns t vs rs ls H) : LV ≠ c := s.d0.choose_spec.neC s.v0
theorem SI.lD (s : SI H0 c D LV LL ns t vs rs ls H) : LL ≠ D := s.d0.choose_spec.neD s.l0
theorem SI.lC (s : SI H0 c D LV LL ns t vs rs ls H) : LL ≠ c := s.d0.choose_spec.neC s.l0
theorem SI.draw (s : SI H0 c D LV LL ns t vs rs ls H) (d : Dk c D ns t' H') (f : ∀ b, b ≠ D → H' b = H b) : SI H0 c D LV LL ns t' vs rs ls H' :=
  ⟨d, s.keep.trans (.fr f), by rw [f _ s.vD]; exact s.hv, by rw [f _ s.lD]; exact s.hl, s.pr.mono fun a xs h => (Kp.fr f).tup s.dk a xs h, s.d0, s.v0, s.l0, s.ne⟩
theorem SI.new (s : SI H0 c D LV LL ns t vs rs ls H) (n : H q = none) : SI H0 c D LV LL ns t vs rs ls (upd H q o) :=
  ⟨s.dk.upd (s.dk.neC n) (s.dk.neD n), s.keep.trans (.new n), updN (ne_of_none s.hv n) s.hv, updN (ne_of_none s.hl n) s.hl, s.pr.mono fun a xs h => updN (ne_of_none h n) h, s.d0, s.v0, s.l0, s.ne⟩
theorem SI.addV (s : SI H0 c D LV LL ns t vs rs ls H) (x : Int) : SI H0 c D LV LL ns t (vs ++ [x]) rs ls (upd H LV (.lst (vs.map V.int ++ [.int x]))) :=
  ⟨s.dk.upd s.vC s.vD, fun b u e n => updN (ne_of_none e s.v0) (s.keep b u e n), by rw [updS, List.map_append]; rfl, updN s.ne.symm s.hl, s.pr.mono fun a xs h => updN (ne_of h s.hv (by intro z; cases z)) h, s.d0, s.v0, s.l0, s.ne⟩
theorem SI.addL (s : SI H0 c D LV LL ns t vs rs ls H) {T : Addr} {l : Int × Int} (hT : H T = some (.tup [.int l.1, .int l.2])) : SI H0 c D LV LL ns t vs (rs ++ [T]) (ls ++ [l]) (upd H LL (.lst (rs.map V.ref ++ [.ref T]))) :=
  ⟨s.dk.upd s.lC s.lD, fun b u e n => updN (ne_of_none e s.l0) (s.keep b u e n), updN s.ne s.hv, by rw [updS, List.map_append]; rfl, (s.pr.snoc hT).mono fun a xs h => updN (ne_of h s.hl (by intro z; cases z)) h, s.d0, s.v0, s.l0, s.ne⟩
theorem SI.le (s : SI H0 c D LV LL ns t vs rs ls H) (h : t ≤ t') : SI H0 c D LV LL ns t' vs rs ls H := ⟨s.dk.le h, s.keep, s.hv, s.hl, s.pr, s.d0, s.v0, s.l0, s.ne⟩
end
/-- what a maker of shapes promises: a good shape, new -/
def sp_mkshape (most0 lim : Nat) (len : Int → Nat → Prop) (lks : List Int → List (Int × Int) → Prop) : Sp := fun vs H Q _ => ∃ (c D : Addr) (ns : List Int) (t : Nat) (most : Int), vs = [.ref D, .int most] ∧ Dk c D ns t H ∧ 0 ≤ most ∧ most ≤ most0 ∧ t + lim < 1000000000 ∧
  ∀ (p : Addr) (ws : List Int) (ls : List (Int × Int)) (H' : Hp), Kp D H H' → Dk c D ns (t + lim) H' → ShapeAt H' p ws ls → Good ws ls → len most ws.length → lks ws ls → Q (.ref p) H'
abbrev sp_l_shape (_ : PySem.W.Frag) : Sp := sp_mkshape 60 4000 (fun most n => (n : Int) ≤ most) (fun ws ls => ls.length ≤ ws.length * ws.length)
theorem len_mkshape {a b : Nat} {l : Int → Nat → Prop} {lk : List Int → List (Int × Int) → Prop} {vs : List V} {H : Hp} {Q : VK} {E : XK} (h : sp_mkshape a b l lk vs H Q E) : vs.length = 2 := by
  obtain ⟨_, _, _, _, _, rfl, _⟩ := h
  rfl
theorem len_l_shape {K : PySem.W.Frag} {vs : List V} {H : Hp} {Q : VK} {E : XK} (h : sp_l_shape K vs H Q E) : vs.length = 2 := len_mkshape h
abbrev N_l_shape : List Str := ["_law_deck_here", "_law_most", "_law_versions", "_law_last", "_law_far", "_law_road", "_law_links", "_law_k", "_law_j", "_law_hit"]
def t_l_shape_h3 (K : PySem.W.Frag) : TS := (tIfS (tB (tVar 9)) (tDrop (tBM K "list" rAppend (tVar 6) (tCons (tTup (tCons (tVar 3) (tCons (tOp (rIx K) (tVar 2) (tVar 8)) tNil))) tNil))) tNext)
def t_l_shape_h2 (K : PySem.W.Frag) : TS := (tSeq (tIfS (tAnd (tTest (tOp rEq (tVar 5) (tC (.int 2)))) (tTest (tOp rEq (tVar 8) (tOp rSubI (tVar 7) (tC (.int 1)))))) (tAsg (tC (.bl true)) (gName 9)) tNext)
    (t_l_shape_h3 K))
def t_l_shape_h1 (K : PySem.W.Frag) : TS := (tSeq (tIfS (tAnd (tTest (tOp rEq (tVar 5) (tC (.int 1)))) (tTest (tOp rGtI (tOp rSubI (tVar 7) (tVar 8)) (tC (.int 2))))) (tAsg (tC (.bl false)) (gName 9)) tNext)
    (t_l_shape_h2 K))
def t_l_shape_app (K : PySem.W.Frag) : TS := (tDrop (tBM K "list" rAppend (tVar 2) (tCons (tVar 3) tNil)))
def t_l_shape_inner (K : PySem.W.Frag) : TS := (tSeq (tFor (iRng1 (tCons (tVar 7) tNil)) (gName 8) (tSeq (tAsg (tOp rEq (tCall (sp_l_draw K) [] E0 (tCons (tVar 0) (tCons (tOp (rIx K) (tLst (tCons (tC (.int 3)) (tCons (tC (.int 2)) (tCons (tC (.int 6)) (tCons (tC (.int 9)) tNil))))) (tVar 5)) tNil))) (tC (.int 0))) (gName 9))
    (t_l_shape_h1 K)))
    (t_l_shape_app K))
def t_l_shape_end (K : PySem.W.Frag) : TS := (tRet (tTup (tCons (tCB (fTupleOf K) (tCons (tVar 2) tNil)) (tCons (tCB (fTupleOf K) (tCons (tVar 6) tNil)) tNil))))
def t_l_shape (K : PySem.W.Frag) : TS := (tSeq (tAsg (tLst tNil) (gName 2))
    (tSeq (tAsg (tUn rNegI (tC (.int 1))) (gName 3))
    (tSeq (tAsg (tCall (sp_l_draw K) [] E0 (tCons (tVar 0) (tCons (tC (.int 4)) tNil))) (gName 4))
    (tSeq (tAsg (tCall (sp_l_draw K) [] E0 (tCons (tVar 0) (tCons (tC (.int 4)) tNil))) (gName 5))
    (tSeq (tAsg (tLst tNil) (gName 6))
    (tSeq (tFor (iRng1 (tCons (tCall (sp_l_draw K) [] E0 (tCons (tVar 0) (tCons (tOp rAddI (tVar 1) (tC (.int 1))) tNil))) tNil)) (gName 7) (tSeq (tAsg (tOp rAddI (tOp rAddI (tVar 3) (tC (.int 1))) (tCall (sp_l_draw K) [] E0 (tCons (tVar 0) (tCons (tC (.int 3)) tNil)))) (gName 3))
    (tSeq (tIfS (tAnd (tTest (tOp rEq (tVar 4) (tC (.int 0)))) (tTest (tOp rEq (tCall (sp_l_draw K) [] E0 (tCons (tVar 0) (tCons (tC (.int 4)) tNil))) (tC (.int 0))))) (tAsg (tOp rAddI (tVar 3) (tCall (sp_l_draw K) [] E0 (tCons (tVar 0) (tCons (tOp rPowI (tC (.int 10)) (tC (.int 18))) tNil)))) (gName 3)) tNext)
    (t_l_shape_inner K))))
    (t_l_shape_end K)))))))
theorem pick4 {w : Int} (h0 : 0 ≤ w) (h1 : w < 4) : ∃ m : Int, atI [V.int 3, .int 2, .int 6, .int 9] w = some (.int m) ∧ 0 < m ∧ m ≤ 9 := by
  have : w = 0 ∨ w = 1 ∨ w = 2 ∨ w = 3 := by omega
  rcases this with rfl | rfl | rfl | rfl
  · exact ⟨3, rfl, by decide, by decide⟩
  · exact ⟨2, rfl, by decide, by decide⟩
  · exact ⟨6, rfl, by decide, by decide⟩
  · exact ⟨9, rfl, by decide, by decide⟩
/-- the links while those of one version are drawn: last is above all of vs -/
structure GI (vs : List Int) (ls : List (Int × Int)) (last : Int) (j : Nat) : Prop where
  inc : vs.Pairwise (· < ·)
  nn : ∀ v ∈ vs, 0 ≤ v
  top : ∀ v ∈ vs, v < last
  lz : 0 ≤ last
  mem : ∀ l ∈ ls, (l.1 ∈ vs ∨ l.1 = last) ∧ l.2 ∈ vs ∧ l.2 < l.1
  lex : ls.Pairwise lkLt
  new : ∀ l ∈ ls, l.1 < last ∨ (l.1 = last ∧ ∀ (i : Nat) (w : Int), j ≤ i → vs[i]? = some w → l.2 < w)
theorem GI.skip {vs : List Int} {ls : List (Int × Int)} {last : Int} {j : Nat} (g : GI vs ls last j) : GI vs ls last (j + 1) :=
  ⟨g.inc, g.nn, g.top, g.lz, g.mem, g.lex, fun l hl => (g.new l hl).imp id fun h => ⟨h.1, fun i w hi => h.2 i w (by omega)⟩⟩
theorem GI.hit {vs : List Int} {ls : List (Int × Int)} {last w : Int} {j : Nat} (g : GI vs ls last j) (hw : vs[j]? = some w) : GI vs (ls ++ [(last, w)]) last (j + 1) := by
  have hm : w ∈ vs := List.mem_of_getElem? hw
  refine ⟨g.inc, g.nn, g.top, g.lz, fun l hl => ?_, ?_, fun l hl => ?_⟩
  · rcases List.mem_append.mp hl with hl | hl
    · exact g.mem l hl
    · cases List.mem_singleton.mp hl
      exact ⟨.inr rfl, hm, g.top w hm⟩
  · refine List.pairwise_append.mpr ⟨g.lex, List.pairwise_singleton _ _, fun l hl m hm2 => ?_⟩
    cases List.mem_singleton.mp hm2
    rcases g.new l hl with h | h
    · exact .inl h
    · exact .inr ⟨h.1, h.2 j w (Nat.le_refl _) hw⟩
  · rcases List.mem_append.mp hl with hl | hl
    · exact g.skip.new l hl
    · cases List.mem_singleton.mp hl
      refine .inr ⟨rfl, fun i u hi hu => ?_⟩
      have h1 := (List.getElem?_eq_some_iff.mp hw)
      have h2 := (List.getElem?_eq_some_iff.mp hu)
      obtain ⟨l1, e1⟩ := h1
      obtain ⟨l2, e2⟩ := h2
      have := List.pairwise_iff_getElem.mp g.inc j i l1 l2 (by omega)
      show w < u
      rw [← e1, ← e2]
      exact this
theorem GI.close {vs : List Int} {ls : List (Int × Int)} {last : Int} {j : Nat} (g : GI vs ls last j) : Good (vs ++ [last]) ls := by
  refine ⟨List.pairwise_append.mpr ⟨g.inc, List.pairwise_singleton _ _, fun a ha b hb => ?_⟩, fun v hv => ?_, fun l hl => ?_, g.lex⟩
  · cases List.mem_singleton.mp hb
    exact g.top a ha
  · rcases List.mem_append.mp hv with hv | hv
    · exact g.nn v hv
    · cases List.mem_singleton.mp hv
      exact g.lz
  · obtain ⟨h1, h2, h3⟩ := g.mem l hl
    refine ⟨?_, List.mem_append_left _ h2, h3⟩
    rcases h1 with h1 | h1
    · exact List.mem_append_left _ h1
    · exact List.mem_append_right _ (by rw [h1]; exact List.mem_singleton.mpr rfl)
theorem GI.open {vs : List Int} {ls : List (Int × Int)} {last : Int} (g : Good vs ls) (h : ∀ v ∈ vs, v < last) (h0 : 0 ≤ last) : GI vs ls last 0 :=
  ⟨g.inc, g.nn, h, h0, fun l hl => ⟨.inl (g.mem l hl).1, (g.mem l hl).2⟩, g.lex, fun l hl => .inl (h _ (g.mem l hl).1)⟩
theorem shape_end {K : PySem.W.Frag} {H0 H : Hp} {c D LV LL : Addr} {ns : List Int} {t : Nat} {vs : List Int} {rs : List Addr} {ls : List (Int × Int)} {Q : VK} (s : SI H0 c D LV LL ns t vs rs ls H)
    (k : ∀ p H', Kp D H0 H' → Dk c D ns t H' → ShapeAt H' p vs ls → Q (.ref p) H') : ∀ p, H p = none → ∀ r, upd H p (.tup (vs.map V.int)) r = none → ∀ w, upd (upd H p (.tup (vs.map V.int))) r (.tup (rs.map V.ref)) w = none →
      Q (.ref w) (upd (upd (upd H p (.tup (vs.map V.int))) r (.tup (rs.map V.ref))) w (.tup [.ref p, .ref r])) := by
  intro p np r nr w nw
  have s1 : SI H0 c D LV LL ns t vs rs ls (upd H p (.tup (vs.map V.int))) := s.new np
  have s2 : SI H0 c D LV LL ns t vs rs ls (upd (upd H p (.tup (vs.map V.int))) r (.tup (rs.map V.ref))) := s1.new nr
  have s3 : SI H0 c D LV LL ns t vs rs ls (upd (upd (upd H p (.tup (vs.map V.int))) r (.tup (rs.map V.ref))) w (.tup [.ref p, .ref r])) := s2.new nw
  have npr : p ≠ r := fun e => by rw [← e, updS] at nr; cases nr
  have npw : p ≠ w := fun e => by rw [← e, upd_ne npr, updS] at nw; cases nw
  have nrw : r ≠ w := fun e => by rw [← e, updS] at nw; cases nw
  exact k w _ s3.keep s3.dk ⟨p, r, rs, updS, updN npw (updN npr updS), updN nrw updS, s3.pr⟩
/-- the state of the outer loop -/
def ShO (H : Hp) (c D LV LL : Addr) (ns : List Int) (most far road : Int) (t : Nat) (i : Nat) (σ : L2.St) (H' : Hp) : Prop := ∃ (ws : List Int) (rs : List Addr) (ls : List (Int × Int)) (last : Int) (z7 z8 z9 : Option V),
  σ = [some (.ref D), some (.int most), some (.ref LV), some (.int last), some (.int far), some (.int road), some (.ref LL), z7, z8, z9] ∧
    SI H c D LV LL ns (t + 3 + 64 * i) ws rs ls H' ∧ Good ws ls ∧ ws.length = i ∧ (∀ v ∈ ws, v ≤ last) ∧ -1 ≤ last ∧ ls.length ≤ i * i
/-- the state of the inner one -/
def ShN (H : Hp) (c D LV LL : Addr) (ns : List Int) (most far road last : Int) (t : Nat) (i : Nat) (ws : List Int) (j : Nat) (σ : L2.St) (H' : Hp) : Prop := ∃ (rs : List Addr) (ls : List (Int × Int)) (z8 z9 : Option V),
  σ = [some (.ref D), some (.int most), some (.ref LV), some (.int last), some (.int far), some (.int road), some (.ref LL), some (.int (0 + (i : Int))), z8, z9] ∧
    SI H c D LV LL ns (t + j) ws rs ls H' ∧ GI ws ls last j ∧ ls.length ≤ i * i + j
theorem pure_l_shape {K : PySem.W.Frag} {vs : List V} {H : Hp} {Q : VK} {E : XK} (h : sp_l_shape K vs H Q E) : t_l_shape K { nx := fun _ H' => Q .non H', rt := Q } (start N_l_shape vs) H := by
  obtain ⟨c, D, ns, t, most, rfl, dk, m0, m1, ht, k⟩ := h
  refine ⟨Nat.zero_le _, fun LV nV => ⟨_, rfl, ?_⟩⟩
  have d1 := dk.upd (o := .lst []) (dk.neC nV) (dk.neD nV)
  refine ⟨_, rfl, c, D, ns, t, 4, rfl, d1, by omega, by decide, by decide, fun far H1 f0 f1 d2 fr1 => ?_⟩
  refine ⟨_, rfl, c, D, ns, t + 1, 4, rfl, d2, by omega, by decide, by decide, fun road H2 r0 r1 d3 fr2 => ?_⟩
  refine ⟨Nat.zero_le _, fun LL nL => ?_⟩
  have hV2 : H2 LV = some (.lst []) := by rw [fr2 _ (dk.neD nV), fr1 _ (dk.neD nV)]; exact updS
  have nVL : LV ≠ LL := ne_of_none hV2 nL
  have k2 : Kp D H H2 := ((Kp.new nV).trans (.fr fr1)).trans (.fr fr2)
  have nL0 : H LL = none := k2.free nL (d3.neD nL)
  have s0 : SI H c D LV LL ns (t + 1 + 1) [] [] [] (upd H2 LL (.lst [])) :=
    ⟨d3.upd (d3.neC nL) (d3.neD nL), k2.trans (.new nL), updN nVL hV2, updS, ⟨rfl, fun i a l h1 _ => by cases h1⟩, ⟨t, dk⟩, nV, nL0, nVL⟩
  have m100 : (most + 1).natAbs < 2 ^ 100 := small100 (by omega)
  refine ⟨_, rfl, _, rfl, _, _, rfl, rfl, c, D, ns, t + 1 + 1, most + 1, rfl, s0.dk, by omega, by omega, m100, fun n H3 n0 n1 d4 fr3 => ⟨_, rfl, by omega, by omega, ?_⟩⟩
  refine for_range (lo := 0) (n := n.toNat) (ShO H c D LV LL ns most far road t) ?_ ?_ ?_
  · exact ⟨[], [], [], -1, none, none, none, rfl, s0.draw d4 fr3, good_nil, rfl, (fun _ h => by cases h), Int.le_refl _, Nat.le_refl _⟩
  · rintro i σ H' hi ⟨ws, rs, ls, last, z7, z8, z9, rfl, s, g, hw, hlast, hl1, hlen⟩
    have hi60 : i < 61 := by omega
    -- last = last + 1 + draw(3)
    refine ⟨_, rfl, _, _, rfl, rfl, _, rfl, c, D, ns, _, 3, rfl, s.dk, by omega, by decide, by decide, fun x H4 x0 x1 d5 fr4 => ⟨_, _, rfl, rfl, ?_⟩⟩
    have sA := s.draw d5 fr4
    -- what stands from the inner loop on
    have inner : ∀ (last' : Int) (t' : Nat) (H5 : Hp) (z8 z9 : Option V) (Dd : Ends), (∀ σ H', ShO H c D LV LL ns most far road t (i + 1) σ H' → Dd.nx σ H') → last < last' → t' ≤ t + 3 + 64 * i + 3 → SI H c D LV LL ns t' ws rs ls H5 →
        t_l_shape_inner K Dd [some (.ref D), some (.int most), some (.ref LV), some (.int last'), some (.int far), some (.int road), some (.ref LL), some (.int (0 + (i : Int))), z8, z9] H5 := by
      intro last' t' H5 z8 z9 Dd kd hlt htt s5
      have g0 : GI ws ls last' 0 := .open g (fun v hv => by have := hlast v hv; omega) (by omega)
      refine ⟨_, rfl, _, rfl, by omega, by omega, ?_⟩
      refine for_range (lo := 0) (n := (0 + (i : Int)).toNat) (ShN H c D LV LL ns most far road last' t' i ws) ?_ ?_ ?_
      · exact ⟨rs, ls, z8, z9, rfl, s5, g0, hlen⟩
      · rintro j σ H6 hj ⟨rs, ls, z8, z9, rfl, s6, g6, hlen6⟩
        have hj2 : j < ws.length := by omega
        have hwj : ws[j]? = some ws[j] := List.getElem?_eq_getElem hj2
        -- the last if, the hit known
        have h3 : ∀ (b : Bool) (H7 : Hp) (Dd : Ends), (∀ σ H', ShN H c D LV LL ns most far road last' t' i ws (j + 1) σ H' → Dd.nx σ H') → SI H c D LV LL ns (t' + j + 1) ws rs ls H7 → t_l_shape_h3 K Dd
            [some (.ref D), some (.int most), some (.ref LV), some (.int last'), some (.int far), some (.int road), some (.ref LL), some (.int (0 + (i : Int))), some (.int (0 + (j : Int))), some (.bl b)] H7 := by
          intro b H7 Dd kd s7
          refine ⟨_, rfl, _, rfl, ?_⟩
          cases b with
          | false => exact iteF (kd _ _ ⟨rs, ls, _, _, rfl, s7, g6.skip, by omega⟩)
          | true =>
            refine iteT ⟨_, rfl, .inl ⟨rfl, _, sqL s7.hl⟩, _, rfl, _, rfl, _, rfl, ixL s7.hv (v := .int ws[j]) ?_ ⟨by show (2 : Nat) ≤ sizeLine; decide, fun T nT => ?_⟩⟩
            · rw [Int.zero_add]
              exact atI_nat (by rw [List.getElem?_map, hwj]; rfl)
            · have s8 : SI H c D LV LL ns (t' + j + 1) ws rs ls (upd H7 T (.tup [.int last', .int ws[j]])) := s7.new nT
              have nTL : T ≠ LL := (ne_of_none s7.hl nT).symm
              refine ⟨LL, _, _, rfl, rfl, s8.hl, ?_, ?_⟩
              · rw [List.length_map, s7.pr.1]
                have : i * i ≤ 60 * 60 := Nat.mul_le_mul (by omega) (by omega)
                exact Nat.lt_of_le_of_lt (show ls.length ≤ 4000 by omega) (by decide)
              · exact kd _ _ ⟨rs ++ [T], ls ++ [(last', ws[j])], _, _, rfl, s8.addL (l := (last', ws[j])) updS, g6.hit hwj, by rw [List.length_append, List.length_singleton]; omega⟩
        -- hit = draw(..) == 0
        refine ⟨_, rfl, by show (4 : Nat) ≤ sizeLine; decide, fun q nq => ?_⟩
        obtain ⟨m, em, mm0, mm1⟩ := pick4 r0 r1
        have s7 : SI H c D LV LL ns (t' + j) ws rs ls (upd H6 q (.lst [.int 3, .int 2, .int 6, .int 9])) := s6.new nq
        refine ⟨_, rfl, ixL updS em ⟨c, D, ns, _, m, rfl, s7.dk, by omega, mm0, small100 (by omega), fun y H8 y0 y1 d8 fr8 => ⟨rfl, ?_⟩⟩⟩
        have s8 := s7.draw d8 fr8
        have h2 : ∀ (b : Bool) (Dd : Ends), (∀ σ H', ShN H c D LV LL ns most far road last' t' i ws (j + 1) σ H' → Dd.nx σ H') → t_l_shape_h2 K Dd [some (.ref D), some (.int most), some (.ref LV), some (.int last'), some (.int far), some (.int road), some (.ref LL), some (.int (0 + (i : Int))), some (.int (0 + (j : Int))), some (.bl b)] H8 := fun b Dd kd =>
          ⟨_, rfl, rfl, _, rfl, ite2 (fun _ => ⟨_, rfl, _, rfl, _, _, rfl, rfl, rfl, _, rfl, ite2 (fun _ => h3 true H8 _ kd s8) (fun _ => h3 b H8 _ kd s8)⟩) (fun _ => iteF (h3 b H8 _ kd s8))⟩
        refine ⟨_, rfl, rfl, _, rfl, ?_⟩
        refine ite2 (fun _ => ?_) (fun _ => iteF (h2 _ _ fun _ _ z => z))
        exact ⟨_, rfl, _, rfl, _, _, rfl, rfl, _, _, rfl, rfl, _, rfl, ite2 (fun _ => h2 false _ fun _ _ z => z) (fun _ => h2 _ _ fun _ _ z => z)⟩
      · rintro σ H6 ⟨rs, ls, z8, z9, rfl, s6, g6, hlen6⟩
        -- versions.append(last)
        refine ⟨_, rfl, .inl ⟨rfl, _, sqL s6.hv⟩, _, rfl, LV, _, _, rfl, rfl, s6.hv, ?_, ?_⟩
        · rw [List.length_map, hw]
          exact Nat.lt_of_le_of_lt (show i ≤ 1000 by omega) (by decide)
        · refine kd _ _ ⟨ws ++ [last'], rs, ls, last', _, _, _, rfl, (s6.addV last').le (by omega), g6.close, by rw [List.length_append, hw]; rfl, fun v hv => ?_, by omega, ?_⟩
          · rcases List.mem_append.mp hv with hv | hv
            · have := hlast v hv
              omega
            · cases List.mem_singleton.mp hv
              exact Int.le_refl _
          · have : (i + 1) * (i + 1) = i * i + 2 * i + 1 := by rw [Nat.add_mul, Nat.mul_add]; omega
            omega
    -- if far == 0 and draw(4) == 0
    refine ⟨_, rfl, rfl, _, rfl, ite2 (fun _ => ?_) (fun _ => iteF (inner _ _ _ _ _ _ (fun _ _ z => z) (by omega) (by omega) sA))⟩
    refine ⟨_, rfl, c, D, ns, _, 4, rfl, sA.dk, by omega, by decide, by decide, fun y H5 y0 y1 d6 fr5 => ⟨rfl, _, rfl, ?_⟩⟩
    have sB := sA.draw d6 fr5
    refine ite2 (fun _ => ?_) (fun _ => inner _ _ _ _ _ _ (fun _ _ z => z) (by omega) (by omega) sB)
    refine ⟨_, rfl, _, rfl, _, _, rfl, rfl, ⟨by decide, by decide, by decide⟩, c, D, ns, _, _, rfl, sB.dk, by omega, by rw [pow18]; decide, by rw [pow18]; decide, fun z H6 w0 w1 d7 fr6 => ⟨_, _, rfl, rfl, ?_⟩⟩
    exact inner _ _ _ _ _ _ (fun _ _ z => z) (by omega) (by omega) (sB.draw d7 fr6)
  · rintro σ H' ⟨ws, rs, ls, last, z7, z8, z9, rfl, s, g, hw, hlast, hl1, hlen⟩
    refine ⟨_, rfl, LV, _, rfl, .inl ⟨sqL s.hv, fun p np => ⟨_, rfl, LL, _, rfl, .inl ⟨sqL (updN (ne_of_none s.hl np) s.hl), fun r nr => ⟨by show (2 : Nat) ≤ sizeLine; decide, fun w nw => ?_⟩⟩⟩⟩⟩
    exact shape_end (K := K) s (fun p H' k1 d sh => k p ws ls H' k1 (d.le (by omega)) sh g (show ((ws.length : Nat) : Int) ≤ most by rw [hw]; omega) (show ls.length ≤ ws.length * ws.length by rw [hw]; exact hlen)) p np r nr w nw
end Fw

set_option Elab.async false
set_option linter.all false
set_option maxRecDepth 100000
set_option maxHeartbeats 4000000
namespace Fw
open PySem L2 RZ RT
/-! ### long shapes -/
def vsL (a g : Int) (n : Nat) : List Int := (List.range n).map fun k : Nat => a + g * (k : Int)
def lsL (a g : Int) (w n : Nat) : List (Int × Int) := (List.range (n - w)).map fun j : Nat => (a + g * ((w : Int) + (j : Int)), a + g * (j : Int))
theorem vsL_length (a g : Int) (n : Nat) : (vsL a g n).length = n := by simp [vsL]
theorem lsL_length (a g : Int) (w n : Nat) : (lsL a g w n).length = n - w := by simp [lsL]
theorem vsL_get {a g : Int} {n i : Nat} (h : i < n) : (vsL a g n)[i]? = some (a + g * (i : Int)) := by
  simp [vsL, h]
theorem vsL_get_lt {a g : Int} {n i : Nat} {z : Int} (h : (vsL a g n)[i]? = some z) : i < n ∧ z = a + g * (i : Int) := by
  have hi : i < (vsL a g n).length := (List.getElem?_eq_some_iff.mp h).1
  rw [vsL_length] at hi
  rw [vsL_get hi] at h
  exact ⟨hi, (Option.some.inj h).symm⟩
theorem vsL_mem {a g : Int} {n : Nat} {v : Int} (h : v ∈ vsL a g n) : ∃ k : Nat, k < n ∧ v = a + g * (k : Int) := by
  obtain ⟨k, hk, e⟩ := List.mem_map.mp h
  exact ⟨k, List.mem_range.mp hk, e.symm⟩
theorem vsL_mem_of {a g : Int} {n k : Nat} (h : k < n) : a + g * (k : Int) ∈ vsL a g n := List.mem_map.mpr ⟨k, List.mem_range.mpr h, rfl⟩
theorem mono_g {a g : Int} (h : 0 < g) {i j : Nat} (hij : i < j) : a + g * (i : Int) < a + g * (j : Int) := by
  have := Int.mul_lt_mul_of_pos_left (show (i : Int) < (j : Int) by omega) h
  omega
theorem good_long {a g : Int} {w n : Nat} (ha : 0 ≤ a) (hg : 0 < g) (hw : 0 < w) : Good (vsL a g n) (lsL a g w n) := by
  refine ⟨?_, fun v hv => ?_, fun l hl => ?_, ?_⟩
  · exact List.pairwise_map.mpr (List.pairwise_lt_range.imp fun h => mono_g hg h)
  · obtain ⟨k, _, rfl⟩ := vsL_mem hv
    have := Int.mul_nonneg (Int.le_of_lt hg) (show (0 : Int) ≤ (k : Int) by omega)
    omega
  · obtain ⟨j, hj, rfl⟩ := List.mem_map.mp hl
    have hj2 := List.mem_range.mp hj
    have e : ((w : Int) + (j : Int)) = ((w + j : Nat) : Int) := by omega
    refine ⟨?_, vsL_mem_of (by omega), ?_⟩
    · show a + g * ((w : Int) + (j : Int)) ∈ vsL a g n
      rw [e]
      exact vsL_mem_of (by omega)
    · show a + g * (j : Int) < a + g * ((w : Int) + (j : Int))
      rw [e]
      exact mono_g hg (by omega)
  · refine List.pairwise_map.mpr (List.pairwise_lt_range.imp fun {i j} h => .inl ?_)
    show a + g * ((w : Int) + (i : Int)) < a + g * ((w : Int) + (j : Int))
    have e : ∀ x : Nat, ((w : Int) + (x : Int)) = ((w + x : Nat) : Int) := fun x => by omega
    rw [e, e]
    exact mono_g hg (by omega)
/-! ### a comprehension over a range, its elements changing nothing -/
theorem lc_mapR {lo : Int} {n : Nat} {ys : List V} {g : TG} {tt : TT} {te : TE} {vs : List Nat} {σ : L2.St} {H1 : Hp} {D : Addr} {Qd : Hp → Prop} (hl : ys.length = n) (hz : n ≤ 100000)
    (hs : ∀ (i : Nat) (y : V) (acc : List V) (R : VK), i < n → ys[i]? = some y → R y (upd H1 D (.lst acc)) → g (.int (lo + i)) (wipe σ vs) (upd H1 D (.lst acc)) fun σ2 H2 => wipe σ2 vs = wipe σ vs ∧ tt σ2 H2 fun b H3 => if b = true then te σ2 H3 R else False)
    (hd : Qd (upd H1 D (.lst ys))) (mt : ∀ σ H P P', (∀ b H1, P b H1 → P' b H1) → tt σ H P → tt σ H P') (mg : ∀ v σ H P P', (∀ σ1 H1, P σ1 H1 → P' σ1 H1) → g v σ H P → g v σ H P') :
    ∃ W : Nat → Nat → Hp → Prop, (∃ m, W 0 m (upd H1 D (.lst []))) ∧ ∀ i m H, W i m H →
      ((Itr lo n).stop i H ∧ Qd H) ∨ ((Itr lo n).go i H ∧ ∃ Nx : Hp → Prop, (∀ H', Nx H' → ∃ m', m' < m ∧ W (i + 1) m' H') ∧ ∀ x H', (Itr lo n).yld i H x H' → g x (wipe σ vs) H' fun σ2 H2 => wipe σ2 vs = wipe σ vs ∧ tt σ2 H2 fun b H3 =>
        if b = true then te σ2 H3 fun y H4 => ∃ acc, H4 D = some (.lst acc) ∧ acc.length < sizeLine ∧ Nx (upd H4 D (.lst (acc ++ [y]))) else Nx H3) := by
  refine lc_range (lo := lo) (n := n) (fun i H => H = upd H1 D (.lst (ys.take i))) (by rw [List.take_zero]) (fun i H hi e => ?_) (fun H e => by
    rw [e, List.take_of_length_le (by omega)]
    exact hd)
  subst e
  have hi2 : i < ys.length := by omega
  refine mg _ _ _ _ _ (fun σ1 H2 q => ⟨q.1, mt _ _ _ _ (fun b H3 q2 => ?_) q.2⟩) (hs i ys[i] (ys.take i) (fun y H4 => ∃ acc, H4 D = some (.lst acc) ∧ acc.length < sizeLine ∧ upd H4 D (.lst (acc ++ [y])) = upd H1 D (.lst (ys.take (i + 1)))) hi (List.getElem?_eq_getElem hi2) ⟨ys.take i, upd_same, Nat.lt_of_le_of_lt (by rw [List.length_take]; omega : (ys.take i).length ≤ 100000) (by decide), by rw [upd_upd, List.take_add_one, List.getElem?_eq_getElem hi2]; rfl⟩)
  cases b with
  | true => exact q2
  | false => exact q2.elim
def sp_l_long_shape (_ : PySem.W.Frag) : Sp := fun vs H Q _ => ∃ (c D : Addr) (ns : List Int) (t : Nat) (most : Int), vs = [.ref D, .int most] ∧ Dk c D ns t H ∧ 0 ≤ most ∧ most ≤ 400 ∧ t + 4 < 1000000000 ∧
  ∀ (p q r : Addr) (rs : List Addr) (a g : Int) (w n : Nat) (H' : Hp), Kp D H H' → Dk c D ns (t + 4) H' → H' p = some (.tup [.ref q, .ref r, .int (w : Int)]) → H' q = some (.tup ((vsL a g n).map V.int)) → H' r = some (.tup (rs.map V.ref)) → LkAt H' rs (lsL a g w n) →
    0 ≤ a → a < 1000000 → 1 ≤ g → g ≤ 3 → 1 ≤ w → w ≤ 6 → (n : Int) ≤ most → Q (.ref p) H'
theorem len_l_long_shape {K : PySem.W.Frag} {vs : List V} {H : Hp} {Q : VK} {E : XK} (h : sp_l_long_shape K vs H Q E) : vs.length = 2 := by
  obtain ⟨_, _, _, _, _, rfl, _⟩ := h
  rfl
abbrev N_l_long_shape : List Str := ["_law_deck_here", "_law_most", "_law_first", "_law_gap", "_law_width", "_law_many", "_law_versions", "_law_k", "_law_links"]
def t_l_long_shape_links (K : PySem.W.Frag) : TS := (tSeq (tAsg (tLc (iRng2 (tCons (tVar 4) (tCons (tVar 5) tNil))) (gName 7) tYes (tTup (tCons (tOp (rIx K) (tVar 6) (tVar 7)) (tCons (tOp (rIx K) (tVar 6) (tOp rSubI (tVar 7) (tVar 4))) tNil))) [7]) (gName 8))
    (tRet (tTup (tCons (tCB (fTupleOf K) (tCons (tVar 6) tNil)) (tCons (tCB (fTupleOf K) (tCons (tVar 8) tNil)) (tCons (tVar 4) tNil))))))
def t_l_long_shape (K : PySem.W.Frag) : TS := (tSeq (tAsg (tCall (sp_l_draw K) [] E0 (tCons (tVar 0) (tCons (tOp rPowI (tC (.int 10)) (tC (.int 6))) tNil))) (gName 2))
    (tSeq (tAsg (tOp rAddI (tC (.int 1)) (tCall (sp_l_draw K) [] E0 (tCons (tVar 0) (tCons (tC (.int 3)) tNil)))) (gName 3))
    (tSeq (tAsg (tOp rAddI (tC (.int 1)) (tCall (sp_l_draw K) [] E0 (tCons (tVar 0) (tCons (tC (.int 6)) tNil)))) (gName 4))
    (tSeq (tAsg (tCall (sp_l_draw K) [] E0 (tCons (tVar 0) (tCons (tOp rAddI (tVar 1) (tC (.int 1))) tNil))) (gName 5))
    (tSeq (tAsg (tLc (iRng1 (tCons (tVar 5) tNil)) (gName 7) tYes (tOp rAddI (tVar 2) (tOp rMulI (tVar 3) (tVar 7))) [7]) (gName 6))
    (t_l_long_shape_links K))))))
theorem pow6 : (10 : Int) ^ (6 : Int).toNat = 1000000 := by decide
theorem pure_l_long_shape {K : PySem.W.Frag} {vs : List V} {H : Hp} {Q : VK} {E : XK} (h : sp_l_long_shape K vs H Q E) : t_l_long_shape K { nx := fun _ H' => Q .non H', rt := Q } (start N_l_long_shape vs) H := by
  obtain ⟨c, D, ns, t, most, rfl, dk, m0, m1, ht, k⟩ := h
  refine ⟨_, rfl, _, _, rfl, rfl, ⟨by decide, by decide, by decide⟩, c, D, ns, t, _, rfl, dk, by omega, by rw [pow6]; decide, by rw [pow6]; decide, fun a H1 a0 a1 d1 fr1 => ?_⟩
  rw [pow6] at a1
  refine ⟨_, rfl, c, D, ns, _, 3, rfl, d1, by omega, by decide, by decide, fun g H2 g0 g1 d2 fr2 => ⟨_, _, rfl, rfl, ?_⟩⟩
  refine ⟨_, rfl, c, D, ns, _, 6, rfl, d2, by omega, by decide, by decide, fun w H3 w0 w1 d3 fr3 => ⟨_, _, rfl, rfl, ?_⟩⟩
  refine ⟨_, rfl, _, rfl, _, _, rfl, rfl, c, D, ns, _, most + 1, rfl, d3, by omega, by omega, small100 (by omega), fun n H4 n0 n1 d4 fr4 => ?_⟩
  have k4 : Kp D H H4 := (((Kp.fr fr1).trans (.fr fr2)).trans (.fr fr3)).trans (.fr fr4)
  obtain ⟨N, rfl⟩ := Int.eq_ofNat_of_zero_le n0
  obtain ⟨W, hW⟩ := Int.eq_ofNat_of_zero_le (show 0 ≤ 1 + w by omega)
  have hN : N ≤ 400 := by omega
  have eN : ((N : Int)).toNat = N := by omega
  -- versions = [first + gap * k for k in range(many)]
  refine ⟨_, rfl, _, rfl, by omega, by omega, fun LV nV => ?_⟩
  rw [eN]
  refine lc_mapR (lo := 0) (n := N) (ys := (vsL a (1 + g) N).map V.int) (by rw [List.length_map, vsL_length]) (by omega) (fun i y acc R hi hy r => ?_) ?_ mono_yes mono_gName
  · rw [List.getElem?_map, vsL_get hi] at hy
    cases Option.some.inj hy
    refine ⟨rfl, ⟨_, rfl, _, rfl, _, rfl, _, _, rfl, rfl, .inl ⟨by omega, by omega⟩, _, _, rfl, rfl, ?_⟩⟩
    rw [Int.zero_add]
    exact r
  -- links = [(versions[k], versions[k - width]) for k in range(width, many)]
  have d5 : Dk c D ns (t + 4) (upd H4 LV (.lst ((vsL a (1 + g) N).map V.int))) := d4.upd (d4.neC nV) (d4.neD nV)
  have k5 : Kp D H (upd H4 LV (.lst ((vsL a (1 + g) N).map V.int))) := k4.trans (.new nV)
  show t_l_long_shape_links K _ [some (.ref D), some (.int most), some (.int a), some (.int (1 + g)), some (.int (1 + w)), some (.int (N : Int)), some (.ref LV), none, none] (upd H4 LV (.lst ((vsL a (1 + g) N).map V.int)))
  rw [hW]
  generalize hH5 : upd H4 LV (.lst ((vsL a (1 + g) N).map V.int)) = H5 at *
  have hV5 : H5 LV = some (.lst ((vsL a (1 + g) N).map V.int)) := by rw [← hH5]; exact updS
  refine ⟨_, rfl, _, rfl, _, _, rfl, ⟨by omega, by omega, by omega, by omega⟩, fun LL nL => ?_⟩
  have nVL : LV ≠ LL := ne_of_none hV5 nL
  have eNW : ((N : Int) - (W : Int)).toNat = N - W := by omega
  rw [eNW]
  refine lc_range (lo := (W : Int)) (n := N - W) (fun i H' => ∃ rs : List Addr, Kp D H5 H' ∧ Dk c D ns (t + 4) H' ∧ H' LV = some (.lst ((vsL a (1 + g) N).map V.int)) ∧ H' LL = some (.lst (rs.map V.ref)) ∧ LkAt H' rs ((lsL a (1 + g) W N).take i)) ?_ ?_ ?_
  · exact ⟨[], .new nL, d5.upd (d5.neC nL) (d5.neD nL), updN nVL hV5, updS, rfl, fun i b l h1 _ => by cases h1⟩
  · rintro i H6 hi ⟨rs, k6, d6, hV6, hL6, pr⟩
    have e1 : ((W : Int) + (i : Int)) = ((W + i : Nat) : Int) := by omega
    have e2 : ((W : Int) + (i : Int)) - (W : Int) = ((i : Nat) : Int) := by omega
    have g1 : atI ((vsL a (1 + g) N).map V.int) ((W : Int) + (i : Int)) = some (.int (a + (1 + g) * ((W : Int) + (i : Int)))) := by
      rw [e1]
      exact atI_nat (by rw [List.getElem?_map, vsL_get (by omega)]; rfl)
    have g2 : atI ((vsL a (1 + g) N).map V.int) ((W : Int) + (i : Int) - (W : Int)) = some (.int (a + (1 + g) * (i : Int))) := by
      rw [e2]
      exact atI_nat (by rw [List.getElem?_map, vsL_get (by omega)]; rfl)
    refine ⟨rfl, ⟨_, rfl, _, rfl, ixL hV6 g1 ⟨_, rfl, _, rfl, _, rfl, _, _, rfl, rfl, ixL hV6 g2 ⟨by show (2 : Nat) ≤ sizeLine; decide, fun T nT => ?_⟩⟩⟩⟩
    have nTL : T ≠ LL := (ne_of_none hL6 nT).symm
    have nTV : T ≠ LV := (ne_of_none hV6 nT).symm
    have hlen : rs.length ≤ 400 := by
      rw [pr.1, List.length_take, lsL_length]
      omega
    have ll : (lsL a (1 + g) W N)[i]? = some (a + (1 + g) * ((W : Int) + (i : Int)), a + (1 + g) * (i : Int)) := by
      simp [lsL, hi]
    have nLD : LL ≠ D := d5.neD nL
    have nLC : LL ≠ c := d5.neC nL
    refine ⟨rs.map V.ref, updN nTL.symm hL6, ?_, rs ++ [T], ?_, ?_, ?_, ?_, ?_⟩
    · rw [List.length_map]
      exact Nat.lt_of_le_of_lt (show rs.length ≤ 1000 by omega) (by decide)
    · exact fun b o e n => updN (ne_of_none e nL) (updN (ne_of_none (k6 b o e n) nT) (k6 b o e n))
    · exact (d6.upd (d6.neC nT) (d6.neD nT)).upd nLC nLD
    · exact updN nVL (updN nTV.symm hV6)
    · rw [updS, List.map_append]
      rfl
    · rw [take_snoc ll]
      refine (LkAt.snoc (pr.mono fun b xs h => updN (ne_of_none h nT) h) (l := (a + (1 + g) * ((W : Int) + (i : Int)), a + (1 + g) * (i : Int))) (T := T) updS).mono fun b xs h => updN (fun e => ?_) h
      rw [e, updN nTL.symm hL6] at h
      cases h
  · rintro H6 ⟨rs, k6, d6, hV6, hL6, pr⟩
    rw [List.take_of_length_le (by rw [lsL_length]; omega)] at pr
    refine ⟨_, rfl, LV, _, rfl, .inl ⟨sqL hV6, fun q nq => ?_⟩⟩
    have nqL : q ≠ LL := (ne_of_none hL6 nq).symm
    refine ⟨_, rfl, LL, _, rfl, .inl ⟨sqL (updN nqL.symm hL6), fun r nr => ?_⟩⟩
    have nqr : q ≠ r := fun e => by rw [← e, updS] at nr; cases nr
    have nr6 : H6 r = none := by rw [upd_ne nqr.symm] at nr; exact nr
    refine ⟨_, rfl, by show (3 : Nat) ≤ sizeLine; decide, fun p np => ?_⟩
    have npq : q ≠ p := fun e => by rw [← e, upd_ne nqr, updS] at np; cases np
    have npr : r ≠ p := fun e => by rw [← e, updS] at np; cases np
    have np6 : H6 p = none := by rw [upd_ne npr.symm, upd_ne npq.symm] at np; exact np
    have d7 : Dk c D ns (t + 4) (upd (upd (upd H6 q (.tup ((vsL a (1 + g) N).map V.int))) r (.tup (rs.map V.ref))) p (.tup [.ref q, .ref r, .int (W : Int)])) := ((d6.upd (d6.neC nq) (d6.neD nq)).upd (d6.neC nr6) (d6.neD nr6)).upd (d6.neC np6) (d6.neD np6)
    have up : ∀ b o, H6 b = some o → (upd (upd (upd H6 q (.tup ((vsL a (1 + g) N).map V.int))) r (.tup (rs.map V.ref))) p (.tup [.ref q, .ref r, .int (W : Int)])) b = some o := fun b o e => updN (ne_of_none e np6) (updN (ne_of_none e nr6) (updN (ne_of_none e nq) e))
    exact k p q r rs a (1 + g) W N _ (k5.trans (k6.trans fun b o e _ => up b o e)) d7 updS (updN npq (updN nqr updS)) (updN npr updS) (pr.mono fun b xs h => up _ _ h) a0 a1 (by omega) (by omega) (by omega) (by omega) (by omega)
end Fw

set_option Elab.async false
set_option linter.all false
set_option maxRecDepth 100000
set_option maxHeartbeats 4000000
namespace Fw
open PySem L2 RZ RT
/-! ### what is below -/
inductive Dn (ls : List (Int × Int)) : Int → Int → Prop where
  | refl (v : Int) : Dn ls v v
  | step {v p u : Int} (h : (v, p) ∈ ls) (r : Dn ls p u) : Dn ls v u
theorem Dn.trans {ls : List (Int × Int)} {a b c : Int} (h : Dn ls a b) (k : Dn ls b c) : Dn ls a c := by
  induction h with
  | refl v => exact k
  | step h r ih => exact .step h (ih k)
theorem Dn.le {vs : List Int} {ls : List (Int × Int)} (g : Good vs ls) {a b : Int} (h : Dn ls a b) : b ≤ a := by
  induction h with
  | refl v => exact Int.le_refl v
  | step h r ih =>
    have := (g.mem _ h).2.2
    simp only at this
    omega
theorem Dn.mem {vs : List Int} {ls : List (Int × Int)} (g : Good vs ls) {a b : Int} (h : Dn ls a b) : a ∈ vs → b ∈ vs := by
  induction h with
  | refl v => exact id
  | step h r ih => exact fun _ => ih (g.mem _ h).2.1
/-- one more, if it is not there -/
def ins1 (fs : List Int) (j : Int) : List Int := if fs.contains j then fs else fs ++ [j]
theorem mem_ins1 {fs : List Int} {j x : Int} : x ∈ ins1 fs j ↔ x ∈ fs ∨ x = j := by
  unfold ins1
  by_cases h : fs.contains j = true
  · rw [if_pos h]
    refine ⟨Or.inl, fun k => k.elim id fun e => ?_⟩
    rw [e]
    exact List.contains_iff_mem.mp h
  · rw [if_neg h, List.mem_append, List.mem_singleton]
theorem nodup_ins1 {fs : List Int} {j : Int} (h : fs.Nodup) : (ins1 fs j).Nodup := by
  unfold ins1
  by_cases hc : fs.contains j = true
  · rw [if_pos hc]
    exact h
  · rw [if_neg hc]
    refine List.nodup_append.mpr ⟨h, List.pairwise_singleton _ _, fun a ha b hb e => ?_⟩
    rw [e, List.mem_singleton.mp hb] at ha
    exact hc (List.contains_iff_mem.mpr ha)
theorem length_ins1 (fs : List Int) (j : Int) : (ins1 fs j).length ≤ fs.length + 1 := by
  unfold ins1
  split
  · omega
  · rw [List.length_append, List.length_singleton]
    omega
/-- behind one link -/
def addB (fs : List Int) (l : Int × Int) : List Int := if fs.contains l.1 then ins1 fs l.2 else fs
/-- the links gone through from the last one on -/
def lower (ls : List (Int × Int)) (ss : List Int) : List Int := ls.foldr (fun l fs => addB fs l) ss
theorem lower_cons (l : Int × Int) (ls : List (Int × Int)) (ss : List Int) : lower (l :: ls) ss = addB (lower ls ss) l := rfl
theorem nodup_lower {ls : List (Int × Int)} {ss : List Int} (h : ss.Nodup) : (lower ls ss).Nodup := by
  induction ls with
  | nil => exact h
  | cons l r ih =>
    rw [lower_cons]
    unfold addB
    split
    · exact nodup_ins1 ih
    · exact ih
theorem mem_addB {fs : List Int} {l : Int × Int} {x : Int} : x ∈ addB fs l ↔ x ∈ fs ∨ (l.1 ∈ fs ∧ x = l.2) := by
  unfold addB
  by_cases h : fs.contains l.1 = true
  · rw [if_pos h, mem_ins1]
    exact ⟨fun k => k.imp id fun e => ⟨List.contains_iff_mem.mp h, e⟩, fun k => k.imp id fun e => e.2⟩
  · rw [if_neg h]
    refine ⟨Or.inl, fun k => k.elim id fun e => absurd (List.contains_iff_mem.mpr e.1) h⟩
theorem lower_sub {ls : List (Int × Int)} {ss : List Int} {x : Int} (h : x ∈ ss) : x ∈ lower ls ss := by
  induction ls with
  | nil => exact h
  | cons l r ih => exact mem_addB.mpr (.inl ih)
theorem Dn.more {ls : List (Int × Int)} {l : Int × Int} {a b : Int} (h : Dn ls a b) : Dn (l :: ls) a b := by
  induction h with
  | refl v => exact .refl v
  | step h r ih => exact .step (List.mem_cons_of_mem _ h) ih
theorem Dn.snoc {ls : List (Int × Int)} {a b c : Int} (h : Dn ls a b) (k : (b, c) ∈ ls) : Dn ls a c := h.trans (.step k (.refl c))
theorem lower_dn {ls : List (Int × Int)} {ss : List Int} {x : Int} (h : x ∈ lower ls ss) : ∃ s ∈ ss, Dn ls s x := by
  induction ls generalizing x with
  | nil => exact ⟨x, h, .refl x⟩
  | cons l r ih =>
    rw [lower_cons] at h
    rcases mem_addB.mp h with h | ⟨h1, h2⟩
    · obtain ⟨s, hs, d⟩ := ih h
      exact ⟨s, hs, d.more⟩
    · obtain ⟨s, hs, d⟩ := ih h1
      rw [h2]
      exact ⟨s, hs, d.more.snoc (List.mem_cons_self ..)⟩
theorem lower_closed {ls : List (Int × Int)} {ss : List Int} (hx : ls.Pairwise lkLt) (hd : ∀ l ∈ ls, l.2 < l.1) : ∀ l ∈ ls, l.1 ∈ lower ls ss → l.2 ∈ lower ls ss := by
  induction ls with
  | nil => exact fun l h => nomatch h
  | cons m r ih =>
    intro l hl h1
    rw [lower_cons] at h1 ⊢
    have hx2 := List.pairwise_cons.mp hx
    have hd2 : ∀ l ∈ r, l.2 < l.1 := fun l hl => hd l (List.mem_cons_of_mem _ hl)
    -- the link m adds m.2 alone, and no link of r begins there
    have no : l ∈ r → l.1 ≠ m.2 := fun hr e => by
      have h3 := hd m (List.mem_cons_self ..)
      have h4 := hx2.1 l hr
      unfold lkLt at h4
      omega
    rcases List.mem_cons.mp hl with e | hr
    · subst e
      rcases mem_addB.mp h1 with h1 | ⟨h1, _⟩
      · exact mem_addB.mpr (.inr ⟨h1, rfl⟩)
      · exact mem_addB.mpr (.inr ⟨h1, rfl⟩)
    · rcases mem_addB.mp h1 with h1 | ⟨_, h1⟩
      · exact mem_addB.mpr (.inl (ih hx2.2 hd2 l hr h1))
      · exact absurd h1 (no hr)
theorem mem_lower {vs : List Int} {ls : List (Int × Int)} (g : Good vs ls) {ss : List Int} {x : Int} : x ∈ lower ls ss ↔ ∃ s ∈ ss, Dn ls s x := by
  refine ⟨lower_dn, fun ⟨s, hs, d⟩ => ?_⟩
  have cl := lower_closed (ss := ss) g.lex fun l hl => (g.mem l hl).2.2
  have key : ∀ s x, Dn ls s x → s ∈ lower ls ss → x ∈ lower ls ss := fun s x d => by
    induction d with
    | refl v => exact id
    | step h r ih => exact fun k => ih (cl _ h k)
  exact key s x d (lower_sub hs)
theorem lower_in {vs : List Int} {ls : List (Int × Int)} (g : Good vs ls) {ss : List Int} (hs : ∀ s ∈ ss, s ∈ vs) : ∀ x ∈ lower ls ss, x ∈ vs := fun x hx => by
  obtain ⟨s, h, d⟩ := lower_dn hx
  exact d.mem g (hs s h)
/-- rising lists with the same things are the same -/
theorem rising_ext : ∀ {l m : List Int}, l.Pairwise (· < ·) → m.Pairwise (· < ·) → (∀ x, x ∈ l ↔ x ∈ m) → l = m
  | [], [], _, _, _ => rfl
  | [], b :: m, _, _, h => by
    have := (h b).mpr (List.mem_cons_self ..)
    cases this
  | a :: l, [], _, _, h => by
    have := (h a).mp (List.mem_cons_self ..)
    cases this
  | a :: l, b :: m, hl, hm, h => by
    obtain ⟨l1, l2⟩ := List.pairwise_cons.mp hl
    obtain ⟨m1, m2⟩ := List.pairwise_cons.mp hm
    have e : a = b := by
      rcases List.mem_cons.mp ((h a).mp (List.mem_cons_self ..)) with e | e
      · exact e
      · rcases List.mem_cons.mp ((h b).mpr (List.mem_cons_self ..)) with e2 | e2
        · exact e2.symm
        · have h1 := m1 a e
          have h2 := l1 b e2
          omega
    subst e
    have r : l = m := rising_ext l2 m2 fun x => by
      refine ⟨fun hx => ?_, fun hx => ?_⟩
      · rcases List.mem_cons.mp ((h x).mp (List.mem_cons_of_mem _ hx)) with e | e
        · have := l1 x hx
          omega
        · exact e
      · rcases List.mem_cons.mp ((h x).mpr (List.mem_cons_of_mem _ hx)) with e | e
        · have := m1 x hx
          omega
        · exact e
    rw [r]
theorem rising_nodup {l : List Int} (h : l.Pairwise (· < ·)) : l.Nodup := h.imp fun {a b} k e => by omega
theorem rising_of {l : List Int} (h : l.Pairwise (· ≤ ·)) (n : l.Nodup) : l.Pairwise (· < ·) := by
  refine (h.and n).imp fun {a b} k => ?_
  have := k.1
  have := k.2
  omega
/-- sorted is what of the versions is in it -/
theorem sorted_is {vs fs ys : List Int} (hv : vs.Pairwise (· < ·)) (hf : fs.Nodup) (hin : ∀ x ∈ fs, x ∈ vs) (hp : ys.Perm fs) (hs : ys.Pairwise (· ≤ ·)) : ys = vs.filter fun u => fs.contains u := by
  refine rising_ext (rising_of hs (hp.nodup_iff.mpr hf)) (hv.filter _) fun x => ?_
  rw [hp.mem_iff, List.mem_filter, List.contains_iff_mem]
  exact ⟨fun h => ⟨hin x h, h⟩, fun h => h.2⟩
/-- a version and all that are below it, rising -/
def belowL (vs : List Int) (ls : List (Int × Int)) (v : Int) : List Int := vs.filter fun u => (lower ls [v]).contains u
theorem mem_belowL {vs : List Int} {ls : List (Int × Int)} (g : Good vs ls) {v u : Int} (hv : v ∈ vs) : u ∈ belowL vs ls v ↔ Dn ls v u := by
  unfold belowL
  rw [List.mem_filter, List.contains_iff_mem, mem_lower g]
  refine ⟨fun h => ?_, fun h => ⟨h.mem g hv, v, List.mem_singleton.mpr rfl, h⟩⟩
  obtain ⟨_, s, hs, d⟩ := h
  rw [List.mem_singleton.mp hs] at d
  exact d
theorem belowL_rising {vs : List Int} {ls : List (Int × Int)} (g : Good vs ls) (v : Int) : (belowL vs ls v).Pairwise (· < ·) := g.inc.filter _
theorem belowL_length {vs : List Int} {ls : List (Int × Int)} (v : Int) : (belowL vs ls v).length ≤ vs.length := List.length_filter_le _ _
/-! ### sets as dicts, in order -/
def mkS (fs : List Int) : List (Key × V) := fs.map fun i => ((Sum.inl i : Key), V.bl true)
theorem mkS_length (fs : List Int) : (mkS fs).length = fs.length := by simp [mkS]
theorem mkS_keys (fs : List Int) : (mkS fs).map (·.1) = fs.map Sum.inl := by simp [mkS]
theorem mkS_val (j : Int) : ∀ fs : List Int, valV (mkS fs) (.inl j) = if fs.contains j then some (.bl true) else none
  | [] => rfl
  | i :: r => by
    show valV ((Sum.inl i, V.bl true) :: mkS r) (.inl j) = _
    by_cases e : i = j
    · subst e
      rw [valV_pos (p := ((Sum.inl i : Key), V.bl true)) rfl, if_pos (by simp)]
    · rw [valV_neg (p := ((Sum.inl i : Key), V.bl true)) (fun z => e (Sum.inl.inj z)), mkS_val j r, List.contains_cons, show (j == i) = false from beq_eq_false_iff_ne.mpr fun z => e z.symm, Bool.false_or]
theorem mkS_has (fs : List Int) (j : Int) : (valV (mkS fs) (.inl j)).isSome = fs.contains j := by
  rw [mkS_val]
  cases fs.contains j <;> rfl
theorem mkS_put (fs : List Int) (j : Int) : putK (mkS fs) (.inl j) (.bl true) = mkS (ins1 fs j) := by
  unfold ins1
  by_cases h : fs.contains j = true
  · rw [if_pos h]
    unfold putK
    rw [valV_any, mkS_has, if_pos h]
    unfold mkS
    rw [List.map_map]
    refine List.map_congr_left fun i _ => ?_
    show (if (Sum.inl i : Key) = Sum.inl j then ((Sum.inl i : Key), V.bl true) else _) = _
    split <;> rfl
  · rw [if_neg h, putK_new (V.bl true) (by rw [mkS_val, if_neg h])]
    unfold mkS
    rw [List.map_append]
    rfl
theorem mkS_ins {fs : List Int} {j : Int} (h : j ∉ fs) : ins1 fs j = fs ++ [j] := by
  unfold ins1
  rw [if_neg fun z => h (List.contains_iff_mem.mp z)]
/-! ### a dict comprehension over a list -/
theorem dc_list {K : PySem.W.Frag} {a : Addr} {xs : List V} {g : TG} {tt : TT} {tk tv : TE} {vs : List Nat} {σ : L2.St} {H1 : Hp} {D : Addr} {Qd : Hp → Prop} (Pv : Nat → Hp → Prop) (h0 : Pv 0 (upd H1 D (.dK []))) (hl : ∀ i H, i ≤ xs.length → Pv i H → SqL K H a xs)
    (hs : ∀ i x H, xs[i]? = some x → Pv i H → g x (wipe σ vs) H fun σ2 H2 => wipe σ2 vs = wipe σ vs ∧ tt σ2 H2 fun b H3 =>
      if b = true then tk σ2 H3 fun y H4 => tv σ2 H4 fun z H5 => ∃ kvs k, y = kV k ∧ H5 D = some (.dK kvs) ∧ kvs.length < sizeLine ∧ Pv (i + 1) (upd H5 D (.dK (putK kvs k z))) else Pv (i + 1) H3) (hd : ∀ H, Pv xs.length H → Qd H) :
    ∃ W : Nat → Nat → Hp → Prop, (∃ m, W 0 m (upd H1 D (.dK []))) ∧ ∀ i m H, W i m H →
      ((Itl K a).stop i H ∧ Qd H) ∨ ((Itl K a).go i H ∧ ∃ Nx : Hp → Prop, (∀ H', Nx H' → ∃ m', m' < m ∧ W (i + 1) m' H') ∧ ∀ x H', (Itl K a).yld i H x H' → g x (wipe σ vs) H' fun σ2 H2 => wipe σ2 vs = wipe σ vs ∧ tt σ2 H2 fun b H3 =>
        if b = true then tk σ2 H3 fun y H4 => tv σ2 H4 fun z H5 => ∃ kvs k, y = kV k ∧ H5 D = some (.dK kvs) ∧ kvs.length < sizeLine ∧ Nx (upd H5 D (.dK (putK kvs k z))) else Nx H3) := by
  refine ⟨fun i m H => m = xs.length - i ∧ i ≤ xs.length ∧ Pv i H, ⟨xs.length, by simp, Nat.zero_le _, h0⟩, ?_⟩
  rintro i m H ⟨rfl, hi, p⟩
  have q := hl i H hi p
  by_cases hlt : i < xs.length
  · refine .inr ⟨⟨xs, xs[i], q, by simp [hlt]⟩, Pv (i + 1), fun H' p' => ⟨xs.length - (i + 1), by omega, rfl, hlt, p'⟩, fun x H' y => ?_⟩
    obtain ⟨e, y⟩ := y
    subst e
    exact hs i x _ (y xs q) p
  · have e : i = xs.length := by omega
    subst e
    exact .inl ⟨⟨xs, q, Nat.le_refl _⟩, hd H p⟩
end Fw

set_option Elab.async false
set_option linter.all false
set_option maxRecDepth 100000
set_option maxHeartbeats 4000000
namespace Fw
open PySem L2 RZ RT
/-! ### with_lower -/
def sp_with_lower (_ : PySem.W.Frag) : Sp := fun vs H Q _ => ∃ (p q : Addr) (ws : List Int) (ls : List (Int × Int)) (ss : List Int), vs = [.ref p, .ref q] ∧ ShapeAt H p ws ls ∧ Good ws ls ∧ ls.length ≤ 10000 ∧ H q = some (.lst (ss.map V.int)) ∧ ss.Nodup ∧ ss.length ≤ 1000 ∧
  ∀ (F : Addr) (H' : Hp), Same H H' → H F = none → H' F = some (.dK (mkS (lower ls ss))) → Q (.ref F) H'
abbrev N_with_lower : List Str := ["shape", "starts", "found", "version", "upper", "lower"]
def t_with_lower (K : PySem.W.Frag) : TS := (tSeq (tAsg (tDc (iList K (tVar 1)) (gName 3) tYes (tVar 3) (tC (.bl true)) [3]) (gName 2))
    (tSeq (tFor (iRevA K (tOp (rIx K) (tVar 0) (tC (.int 1)))) (gTup K 2 (gCons (gName 4) (gCons (gName 5) gNil))) (tIfS (tB (tDIn (tVar 4) (tVar 2))) (sDPut (tVar 2) (tVar 5) (tC (.bl true))) tNext))
    (tRet (tVar 2))))
theorem len_with_lower {K : PySem.W.Frag} {vs : List V} {H : Hp} {Q : VK} {E : XK} (h : sp_with_lower K vs H Q E) : vs.length = 2 := by
  obtain ⟨_, _, _, _, _, rfl, _⟩ := h
  rfl
theorem length_lower (ls : List (Int × Int)) (ss : List Int) : (lower ls ss).length ≤ ss.length + ls.length := by
  induction ls with
  | nil => exact Nat.le_refl _
  | cons l r ih =>
    rw [lower_cons]
    unfold addB
    split
    · have := length_ins1 (lower r ss) l.2
      rw [List.length_cons]
      omega
    · rw [List.length_cons]
      omega
theorem drop_rev {α : Type} {l : List α} {i : Nat} {x : α} (hi : i < l.length) (h : l[l.length - 1 - i]? = some x) : l.drop (l.length - (i + 1)) = x :: l.drop (l.length - i) := by
  have e1 : l.length - (i + 1) = l.length - 1 - i := by omega
  obtain ⟨h1, h2⟩ := List.getElem?_eq_some_iff.mp h
  rw [e1, List.drop_eq_getElem_cons h1, h2, show l.length - 1 - i + 1 = l.length - i by omega]
theorem pure_with_lower {K : PySem.W.Frag} {vs : List V} {H : Hp} {Q : VK} {E : XK} (h : sp_with_lower K vs H Q E) : t_with_lower K { nx := fun _ H' => Q .non H', rt := Q } (start N_with_lower vs) H := by
  obtain ⟨p, q, ws, ls, ss, rfl, ⟨a, r, rs, hp, ha, hr, lk⟩, g, hlz, hq, nd, hsz, k⟩ := h
  refine ⟨_, rfl, q, rfl, ⟨_, sqL hq⟩, fun F nF => ?_⟩
  have up : ∀ kvs, Same H (upd H F (.dK kvs)) := fun kvs b o e => updN (ne_of_none e nF) e
  refine dc_list (K := K) (a := q) (xs := ss.map V.int) (fun i H2 => H2 = upd H F (.dK (mkS (ss.take i)))) (by rw [List.take_zero]; rfl) (fun i H2 _ e => by rw [e]; exact sqL (up _ _ _ hq)) (fun i x H2 hx e => ?_) (fun H2 e => ?_)
  · subst e
    rw [List.getElem?_map] at hx
    cases en : ss[i]? with
    | none => rw [en] at hx; cases hx
    | some n =>
      rw [en] at hx
      cases Option.some.inj hx
      refine ⟨rfl, ⟨_, rfl, mkS (ss.take i), Sum.inl n, rfl, updS, ?_, ?_⟩⟩
      · rw [mkS_length]
        exact Nat.lt_of_le_of_lt (by rw [List.length_take]; omega : (ss.take i).length ≤ 1000) (by decide)
      · have nin : n ∉ ss.take i := fun hm => by
          obtain ⟨j, hj, e⟩ := List.getElem_of_mem hm
          rw [List.length_take] at hj
          rw [List.getElem_take] at e
          have hi := (List.getElem?_eq_some_iff.mp en)
          have : j = i := (List.getElem_inj nd).mp (e.trans hi.2.symm)
          omega
        rw [upd_upd, take_snoc en, mkS_put, mkS_ins nin]
  · subst e
    rw [List.length_map, List.take_length]
    have hrl : (rs.map V.ref).length = ls.length := by rw [List.length_map, lk.1]
    -- for upper, lower in reversed(shape[1])
    refine ⟨_, rfl, ixT (up _ _ _ hp) rfl ⟨r, rs.map V.ref, rfl, .inr ⟨sqT (up _ _ _ hr), ?_⟩⟩⟩
    refine for_ItvT (K := K) (a := r) (xs := rs.map V.ref) (fun i σ H2 => ∃ z3 z4 z5 : Option V, σ = [some (.ref p), some (.ref q), some (.ref F), z3, z4, z5] ∧ H2 = upd H F (.dK (mkS (lower (ls.drop (ls.length - i)) ss)))) ?_ ?_ ?_ ?_
    · refine ⟨none, none, none, rfl, ?_⟩
      rw [Nat.sub_zero, List.drop_length]
      rfl
    · rintro i σ H2 ⟨_, _, _, _, rfl⟩
      exact sqT (up _ _ _ hr)
    · rintro i x σ H2 hi hx ⟨z3, z4, z5, rfl, rfl⟩
      rw [hrl] at hi hx
      rw [List.getElem?_map] at hx
      have hj : ls.length - 1 - i < ls.length := by omega
      cases er : rs[ls.length - 1 - i]? with
      | none => rw [er] at hx; cases hx
      | some b =>
        rw [er] at hx
        cases Option.some.inj hx
        have el : ls[ls.length - 1 - i]? = some ls[ls.length - 1 - i] := List.getElem?_eq_getElem hj
        generalize ls[ls.length - 1 - i] = l at el
        have hb := lk.2 _ _ _ er el
        have ed := drop_rev hi el
        refine ⟨b, [.int l.1, .int l.2], rfl, sqT (up _ _ _ hb), rfl, _, [.int l.2], rfl, _, [], rfl, rfl, ?_⟩
        have hlen : (mkS (lower (ls.drop (ls.length - i)) ss)).length < sizeLine := by
          rw [mkS_length]
          have := length_lower (ls.drop (ls.length - i)) ss
          rw [List.length_drop] at this
          exact Nat.lt_of_le_of_lt (show _ ≤ 20000 by omega) (by decide)
        refine ⟨_, rfl, _, rfl, F, _, rfl, DGet.k (k := Sum.inl l.1) updS, _, rfl, ?_⟩
        rw [mkS_has]
        refine ite2 (fun e => ?_) (fun e => ?_)
        · refine ⟨_, rfl, _, rfl, F, _, rfl, DPut.k (k := Sum.inl l.2) updS hlen, _, _, _, rfl, ?_⟩
          rw [upd_upd, mkS_put, ed, lower_cons]
          unfold addB
          rw [if_pos e]
        · refine ⟨_, _, _, rfl, ?_⟩
          rw [ed, lower_cons]
          unfold addB
          rw [if_neg e]
    · rintro σ H2 ⟨z3, z4, z5, rfl, rfl⟩
      rw [hrl, Nat.sub_self, List.drop_zero]
      exact ⟨_, rfl, k F _ (up _) nF updS⟩
/-! ### rows: for each version what is below it -/
def rowsKV (ws : List Int) (as : List Addr) : List (Key × V) := List.zipWith (fun v a => ((Sum.inl v : Key), V.ref a)) ws as
def RowsAt (H : Hp) (R : Addr) (ws : List Int) (ls : List (Int × Int)) (done : List Int) (as : List Addr) : Prop := as.length = done.length ∧ H R = some (.dK (rowsKV done as)) ∧ ∀ (i : Nat) (v : Int) (a : Addr), done[i]? = some v → as[i]? = some a → H a = some (.lst ((belowL ws ls v).map V.int))
theorem rows_val {v : Int} {a : Addr} : ∀ {ws : List Int} {as : List Addr} {i : Nat}, ws.Nodup → ws[i]? = some v → as[i]? = some a → valV (rowsKV ws as) (.inl v) = some (.ref a)
  | [], _, _, _, h, _ => by simp at h
  | _ :: _, [], _, _, _, h => by simp at h
  | w :: ws, b :: as, 0, nd, h1, h2 => by
    cases Option.some.inj h1
    cases Option.some.inj h2
    exact valV_pos (p := ((Sum.inl v : Key), V.ref a)) rfl
  | w :: ws, b :: as, i + 1, nd, h1, h2 => by
    have n2 := List.nodup_cons.mp nd
    have h1' : ws[i]? = some v := h1
    have ne : ¬ (Sum.inl w : Key) = Sum.inl v := fun e => n2.1 (by rw [Sum.inl.inj e]; exact List.mem_of_getElem? h1')
    show valV ((Sum.inl w, V.ref b) :: rowsKV ws as) (.inl v) = _
    rw [valV_neg (p := ((Sum.inl w : Key), V.ref b)) ne]
    exact rows_val n2.2 h1' h2
theorem rows_none {v : Int} : ∀ {ws : List Int} {as : List Addr}, v ∉ ws → valV (rowsKV ws as) (.inl v) = none
  | [], _, _ => rfl
  | _ :: _, [], _ => rfl
  | w :: ws, b :: as, h => by
    show valV ((Sum.inl w, V.ref b) :: rowsKV ws as) (.inl v) = _
    rw [valV_neg (p := ((Sum.inl w : Key), V.ref b)) fun e => h (by rw [Sum.inl.inj e]; exact List.mem_cons_self ..)]
    exact rows_none fun hm => h (List.mem_cons_of_mem _ hm)
theorem rowsKV_length {ws : List Int} {as : List Addr} (h : as.length = ws.length) : (rowsKV ws as).length = ws.length := by
  unfold rowsKV
  rw [List.length_zipWith, h, Nat.min_self]
theorem rowsKV_snoc {ws : List Int} {as : List Addr} {v : Int} {a : Addr} (h : as.length = ws.length) : rowsKV (ws ++ [v]) (as ++ [a]) = rowsKV ws as ++ [((Sum.inl v : Key), V.ref a)] := by
  unfold rowsKV
  rw [List.zipWith_append h.symm]
  rfl
def sp_l_spans (_ : PySem.W.Frag) : Sp := fun vs H Q _ => ∃ (p : Addr) (ws : List Int) (ls : List (Int × Int)), vs = [.ref p] ∧ ShapeAt H p ws ls ∧ Good ws ls ∧ ws.length ≤ 60 ∧ ls.length ≤ 10000 ∧
  ∀ (R : Addr) (as : List Addr) (H' : Hp), Same H H' → H R = none → RowsAt H' R ws ls ws as → (∀ a ∈ as, H a = none) → Q (.ref R) H'
theorem len_l_spans {K : PySem.W.Frag} {vs : List V} {H : Hp} {Q : VK} {E : XK} (h : sp_l_spans K vs H Q E) : vs.length = 1 := by
  obtain ⟨_, _, _, rfl, _⟩ := h
  rfl
def fSortD : List V → Hp → VK → Prop := fun xs H Q => ∃ (a : Addr) (kvs : List (Key × V)) (ks : List Int), xs = [.ref a] ∧ Rd H a (.dK kvs) ∧ kvs.map (·.1) = ks.map Sum.inl ∧ ks.length < 64 ∧ ∀ (ys : List Int) (p : Addr), ys.Perm ks → ys.Pairwise (· ≤ ·) → H p = none → Q (.ref p) (upd H p (.lst (ys.map V.int)))
abbrev N_l_spans : List Str := ["_law_web", "_law_rows", "_law_version", "_law_found", "_law_two", "_law_low"]
def t_l_spans (K : PySem.W.Frag) : TS := (tSeq (tAsg tDNewK (gName 1))
    (tSeq (tFor (iTup K (tOp (rIx K) (tVar 0) (tC (.int 0)))) (gName 2) (tSeq (tAsg (tDisp (((tVar 2), (tC (.bl true))) :: [])) (gName 3))
    (tSeq (tFor (iTup K (tOp (rIx K) (tVar 0) (tC (.int 1)))) (gName 4) (tIfS (tTest (tOp rEq (tOp (rIx K) (tVar 4) (tC (.int 0))) (tVar 2))) (tFor (iList K (tDGet (tVar 1) (tOp (rIx K) (tVar 4) (tC (.int 1))))) (gName 5) (sDPut (tVar 3) (tVar 5) (tC (.bl true)))) tNext))
    (sDPut (tVar 1) (tVar 2) (tCB fSortD (tCons (tVar 3) tNil))))))
    (tRet (tVar 1))))
def insAll (fs ns : List Int) : List Int := ns.foldl ins1 fs
theorem insAll_snoc (fs ns : List Int) (n : Int) : insAll fs (ns ++ [n]) = ins1 (insAll fs ns) n := by
  unfold insAll
  rw [List.foldl_append]
  rfl
theorem mem_insAll {x : Int} : ∀ {ns fs : List Int}, x ∈ insAll fs ns ↔ x ∈ fs ∨ x ∈ ns
  | [], fs => ⟨Or.inl, fun h => h.elim id fun z => nomatch z⟩
  | n :: r, fs => by
    show x ∈ insAll (ins1 fs n) r ↔ _
    rw [mem_insAll, mem_ins1, List.mem_cons, or_assoc]
theorem nodup_insAll : ∀ {ns fs : List Int}, fs.Nodup → (insAll fs ns).Nodup
  | [], _, h => h
  | n :: r, fs, h => nodup_insAll (ns := r) (fs := ins1 fs n) (nodup_ins1 h)
theorem length_sub : ∀ {fs vs : List Int}, fs.Nodup → (∀ x ∈ fs, x ∈ vs) → fs.length ≤ vs.length
  | [], _, _, _ => Nat.zero_le _
  | x :: r, vs, nd, h => by
    obtain ⟨n1, n2⟩ := List.nodup_cons.mp nd
    have hx := h x (List.mem_cons_self ..)
    have := length_sub (vs := vs.erase x) n2 fun y hy => (List.mem_erase_of_ne fun e => n1 (by rw [← e]; exact hy)).mpr (h y (List.mem_cons_of_mem _ hy))
    rw [List.length_erase_of_mem hx] at this
    have := List.length_pos_of_mem hx
    rw [List.length_cons]
    omega
/-- what is found for v behind the first j links -/
def Fnd (ls : List (Int × Int)) (v : Int) (j : Nat) (fs : List Int) : Prop := fs.Nodup ∧ ∀ x, x ∈ fs ↔ x = v ∨ ∃ l ∈ ls.take j, l.1 = v ∧ Dn ls l.2 x
theorem Fnd.all {ls : List (Int × Int)} {v : Int} {fs : List Int} (h : Fnd ls v ls.length fs) (x : Int) : x ∈ fs ↔ Dn ls v x := by
  rw [h.2, List.take_length]
  refine ⟨fun k => ?_, fun k => ?_⟩
  · rcases k with rfl | ⟨l, hl, rfl, d⟩
    · exact .refl _
    · exact .step hl d
  · cases k with
    | refl => exact .inl rfl
    | step hl d => exact .inr ⟨_, hl, rfl, d⟩
theorem pure_l_spans {K : PySem.W.Frag} {vs : List V} {H : Hp} {Q : VK} {E : XK} (h : sp_l_spans K vs H Q E) : t_l_spans K { nx := fun _ H' => Q .non H', rt := Q } (start N_l_spans vs) H := by
  obtain ⟨p, ws, ls, rfl, ⟨q, r, rs, hp, hq, hr, lk⟩, g, hw, hlz, k⟩ := h
  refine fun R nR => ?_
  have upR : Same H (upd H R (.dK [])) := fun b o e => updN (ne_of_none e nR) e
  refine ⟨_, rfl, ixT (upR _ _ hp) rfl ⟨q, rfl, ⟨_, sqT (upR _ _ hq)⟩, ?_⟩⟩
  refine for_tup (K := K) (a := q) (xs := ws.map V.int) (fun i σ H' => ∃ (as : List Addr) (z2 z3 z4 z5 : Option V), σ = [some (.ref p), some (.ref R), z2, z3, z4, z5] ∧ (Same H H' ∧ ∀ a ∈ as, H a = none) ∧ RowsAt H' R ws ls (ws.take i) as) ?_ ?_ ?_ ?_
  · refine ⟨[], none, none, none, none, rfl, ⟨upR, fun a ha => nomatch ha⟩, rfl, ?_, fun i v a h1 _ => by rw [List.take_zero] at h1; cases h1⟩
    rw [List.take_zero]
    exact updS
  · rintro i σ H' _ ⟨_, _, _, _, _, _, ⟨s, _⟩, _⟩
    exact sqT (s _ _ hq)
  · rintro i x σ H1 hx ⟨as, z2, z3, z4, z5, rfl, ⟨s1, hfree⟩, hal, hR, hrow⟩
    rw [List.getElem?_map] at hx
    cases ev : ws[i]? with
    | none => rw [ev] at hx; cases hx
    | some v =>
      rw [ev] at hx
      cases Option.some.inj hx
      have hvm : v ∈ ws := List.mem_of_getElem? ev
      have hi : i < ws.length := (List.getElem?_eq_some_iff.mp ev).1
      have htl : (ws.take i).length = i := by rw [List.length_take]; omega
      -- found = {version: True}
      refine fun F nF => ⟨_, rfl, updS, [(Sum.inl v, .bl true)], rfl, (by show (1 : Nat) ≤ 15; decide), ?_⟩
      rw [upd_upd]
      have e0 : mergeK [] [((Sum.inl v : Key), V.bl true)] = mkS [v] := rfl
      rw [e0]
      have sF : ∀ kvs, Same H1 (upd H1 F (.dK kvs)) := fun kvs b o e => updN (ne_of_none e nF) e
      have nRF : R ≠ F := ne_of_none hR nF
      -- for two in web[1]
      refine ⟨_, rfl, ixT (sF _ _ _ (s1 _ _ hp)) rfl ⟨r, rfl, ⟨_, sqT (sF _ _ _ (s1 _ _ hr))⟩, ?_⟩⟩
      refine for_tup (K := K) (a := r) (xs := rs.map V.ref) (fun j σ H' => ∃ (fs : List Int) (z4 z5 : Option V), σ = [some (.ref p), some (.ref R), some (.int v), some (.ref F), z4, z5] ∧ H' = upd H1 F (.dK (mkS fs)) ∧ Fnd ls v j fs) ?_ ?_ ?_ ?_
      · refine ⟨[v], z4, z5, rfl, rfl, List.pairwise_singleton _ _, fun x => ?_⟩
        rw [List.mem_singleton, List.take_zero]
        exact ⟨Or.inl, fun h => h.elim id fun ⟨l, hl, _⟩ => nomatch hl⟩
      · rintro j σ H' _ ⟨_, _, _, _, rfl, _⟩
        exact sqT (sF _ _ _ (s1 _ _ hr))
      · rintro j x σ H' hxj ⟨fs, z4, z5, rfl, rfl, fd⟩
        rw [List.getElem?_map] at hxj
        cases er : rs[j]? with
        | none => rw [er] at hxj; cases hxj
        | some b =>
          rw [er] at hxj
          cases Option.some.inj hxj
          have hj : j < ls.length := by rw [← lk.1]; exact (List.getElem?_eq_some_iff.mp er).1
          have el : ls[j]? = some ls[j] := List.getElem?_eq_getElem hj
          generalize ls[j] = l at el
          have hb : upd H1 F (.dK (mkS fs)) b = some (.tup [.int l.1, .int l.2]) := sF _ _ _ (s1 _ _ (lk.2 j b l er el))
          have hlm : l ∈ ls := List.mem_of_getElem? el
          obtain ⟨m1, m2, m3⟩ := g.mem l hlm
          have tk : ls.take (j + 1) = ls.take j ++ [l] := take_snoc el
          refine ⟨_, rfl, ixT hb rfl ⟨_, rfl, rfl, _, rfl, ite2 (fun e => ?_) (fun e => ?_)⟩⟩
          · have e1 : l.1 = v := V.int.inj (of_decide_eq_true e)
            -- for low in rows[two[1]]
            obtain ⟨m, hm, em⟩ := List.getElem_of_mem m2
            have em2 : ws[m]? = some l.2 := List.getElem?_eq_some_iff.mpr ⟨hm, em⟩
            have hmi : m < i := by
              have h1 := List.getElem?_eq_some_iff.mp ev
              have : ¬ i ≤ m := fun hle => by
                rcases Nat.lt_or_eq_of_le hle with hlt | heq
                · have := List.pairwise_iff_getElem.mp g.inc i m h1.1 hm hlt
                  rw [h1.2, em] at this
                  omega
                · subst heq
                  rw [em2] at ev
                  have := Option.some.inj ev
                  omega
              omega
            have em3 : (ws.take i)[m]? = some l.2 := by rw [List.getElem?_take_of_lt hmi]; exact em2
            have hma : m < as.length := by rw [hal, htl]; exact hmi
            have ea : as[m]? = some as[m] := List.getElem?_eq_getElem hma
            have rv : valV (rowsKV (ws.take i) as) (.inl l.2) = some (.ref as[m]) := rows_val ((rising_nodup g.inc).sublist (List.take_sublist _ _)) em3 ea
            have hlist := hrow m l.2 as[m] em3 ea
            refine ⟨_, rfl, _, rfl, ixT hb rfl ⟨R, _, rfl, ?_, as[m], rfl, ⟨_, sqL (sF _ _ _ hlist)⟩, ?_⟩⟩
            · have := DGet.k (k := Sum.inl l.2) (sF (mkS fs) _ _ hR)
              rw [rv] at this
              exact this
            · refine for_list (K := K) (a := as[m]) (xs := (belowL ws ls l.2).map V.int) (fun n σ H' => ∃ z5 : Option V, σ = [some (.ref p), some (.ref R), some (.int v), some (.ref F), some (.ref b), z5] ∧ H' = upd H1 F (.dK (mkS (insAll fs ((belowL ws ls l.2).take n))))) ?_ ?_ ?_ ?_
              · exact ⟨z5, rfl, by rw [List.take_zero]; rfl⟩
              · rintro n σ H' _ ⟨_, _, rfl⟩
                exact sqL (sF _ _ _ hlist)
              · rintro n x σ H' hxn ⟨z5, rfl, rfl⟩
                rw [List.getElem?_map] at hxn
                cases eu : (belowL ws ls l.2)[n]? with
                | none => rw [eu] at hxn; cases hxn
                | some u =>
                  rw [eu] at hxn
                  cases Option.some.inj hxn
                  have hnd : (insAll fs ((belowL ws ls l.2).take n)).Nodup := nodup_insAll fd.1
                  have hlen : (mkS (insAll fs ((belowL ws ls l.2).take n))).length < sizeLine := by
                    rw [mkS_length]
                    have := length_sub (vs := ws) hnd fun y hy => by
                      rcases mem_insAll.mp hy with hy | hy
                      · rcases (fd.2 y).mp hy with rfl | ⟨l', hl', _, d⟩
                        · exact hvm
                        · exact d.mem g (g.mem l' (List.mem_of_mem_take hl')).2.1
                      · exact ((mem_belowL g m2).mp (List.mem_of_mem_take hy)).mem g m2
                    exact Nat.lt_of_le_of_lt (show _ ≤ 1000 by omega) (by decide)
                  refine ⟨_, rfl, _, rfl, F, _, rfl, DPut.k (k := Sum.inl u) updS hlen, _, rfl, ?_⟩
                  rw [upd_upd, mkS_put, take_snoc eu, insAll_snoc]
              · rintro σ H' ⟨z5, rfl, rfl⟩
                rw [List.length_map, List.take_length]
                refine ⟨_, _, _, rfl, rfl, nodup_insAll fd.1, fun x => ?_⟩
                rw [mem_insAll, fd.2, mem_belowL g m2, tk]
                refine ⟨fun h => ?_, fun h => ?_⟩
                · rcases h with (h | ⟨l', hl', h⟩) | h
                  · exact .inl h
                  · exact .inr ⟨l', List.mem_append_left _ hl', h⟩
                  · exact .inr ⟨l, List.mem_append_right _ (List.mem_singleton.mpr rfl), e1, h⟩
                · rcases h with h | ⟨l', hl', e', d⟩
                  · exact .inl (.inl h)
                  · rcases List.mem_append.mp hl' with hl' | hl'
                    · exact .inl (.inr ⟨l', hl', e', d⟩)
                    · cases List.mem_singleton.mp hl'
                      exact .inr d
          · have e1 : ¬ l.1 = v := fun z => e (decide_eq_true (by rw [z]))
            refine ⟨fs, _, _, rfl, rfl, fd.1, fun x => ?_⟩
            rw [fd.2, tk]
            refine or_congr Iff.rfl ⟨fun ⟨l', hl', h⟩ => ⟨l', List.mem_append_left _ hl', h⟩, fun ⟨l', hl', h⟩ => ?_⟩
            rcases List.mem_append.mp hl' with hl' | hl'
            · exact ⟨l', hl', h⟩
            · cases List.mem_singleton.mp hl'
              exact absurd h.1 e1
      · rintro σ H' ⟨fs, z4, z5, rfl, rfl, fd⟩
        rw [List.length_map, lk.1] at fd
        have hin : ∀ x ∈ fs, x ∈ ws := fun x hx => ((fd.all x).mp hx).mem g hvm
        have hfl := length_sub fd.1 hin
        -- rows[version] = sorted(found)
        refine ⟨_, rfl, F, mkS fs, fs, rfl, .inl updS, mkS_keys fs, by omega, fun ys S py sy nS => ?_⟩
        have ey : ys = belowL ws ls v := by
          rw [sorted_is g.inc fd.1 hin py sy]
          unfold belowL
          refine List.filter_congr fun u _ => ?_
          have : fs.contains u = (lower ls [v]).contains u := by
            rw [Bool.eq_iff_iff, List.contains_iff_mem, List.contains_iff_mem, fd.all, mem_lower g]
            exact ⟨fun d => ⟨v, List.mem_singleton.mpr rfl, d⟩, fun ⟨s, hs, d⟩ => by rw [← List.mem_singleton.mp hs]; exact d⟩
          exact this
        subst ey
        have nSR : R ≠ S := ne_of_none (sF (mkS fs) _ _ hR) nS
        have nS1 : H1 S = none := by
          cases e : H1 S with
          | none => rfl
          | some o => rw [sF (mkS fs) _ _ e] at nS; cases nS
        have nvt : v ∉ ws.take i := fun hm => by
          obtain ⟨j, hj, e⟩ := List.getElem_of_mem hm
          rw [htl] at hj
          rw [List.getElem_take] at e
          have h1 := List.getElem?_eq_some_iff.mp ev
          have := (List.getElem_inj (rising_nodup g.inc)).mp (e.trans h1.2.symm)
          omega
        refine ⟨_, rfl, _, rfl, R, _, rfl, DPut.k (k := Sum.inl v) (updN nSR (sF _ _ _ hR)) ?_, as ++ [S], _, _, _, _, rfl, ?_, ?_, ?_, ?_⟩
        · rw [rowsKV_length hal, htl]
          exact Nat.lt_of_le_of_lt (show i ≤ 1000 by omega) (by decide)
        · refine ⟨fun b o e => updN (ne_of_none e nR) (updN (ne_of_none (s1 _ _ e) nS1) (sF _ _ _ (s1 _ _ e))), fun a ha => ?_⟩
          rcases List.mem_append.mp ha with ha | ha
          · exact hfree a ha
          · rw [List.mem_singleton.mp ha]
            exact s1.free nS1
        · rw [List.length_append, take_snoc ev, List.length_append, hal]
          rfl
        · rw [updS, putK_new _ (rows_none nvt), take_snoc ev, rowsKV_snoc hal]
        · intro m w a h1 h2
          have keep : ∀ b xs, H1 b = some (.lst xs) → upd (upd (upd H1 F (.dK (mkS fs))) S (.lst ((belowL ws ls v).map V.int))) R (.dK (putK (rowsKV (ws.take i) as) (.inl v) (.ref S))) b = some (.lst xs) := fun b xs e =>
            updN (ne_of e hR (by intro z; cases z)) (updN (ne_of_none e nS1) (sF _ _ _ e))
          rw [take_snoc ev] at h1
          by_cases hmi : m < i
          · rw [List.getElem?_append_left (by rw [htl]; exact hmi)] at h1
            rw [List.getElem?_append_left (by rw [hal, htl]; exact hmi)] at h2
            exact keep _ _ (hrow m w a h1 h2)
          · have hm2 := (List.getElem?_eq_some_iff.mp h1).1
            rw [List.length_append, htl, List.length_singleton] at hm2
            have : m = i := by omega
            subst this
            rw [List.getElem?_append_right (by rw [htl]; exact Nat.le_refl _), htl, Nat.sub_self] at h1
            rw [List.getElem?_append_right (by rw [hal, htl]; exact Nat.le_refl _), hal, htl, Nat.sub_self] at h2
            cases Option.some.inj h1
            cases Option.some.inj h2
            exact updN nSR.symm updS
  · rintro σ H' ⟨as, z2, z3, z4, z5, rfl, ⟨s1, hfree⟩, rw1⟩
    rw [List.length_map, List.take_length] at rw1
    exact ⟨_, rfl, k R as _ s1 nR rw1 hfree⟩
end Fw

set_option Elab.async false
set_option linter.all false
set_option maxRecDepth 100000
set_option maxHeartbeats 4000000
namespace Fw
open PySem L2 RZ RT
/-! ### ladders -/
/-- where one list of links grows -/
structure LI (H0 : Hp) (c D LL : Addr) (ns : List Int) (t : Nat) (rs : List Addr) (ls : List (Int × Int)) (H : Hp) : Prop where
  dk : Dk c D ns t H
  keep : Kp D H0 H
  hl : H LL = some (.lst (rs.map V.ref))
  pr : LkAt H rs ls
  d0 : ∃ t0, Dk c D ns t0 H0
  l0 : H0 LL = none
section
variable {H0 H H' : Hp} {c D LL q : Addr} {ns : List Int} {t t' : Nat} {rs : List Addr} {ls : List (Int × Int)} {o : HO}
theorem LI.lD (s : LI H0 c D LL ns t rs ls H) : LL ≠ D := s.d0.choose_spec.neD s.l0
theorem LI.lC (s : LI H0 c D LL ns t rs ls H) : LL ≠ c := s.d0.choose_spec.neC s.l0
theorem LI.new (s : LI H0 c D LL ns t rs ls H) (n : H q = none) : LI H0 c D LL ns t rs ls (upd H q o) :=
  ⟨s.dk.upd (s.dk.neC n) (s.dk.neD n), s.keep.trans (.new n), updN (ne_of_none s.hl n) s.hl, s.pr.mono fun a xs h => updN (ne_of_none h n) h, s.d0, s.l0⟩
theorem LI.addL (s : LI H0 c D LL ns t rs ls H) {T : Addr} {l : Int × Int} (hT : H T = some (.tup [.int l.1, .int l.2])) : LI H0 c D LL ns t (rs ++ [T]) (ls ++ [l]) (upd H LL (.lst (rs.map V.ref ++ [.ref T]))) :=
  ⟨s.dk.upd s.lC s.lD, fun b u e n => updN (ne_of_none e s.l0) (s.keep b u e n), by rw [updS, List.map_append]; rfl, (s.pr.snoc hT).mono fun a xs h => updN (ne_of h s.hl (by intro z; cases z)) h, s.d0, s.l0⟩
end
theorem GI.le {vs : List Int} {ls : List (Int × Int)} {last : Int} {j j' : Nat} (g : GI vs ls last j) (h : j ≤ j') : GI vs ls last j' :=
  ⟨g.inc, g.nn, g.top, g.lz, g.mem, g.lex, fun l hl => (g.new l hl).imp id fun k => ⟨k.1, fun i w hi => k.2 i w (by omega)⟩⟩
theorem vsL_snoc (a g : Int) (n : Nat) : vsL a g (n + 1) = vsL a g n ++ [a + g * (n : Int)] := by
  unfold vsL
  rw [List.range_succ, List.map_append]
  rfl
/-- the place behind j1, behind j2 -/
def ix2 (j1 j2 : Int) (n : Nat) : Nat := if n = 0 then 0 else if n = 1 then (j1 + 1).toNat else (j2 + 1).toNat
abbrev sp_l_ladder (_ : PySem.W.Frag) : Sp := sp_mkshape 60 4000 (fun most n => (n : Int) ≤ most) (fun _ ls => ls.length ≤ 4000)
theorem len_l_ladder {K : PySem.W.Frag} {vs : List V} {H : Hp} {Q : VK} {E : XK} (h : sp_l_ladder K vs H Q E) : vs.length = 2 := len_mkshape h
abbrev N_l_ladder : List Str := ["_law_deck_here", "_law_most", "_law_first", "_law_gap", "_law_pairs", "_law_many", "_law_links", "_law_k", "_law_j"]
def t_l_ladder_b (K : PySem.W.Frag) : TS := (tFor (iList K (tLst (tCons (tOp rSubI (tVar 7) (tC (.int 2))) (tCons (tOp rSubI (tVar 7) (tC (.int 1))) tNil)))) (gName 8) (tIfS (tAnd (tTest (tOp rEq (tVar 4) (tC (.int 0)))) (tTest (tOp rGeI (tVar 8) (tC (.int 0))))) (tDrop (tBM K "list" rAppend (tVar 6) (tCons (tTup (tCons (tOp rAddI (tVar 2) (tOp rMulI (tVar 3) (tVar 7))) (tCons (tOp rAddI (tVar 2) (tOp rMulI (tVar 3) (tVar 8))) tNil))) tNil))) tNext))
def t_l_ladder_a (K : PySem.W.Frag) : TS := (tSeq (tFor (iList K (tLst (tCons (tOp rAddI (tOp rSubI (tVar 7) (tC (.int 3))) (tOp rModI (tOp rAddI (tVar 7) (tC (.int 1))) (tC (.int 2)))) (tCons (tOp rAddI (tOp rSubI (tVar 7) (tC (.int 2))) (tOp rModI (tOp rAddI (tVar 7) (tC (.int 1))) (tC (.int 2)))) tNil)))) (gName 8) (tIfS (tAnd (tTest (tOp rEq (tVar 4) (tC (.int 1)))) (tTest (tOp rGeI (tVar 8) (tC (.int 0))))) (tDrop (tBM K "list" rAppend (tVar 6) (tCons (tTup (tCons (tOp rAddI (tVar 2) (tOp rMulI (tVar 3) (tVar 7))) (tCons (tOp rAddI (tVar 2) (tOp rMulI (tVar 3) (tVar 8))) tNil))) tNil))) tNext))
    (t_l_ladder_b K))
def t_l_ladder_end (K : PySem.W.Frag) : TS := (tRet (tTup (tCons (tCB (fTupleOf K) (tCons (tLc (iRng1 (tCons (tVar 5) tNil)) (gName 7) tYes (tOp rAddI (tVar 2) (tOp rMulI (tVar 3) (tVar 7))) [7]) tNil)) (tCons (tCB (fTupleOf K) (tCons (tVar 6) tNil)) tNil))))
def t_l_ladder_loop (K : PySem.W.Frag) : TS := (tSeq (tFor (iRng1 (tCons (tVar 5) tNil)) (gName 7) (t_l_ladder_a K))
    (t_l_ladder_end K))
def t_l_ladder (K : PySem.W.Frag) : TS := (tSeq (tAsg (tCall (sp_l_draw K) [] E0 (tCons (tVar 0) (tCons (tOp rPowI (tC (.int 10)) (tC (.int 6))) tNil))) (gName 2))
    (tSeq (tAsg (tOp rAddI (tC (.int 1)) (tCall (sp_l_draw K) [] E0 (tCons (tVar 0) (tCons (tC (.int 3)) tNil)))) (gName 3))
    (tSeq (tAsg (tCall (sp_l_draw K) [] E0 (tCons (tVar 0) (tCons (tC (.int 2)) tNil))) (gName 4))
    (tSeq (tAsg (tOp rAddI (tOp rDivI (tVar 1) (tC (.int 2))) (tCall (sp_l_draw K) [] E0 (tCons (tVar 0) (tCons (tOp rAddI (tOp rDivI (tVar 1) (tC (.int 2))) (tC (.int 1))) tNil)))) (gName 5))
    (tSeq (tAsg (tLst tNil) (gName 6))
    (t_l_ladder_loop K))))))
/-- the state of a loop over two -/
def Lad (H : Hp) (c D LL : Addr) (ns : List Int) (most a gp pr many : Int) (t i : Nat) (pv : Int) (j0 : Nat) (ix : Nat → Nat) (add : Nat) (n : Nat) (σ : L2.St) (H' : Hp) : Prop := ∃ (rs : List Addr) (ls : List (Int × Int)) (z8 : Option V),
  σ = [some (.ref D), some (.int most), some (.int a), some (.int gp), some (.int pr), some (.int many), some (.ref LL), some (.int (0 + (i : Int))), z8] ∧ LI H c D LL ns (t + 4) rs ls H' ∧ GI (vsL a gp i) ls (a + gp * (i : Int)) (if pr = pv then ix n else j0) ∧ ls.length ≤ 4 * i + add + n
theorem pure_l_ladder {K : PySem.W.Frag} {vs : List V} {H : Hp} {Q : VK} {E : XK} (h : sp_l_ladder K vs H Q E) : t_l_ladder K { nx := fun _ H' => Q .non H', rt := Q } (start N_l_ladder vs) H := by
  obtain ⟨c, D, ns, t, most, rfl, dk, m0, m1, ht, k⟩ := h
  refine ⟨_, rfl, _, _, rfl, rfl, ⟨by decide, by decide, by decide⟩, c, D, ns, t, _, rfl, dk, by omega, by rw [pow6]; decide, by rw [pow6]; decide, fun a H1 a0 a1 d1 fr1 => ?_⟩
  rw [pow6] at a1
  refine ⟨_, rfl, c, D, ns, _, 3, rfl, d1, by omega, by decide, by decide, fun g1 H2 g10 g11 d2 fr2 => ⟨_, _, rfl, rfl, ?_⟩⟩
  refine ⟨_, rfl, c, D, ns, _, 2, rfl, d2, by omega, by decide, by decide, fun pr H3 p0 p1 d3 fr3 => ?_⟩
  refine ⟨_, rfl, _, _, rfl, rfl, ⟨by decide, by decide⟩, _, rfl, _, rfl, _, _, rfl, rfl, ⟨by decide, by decide⟩, _, _, rfl, rfl, c, D, ns, _, most / 2 + 1, rfl, d3, by omega, by omega, small100 (by omega), fun x H4 x0 x1 d4 fr4 => ⟨_, _, rfl, rfl, ?_⟩⟩
  have k4 : Kp D H H4 := (((Kp.fr fr1).trans (.fr fr2)).trans (.fr fr3)).trans (.fr fr4)
  obtain ⟨N, hN⟩ := Int.eq_ofNat_of_zero_le (show 0 ≤ most / 2 + x by omega)
  obtain ⟨gp, hgp⟩ : ∃ gp, gp = 1 + g1 := ⟨_, rfl⟩
  have gp0 : 1 ≤ gp := by omega
  have gp1 : gp ≤ 3 := by omega
  refine ⟨Nat.zero_le _, fun LL nL => ?_⟩
  show t_l_ladder_loop K _ [some (.ref D), some (.int most), some (.int a), some (.int (1 + g1)), some (.int pr), some (.int (most / 2 + x)), some (.ref LL), none, none] _
  rw [← hgp]
  generalize hmany : most / 2 + x = many at *
  have s0 : LI H c D LL ns (t + 4) [] [] (upd H4 LL (.lst [])) := ⟨d4.upd (d4.neC nL) (d4.neD nL), k4.trans (.new nL), updS, ⟨rfl, fun i b l h1 _ => by cases h1⟩, ⟨t, dk⟩, k4.free nL (d4.neD nL)⟩
  refine ⟨_, rfl, _, rfl, by omega, by omega, ?_⟩
  have eN : many.toNat = N := by omega
  rw [eN]
  refine for_range (lo := 0) (n := N) (fun i σ H' => ∃ (rs : List Addr) (ls : List (Int × Int)) (z7 z8 : Option V), σ = [some (.ref D), some (.int most), some (.int a), some (.int gp), some (.int pr), some (.int many), some (.ref LL), z7, z8] ∧ LI H c D LL ns (t + 4) rs ls H' ∧ Good (vsL a gp i) ls ∧ ls.length ≤ 4 * i) ?_ ?_ ?_
  · exact ⟨[], [], none, none, rfl, s0, good_nil, Nat.le_refl _⟩
  · rintro i σ H5 hi ⟨rs, ls, z7, z8, rfl, s, g, hlen⟩
    have g0 : GI (vsL a gp i) ls (a + gp * (i : Int)) 0 := .open g (fun v hv => by
      obtain ⟨kk, hk, rfl⟩ := vsL_mem hv
      exact mono_g (by omega) hk) (by
      have := Int.mul_nonneg (show 0 ≤ gp by omega) (show (0 : Int) ≤ (i : Int) by omega)
      omega)
    have e0 : (0 : Int) + (i : Int) = (i : Int) := Int.zero_add _
    have pickA : ∀ (n : Nat) (x : V), [V.int ((i : Int) - 3 + ((i : Int) + 1) % 2), V.int ((i : Int) - 2 + ((i : Int) + 1) % 2)][n]? = some x → ∃ j : Int, x = .int j ∧ (j < (i : Int)) ∧ ix2 ((i : Int) - 3 + ((i : Int) + 1) % 2) ((i : Int) - 2 + ((i : Int) + 1) % 2) n ≤ j.toNat ∧ (j + 1).toNat ≤ ix2 ((i : Int) - 3 + ((i : Int) + 1) % 2) ((i : Int) - 2 + ((i : Int) + 1) % 2) (n + 1) := by
      intro n x hx
      match n, hx with
      | 0, hx => exact ⟨_, (Option.some.inj hx).symm, by omega, by show 0 ≤ _; omega, Nat.le_refl _⟩
      | 1, hx => exact ⟨_, (Option.some.inj hx).symm, by omega, by show ((i : Int) - 3 + ((i : Int) + 1) % 2 + 1).toNat ≤ _; omega, Nat.le_refl _⟩
      | n + 2, hx => simp at hx
    have pickB : ∀ (n : Nat) (x : V), [V.int ((i : Int) - 2), V.int ((i : Int) - 1)][n]? = some x → ∃ j : Int, x = .int j ∧ (j < (i : Int)) ∧ ix2 ((i : Int) - 2) ((i : Int) - 1) n ≤ j.toNat ∧ (j + 1).toNat ≤ ix2 ((i : Int) - 2) ((i : Int) - 1) (n + 1) := by
      intro n x hx
      match n, hx with
      | 0, hx => exact ⟨_, (Option.some.inj hx).symm, by omega, by show 0 ≤ _; omega, Nat.le_refl _⟩
      | 1, hx => exact ⟨_, (Option.some.inj hx).symm, by omega, by show ((i : Int) - 2 + 1).toNat ≤ _; omega, Nat.le_refl _⟩
      | n + 2, hx => simp at hx
    have second : ∀ (jz : Nat) (rs : List Addr) (ls : List (Int × Int)) (z8 : Option V) (H6 : Hp) (Dd : Ends), (∀ (rs : List Addr) (ls : List (Int × Int)) (z7 z8 : Option V) (H' : Hp), LI H c D LL ns (t + 4) rs ls H' → Good (vsL a gp (i + 1)) ls → ls.length ≤ 4 * (i + 1) → Dd.nx [some (.ref D), some (.int most), some (.int a), some (.int gp), some (.int pr), some (.int many), some (.ref LL), z7, z8] H') →
        LI H c D LL ns (t + 4) rs ls H6 → GI (vsL a gp i) ls (a + gp * (i : Int)) (if pr = 0 then 0 else jz) → ls.length ≤ 4 * i + 2 → t_l_ladder_b K Dd [some (.ref D), some (.int most), some (.int a), some (.int gp), some (.int pr), some (.int many), some (.ref LL), some (.int (0 + (i : Int))), z8] H6 := by
      intro jz rs ls z8 H6 Dd kd s5 g5 hl5
      refine ⟨_, rfl, _, _, rfl, rfl, _, rfl, _, _, rfl, rfl, (by show (2 : Nat) ≤ sizeLine; decide), fun q nq => ⟨q, rfl, ⟨_, sqL updS⟩, ?_⟩⟩
      have ex : [V.int (0 + (i : Int) - 2), V.int (0 + (i : Int) - 1)] = [V.int ((i : Int) - 2), V.int ((i : Int) - 1)] := by rw [e0]
      have sq : LI H c D LL ns (t + 4) rs ls (upd H6 q (.lst [V.int ((i : Int) - 2), V.int ((i : Int) - 1)])) := s5.new nq
      have nqL : q ≠ LL := (ne_of_none s5.hl nq).symm
      show ∃ W : Nat → Nat → L2.St → Hp → Prop, (∃ m, W 0 m _ (upd H6 q (.lst [V.int (0 + (i : Int) - 2), V.int (0 + (i : Int) - 1)]))) ∧ _
      rw [ex]
      refine for_list (K := K) (a := q) (xs := [V.int ((i : Int) - 2), V.int ((i : Int) - 1)]) (fun n σ H' => Lad H c D LL ns most a gp pr many t i 0 jz (ix2 ((i : Int) - 2) ((i : Int) - 1)) 2 n σ H' ∧ H' q = some (.lst [V.int ((i : Int) - 2), V.int ((i : Int) - 1)])) ?_ ?_ ?_ ?_
      · exact ⟨⟨rs, ls, z8, rfl, sq, g5, hl5⟩, updS⟩
      · rintro n σ H' _ ⟨_, hq⟩
        exact sqL hq
      · rintro n x σ H6 hx ⟨⟨rs, ls, z8, rfl, s6, g6, hl6⟩, hq6⟩
        have hn2 : n < 2 := (List.getElem?_eq_some_iff.mp hx).1
        obtain ⟨j, rfl, hj1, hj2, hj3⟩ := pickB n x hx
        have nxt : ∀ (rs : List Addr) (ls : List (Int × Int)) (H7 : Hp), LI H c D LL ns (t + 4) rs ls H7 → GI (vsL a gp i) ls (a + gp * (i : Int)) (if pr = 0 then (ix2 ((i : Int) - 2) ((i : Int) - 1)) (n + 1) else jz) → ls.length ≤ 4 * i + 2 + n + 1 → H7 q = some (.lst [V.int ((i : Int) - 2), V.int ((i : Int) - 1)]) → Lad H c D LL ns most a gp pr many t i 0 jz (ix2 ((i : Int) - 2) ((i : Int) - 1)) 2 (n + 1) [some (.ref D), some (.int most), some (.int a), some (.int gp), some (.int pr), some (.int many), some (.ref LL), some (.int (0 + (i : Int))), some (.int j)] H7 ∧ H7 q = some (.lst [V.int ((i : Int) - 2), V.int ((i : Int) - 1)]) := fun rs ls H7 s7 g7 hl7 hq7 => ⟨⟨rs, ls, _, rfl, s7, g7, by omega⟩, hq7⟩
        refine ⟨_, rfl, rfl, _, rfl, ite2 (fun e => ?_) (fun e => ?_)⟩
        · have e1 : pr = 0 := V.int.inj (of_decide_eq_true e)
          rw [if_pos e1] at g6
          refine ⟨_, rfl, _, _, rfl, rfl, _, rfl, ite2 (fun e2 => ?_) (fun e2 => ?_)⟩
          · have j0 : 0 ≤ j := of_decide_eq_true e2
            obtain ⟨J, rfl⟩ := Int.eq_ofNat_of_zero_le j0
            have gj : GI (vsL a gp i) ls (a + gp * (i : Int)) J := g6.le (by omega)
            have wj : (vsL a gp i)[J]? = some (a + gp * (J : Int)) := vsL_get (by omega)
            refine ⟨_, rfl, .inl ⟨rfl, _, sqL s6.hl⟩, _, rfl, _, rfl, _, rfl, _, _, rfl, rfl, .inl ⟨by omega, by omega⟩, _, _, rfl, rfl, _, rfl, _, rfl, _, rfl, _, _, rfl, rfl, .inl ⟨by omega, by omega⟩, _, _, rfl, rfl, (by show (2 : Nat) ≤ sizeLine; decide), fun T nT => ?_⟩
            rw [e0]
            have s8 : LI H c D LL ns (t + 4) rs ls (upd H6 T (.tup [.int (a + gp * (i : Int)), .int (a + gp * (J : Int))])) := s6.new nT
            refine ⟨LL, _, _, rfl, rfl, s8.hl, ?_, ?_⟩
            · rw [List.length_map, s6.pr.1]
              exact Nat.lt_of_le_of_lt (show ls.length ≤ 1000 by omega) (by decide)
            · have h9 := nxt (rs ++ [T]) (ls ++ [(a + gp * (i : Int), a + gp * (J : Int))]) _ (s8.addL (l := (a + gp * (i : Int), a + gp * (J : Int))) updS) (by rw [if_pos e1]; exact (gj.hit wj).le (by omega)) (by rw [List.length_append, List.length_singleton]; omega) (updN nqL (updN (ne_of_none hq6 nT) hq6))
              rw [e0] at h9
              exact h9
          · have j0 : ¬ 0 ≤ j := fun z => e2 (decide_eq_true z)
            exact nxt rs ls H6 s6 (by rw [if_pos e1]; exact g6.le (by omega)) (by omega) hq6
        · have e1 : ¬ pr = 0 := fun z => e (decide_eq_true (by rw [z]))
          rw [if_neg e1] at g6
          exact iteF (nxt rs ls H6 s6 (by rw [if_neg e1]; exact g6) (by omega) hq6)
      · rintro σ H' ⟨⟨rs, ls, z8, rfl, s6, g6, hl6⟩, _⟩
        refine kd rs ls _ _ H' s6 ?_ (by show _ ≤ _; have : [V.int ((i : Int) - 2), V.int ((i : Int) - 1)].length = 2 := rfl; omega)
        rw [vsL_snoc]
        exact g6.close
    refine ⟨_, rfl, _, _, rfl, rfl, _, rfl, _, _, rfl, rfl, _, _, rfl, rfl, (by show (0 : Int) < 2; decide), _, _, rfl, rfl, _, rfl, _, _, rfl, rfl, _, rfl, _, _, rfl, rfl, _, _, rfl, rfl, (by show (0 : Int) < 2; decide), _, _, rfl, rfl, (by show (2 : Nat) ≤ sizeLine; decide), fun q nq => ⟨q, rfl, ⟨_, sqL updS⟩, ?_⟩⟩
    have ex : [V.int (0 + (i : Int) - 3 + (0 + (i : Int) + 1) % 2), V.int (0 + (i : Int) - 2 + (0 + (i : Int) + 1) % 2)] = [V.int ((i : Int) - 3 + ((i : Int) + 1) % 2), V.int ((i : Int) - 2 + ((i : Int) + 1) % 2)] := by rw [e0]
    have sq : LI H c D LL ns (t + 4) rs ls (upd H5 q (.lst [V.int ((i : Int) - 3 + ((i : Int) + 1) % 2), V.int ((i : Int) - 2 + ((i : Int) + 1) % 2)])) := s.new nq
    have nqL : q ≠ LL := (ne_of_none s.hl nq).symm
    show ∃ W : Nat → Nat → L2.St → Hp → Prop, (∃ m, W 0 m _ (upd H5 q (.lst [V.int (0 + (i : Int) - 3 + (0 + (i : Int) + 1) % 2), V.int (0 + (i : Int) - 2 + (0 + (i : Int) + 1) % 2)]))) ∧ _
    rw [ex]
    refine for_list (K := K) (a := q) (xs := [V.int ((i : Int) - 3 + ((i : Int) + 1) % 2), V.int ((i : Int) - 2 + ((i : Int) + 1) % 2)]) (fun n σ H' => Lad H c D LL ns most a gp pr many t i 1 0 (ix2 ((i : Int) - 3 + ((i : Int) + 1) % 2) ((i : Int) - 2 + ((i : Int) + 1) % 2)) 0 n σ H' ∧ H' q = some (.lst [V.int ((i : Int) - 3 + ((i : Int) + 1) % 2), V.int ((i : Int) - 2 + ((i : Int) + 1) % 2)])) ?_ ?_ ?_ ?_
    · refine ⟨⟨rs, ls, z8, rfl, sq, ?_, hlen⟩, updS⟩
      split <;> exact g0
    · rintro n σ H' _ ⟨_, hq⟩
      exact sqL hq
    · rintro n x σ H6 hx ⟨⟨rs, ls, z8, rfl, s6, g6, hl6⟩, hq6⟩
      have hn2 : n < 2 := (List.getElem?_eq_some_iff.mp hx).1
      obtain ⟨j, rfl, hj1, hj2, hj3⟩ := pickA n x hx
      have nxt : ∀ (rs : List Addr) (ls : List (Int × Int)) (H7 : Hp), LI H c D LL ns (t + 4) rs ls H7 → GI (vsL a gp i) ls (a + gp * (i : Int)) (if pr = 1 then (ix2 ((i : Int) - 3 + ((i : Int) + 1) % 2) ((i : Int) - 2 + ((i : Int) + 1) % 2)) (n + 1) else 0) → ls.length ≤ 4 * i + 0 + n + 1 → H7 q = some (.lst [V.int ((i : Int) - 3 + ((i : Int) + 1) % 2), V.int ((i : Int) - 2 + ((i : Int) + 1) % 2)]) → Lad H c D LL ns most a gp pr many t i 1 0 (ix2 ((i : Int) - 3 + ((i : Int) + 1) % 2) ((i : Int) - 2 + ((i : Int) + 1) % 2)) 0 (n + 1) [some (.ref D), some (.int most), some (.int a), some (.int gp), some (.int pr), some (.int many), some (.ref LL), some (.int (0 + (i : Int))), some (.int j)] H7 ∧ H7 q = some (.lst [V.int ((i : Int) - 3 + ((i : Int) + 1) % 2), V.int ((i : Int) - 2 + ((i : Int) + 1) % 2)]) := fun rs ls H7 s7 g7 hl7 hq7 => ⟨⟨rs, ls, _, rfl, s7, g7, by omega⟩, hq7⟩
      refine ⟨_, rfl, rfl, _, rfl, ite2 (fun e => ?_) (fun e => ?_)⟩
      · have e1 : pr = 1 := V.int.inj (of_decide_eq_true e)
        rw [if_pos e1] at g6
        refine ⟨_, rfl, _, _, rfl, rfl, _, rfl, ite2 (fun e2 => ?_) (fun e2 => ?_)⟩
        · have j0 : 0 ≤ j := of_decide_eq_true e2
          obtain ⟨J, rfl⟩ := Int.eq_ofNat_of_zero_le j0
          have gj : GI (vsL a gp i) ls (a + gp * (i : Int)) J := g6.le (by omega)
          have wj : (vsL a gp i)[J]? = some (a + gp * (J : Int)) := vsL_get (by omega)
          refine ⟨_, rfl, .inl ⟨rfl, _, sqL s6.hl⟩, _, rfl, _, rfl, _, rfl, _, _, rfl, rfl, .inl ⟨by omega, by omega⟩, _, _, rfl, rfl, _, rfl, _, rfl, _, rfl, _, _, rfl, rfl, .inl ⟨by omega, by omega⟩, _, _, rfl, rfl, (by show (2 : Nat) ≤ sizeLine; decide), fun T nT => ?_⟩
          rw [e0]
          have s8 : LI H c D LL ns (t + 4) rs ls (upd H6 T (.tup [.int (a + gp * (i : Int)), .int (a + gp * (J : Int))])) := s6.new nT
          refine ⟨LL, _, _, rfl, rfl, s8.hl, ?_, ?_⟩
          · rw [List.length_map, s6.pr.1]
            exact Nat.lt_of_le_of_lt (show ls.length ≤ 1000 by omega) (by decide)
          · have h9 := nxt (rs ++ [T]) (ls ++ [(a + gp * (i : Int), a + gp * (J : Int))]) _ (s8.addL (l := (a + gp * (i : Int), a + gp * (J : Int))) updS) (by rw [if_pos e1]; exact (gj.hit wj).le (by omega)) (by rw [List.length_append, List.length_singleton]; omega) (updN nqL (updN (ne_of_none hq6 nT) hq6))
            rw [e0] at h9
            exact h9
        · have j0 : ¬ 0 ≤ j := fun z => e2 (decide_eq_true z)
          exact nxt rs ls H6 s6 (by rw [if_pos e1]; exact g6.le (by omega)) (by omega) hq6
      · have e1 : ¬ pr = 1 := fun z => e (decide_eq_true (by rw [z]))
        rw [if_neg e1] at g6
        exact iteF (nxt rs ls H6 s6 (by rw [if_neg e1]; exact g6) (by omega) hq6)
    · rintro σ H' ⟨⟨rs, ls, z8, rfl, s6, g6, hl6⟩, _⟩
      refine second (ix2 ((i : Int) - 3 + ((i : Int) + 1) % 2) ((i : Int) - 2 + ((i : Int) + 1) % 2) 2) rs ls z8 H' _ (fun rs ls z7 z8 H' s9 g9 h9 => ⟨rs, ls, z7, z8, rfl, s9, g9, h9⟩) s6 ?_ (by have : [V.int ((i : Int) - 3 + ((i : Int) + 1) % 2), V.int ((i : Int) - 2 + ((i : Int) + 1) % 2)].length = 2 := rfl; omega)
      by_cases hp0 : pr = 0
      · rw [if_pos hp0]
        rw [if_neg (show ¬ pr = 1 by omega)] at g6
        exact g6
      · rw [if_neg hp0]
        rw [if_pos (show pr = 1 by omega)] at g6
        exact g6
  · rintro σ H5 ⟨rs, ls, z7, z8, rfl, s, g, hlen⟩
    refine ⟨_, rfl, _, rfl, by omega, by omega, fun LV nV => ?_⟩
    have eN2 : many.toNat = N := by omega
    rw [eN2]
    refine lc_mapR (lo := 0) (n := N) (ys := (vsL a gp N).map V.int) (by rw [List.length_map, vsL_length]) (by omega) (fun i y acc R hi hy r => ?_) ?_ mono_yes mono_gName
    · rw [List.getElem?_map, vsL_get hi] at hy
      cases Option.some.inj hy
      refine ⟨rfl, ⟨_, rfl, _, rfl, _, rfl, _, _, rfl, rfl, .inl ⟨by omega, by omega⟩, _, _, rfl, rfl, ?_⟩⟩
      rw [Int.zero_add]
      exact r
    · have sV : LI H c D LL ns (t + 4) rs ls (upd H5 LV (.lst ((vsL a gp N).map V.int))) := s.new nV
      refine ⟨LV, _, rfl, .inl ⟨sqL updS, fun p np => ?_⟩⟩
      have s1 : LI H c D LL ns (t + 4) rs ls (upd (upd H5 LV (.lst ((vsL a gp N).map V.int))) p (.tup ((vsL a gp N).map V.int))) := sV.new np
      refine ⟨_, rfl, LL, _, rfl, .inl ⟨sqL s1.hl, fun r nr => ⟨by show (2 : Nat) ≤ sizeLine; decide, fun w nw => ?_⟩⟩⟩
      have s2 := s1.new (o := .tup (rs.map V.ref)) nr
      have s3 := s2.new (o := .tup [.ref p, .ref r]) nw
      have npr : p ≠ r := fun e => by rw [← e, updS] at nr; cases nr
      have npw : p ≠ w := fun e => by rw [← e, upd_ne npr, updS] at nw; cases nw
      have nrw : r ≠ w := fun e => by rw [← e, updS] at nw; cases nw
      exact k w (vsL a gp N) ls _ s3.keep (s3.dk.le (by omega)) ⟨p, r, rs, updS, updN npw (updN npr updS), updN nrw updS, s3.pr⟩ g (show (((vsL a gp N).length : Nat) : Int) ≤ most by rw [vsL_length]; omega) (show ls.length ≤ 4000 by omega)
end Fw

set_option Elab.async false
set_option linter.all false
set_option maxRecDepth 100000
set_option maxHeartbeats 4000000
namespace Fw
open PySem L2 RZ RT
/-! ### shape or ladder -/
def sp_l_shape_or_ladder (_ : PySem.W.Frag) : Sp := fun vs H Q _ => ∃ (c D : Addr) (ns : List Int) (t : Nat) (most high : Int), vs = [.ref D, .int most, .int high] ∧ Dk c D ns t H ∧ 0 ≤ most ∧ most ≤ 60 ∧ 0 ≤ high ∧ high ≤ 60 ∧ t + 4001 < 1000000000 ∧
  ∀ (p : Addr) (ws : List Int) (ls : List (Int × Int)) (H' : Hp), Kp D H H' → Dk c D ns (t + 4001) H' → ShapeAt H' p ws ls → Good ws ls → ws.length ≤ 60 → ls.length ≤ 4000 → Q (.ref p) H'
abbrev N_l_shape_or_ladder : List Str := ["_law_deck_here", "_law_most", "_law_high"]
def t_l_shape_or_ladder (K : PySem.W.Frag) : TS := (tSeq (tIfS (tTest (tOp rEq (tCall (sp_l_draw K) [] E0 (tCons (tVar 0) (tCons (tC (.int 8)) tNil))) (tC (.int 0)))) (tRet (tCall (sp_l_ladder K) [] E0 (tCons (tVar 0) (tCons (tVar 2) tNil)))) tNext)
    (tRet (tCall (sp_l_shape K) [] E0 (tCons (tVar 0) (tCons (tVar 1) tNil)))))
section
variable {K : PySem.W.Frag} {vs : List V} {H : Hp} {Q : VK} {E : XK}
theorem len_l_shape_or_ladder (h : sp_l_shape_or_ladder K vs H Q E) : vs.length = 3 := by
  obtain ⟨_, _, _, _, _, _, rfl, _⟩ := h
  rfl
theorem pure_l_shape_or_ladder (h : sp_l_shape_or_ladder K vs H Q E) : t_l_shape_or_ladder K { nx := fun _ H' => Q .non H', rt := Q } (start N_l_shape_or_ladder vs) H := by
  obtain ⟨c, D, ns, t, most, high, rfl, dk, m0, m1, h0, h1, ht, k⟩ := h
  refine ⟨_, rfl, c, D, ns, t, 8, rfl, dk, by omega, by decide, by decide, fun v H2 v0 v1 d2 fr2 => ⟨rfl, _, rfl, ite2 (fun _ => ?_) (fun _ => ?_)⟩⟩
  · refine ⟨_, rfl, _, rfl, c, D, ns, t + 1, high, rfl, d2, h0, by omega, by omega, fun p ws ls H3 k3 d3 sh g hl hk => ?_⟩
    have hl2 : ((ws.length : Nat) : Int) ≤ high := hl
    exact k p ws ls H3 ((Kp.fr fr2).trans k3) (d3.le (by omega)) sh g (by omega) hk
  · refine ⟨_, rfl, _, rfl, c, D, ns, t + 1, most, rfl, d2, m0, by omega, by omega, fun p ws ls H3 k3 d3 sh g hl hk => ?_⟩
    have hl2 : ((ws.length : Nat) : Int) ≤ most := hl
    have h60 : ws.length ≤ 60 := by omega
    exact k p ws ls H3 ((Kp.fr fr2).trans k3) (d3.le (by omega)) sh g h60 (Nat.le_trans hk (Nat.le_trans (Nat.mul_le_mul h60 h60) (by decide)))
end
/-! ### answers -/
def AnsAt (H : Hp) (q : Addr) (ans : List (Int × Bool)) : Prop := ∃ as : List Addr, H q = some (.tup (as.map V.ref)) ∧ as.length = ans.length ∧ ∀ (i : Nat) (a : Addr) (e : Int × Bool), as[i]? = some a → ans[i]? = some e → H a = some (.tup [.int e.1, .bl e.2])
theorem AnsAt.mono {H H' : Hp} {q : Addr} {ans : List (Int × Bool)} (h : AnsAt H q ans) (s : ∀ (a : Addr) (xs : List V), H a = some (.tup xs) → H' a = some (.tup xs)) : AnsAt H' q ans := by
  obtain ⟨as, h1, h2, h3⟩ := h
  exact ⟨as, s _ _ h1, h2, fun i a e x y => s _ _ (h3 i a e x y)⟩
def yesL (ans : List (Int × Bool)) : List Int := (ans.filter (·.2)).map (·.1)
theorem mem_yesL {ans : List (Int × Bool)} {v : Int} : v ∈ yesL ans ↔ (v, true) ∈ ans := by
  unfold yesL
  rw [List.mem_map]
  refine ⟨fun ⟨e, he, h⟩ => ?_, fun h => ⟨(v, true), List.mem_filter.mpr ⟨h, rfl⟩, rfl⟩⟩
  obtain ⟨h1, h2⟩ := List.mem_filter.mp he
  obtain ⟨a, b⟩ := e
  cases b
  · cases h2
  · rw [← h]
    exact h1
/-- d tells for each version the least one answered False that it is or that is below it -/
structure Low (ls : List (Int × Int)) (ans : List (Int × Bool)) (S : List (Int × Int)) (d : Int → Option Int) : Prop where
  sound : ∀ v m, d v = some m → (m, false) ∈ ans ∧ Dn ls v m
  base : ∀ u, (u, false) ∈ ans → ∃ m, d u = some m ∧ m ≤ u
  cl : ∀ l ∈ S, ∀ m', d l.2 = some m' → ∃ m, d l.1 = some m ∧ m ≤ m'
theorem Low.reach {ls : List (Int × Int)} {ans : List (Int × Bool)} {d : Int → Option Int} (h : Low ls ans ls d) {v u : Int} (r : Dn ls v u) : (u, false) ∈ ans → ∃ m, d v = some m ∧ m ≤ u := by
  induction r with
  | refl v => exact h.base v
  | step hl r ih =>
    intro hu
    obtain ⟨m', h1, h2⟩ := ih hu
    obtain ⟨m, h3, h4⟩ := h.cl _ hl m' h1
    exact ⟨m, h3, by omega⟩
theorem Low.some_iff {ls : List (Int × Int)} {ans : List (Int × Bool)} {d : Int → Option Int} (h : Low ls ans ls d) (v : Int) : (d v).isSome = true ↔ ∃ u, (u, false) ∈ ans ∧ Dn ls v u := by
  refine ⟨fun e => ?_, fun ⟨u, h1, h2⟩ => ?_⟩
  · obtain ⟨m, hm⟩ := Option.isSome_iff_exists.mp e
    exact ⟨m, h.sound v m hm⟩
  · obtain ⟨m, hm, _⟩ := h.reach h2 h1
    rw [hm]
    rfl
def DictI (kvs : List (Key × V)) (d : Int → Option Int) : Prop := ∀ v : Int, valV kvs (.inl v) = (d v).map V.int
def setF (d : Int → Option Int) (v x : Int) : Int → Option Int := fun w => if w = v then some x else d w
theorem setF_eq {d : Int → Option Int} {v x w : Int} (e : w = v) : setF d v x w = some x := if_pos e
theorem setF_ne {d : Int → Option Int} {v x w : Int} (e : ¬ w = v) : setF d v x w = d w := if_neg e
theorem DictI.put {kvs : List (Key × V)} {d : Int → Option Int} (h : DictI kvs d) (v x : Int) : DictI (putK kvs (.inl v) (.int x)) (setF d v x) := fun w => by
  rw [valV_put]
  by_cases e : w = v
  · rw [if_pos (by rw [e]), setF_eq e]
    rfl
  · rw [if_neg (fun z => e (Sum.inl.inj z)), setF_ne e]
    exact h w
def sp_lowest_lacking (_ : PySem.W.Frag) : Sp := fun vs H Q _ => ∃ (p q : Addr) (ws : List Int) (ls : List (Int × Int)) (ans : List (Int × Bool)), vs = [.ref p, .ref q] ∧ ShapeAt H p ws ls ∧ Good ws ls ∧ ls.length ≤ 10000 ∧ AnsAt H q ans ∧ ans.length ≤ 1000 ∧ (ans.map (·.1)).Nodup ∧
  ∀ (L : Addr) (kvs : List (Key × V)) (d : Int → Option Int) (H' : Hp), Same H H' → H L = none → H' L = some (.dK kvs) → DictI kvs d → Low ls ans ls d → Q (.ref L) H'
def sp_refuse_contrary (_ : PySem.W.Frag) : Sp := fun vs H Q _ => ∃ (p L : Addr) (ns : List Int) (kvs : List (Key × V)), vs = [.ref p, .ref L] ∧ H p = some (.lst (ns.map V.int)) ∧ H L = some (.dK kvs) ∧ (∀ v ∈ ns, valV kvs (.inl v) = none) ∧ ∀ H', Same H H' → Q .non H'
abbrev N_lowest_lacking : List Str := ["shape", "answers", "lowest", "version", "truth", "upper", "lower"]
def t_lowest_lacking (K : PySem.W.Frag) : TS := (tSeq (tAsg (tDc (iTup K (tVar 1)) (gTup K 2 (gCons (gName 3) (gCons (gName 4) gNil))) (tNot (tB (tVar 4))) (tVar 3) (tVar 3) [3, 4]) (gName 2))
    (tSeq (tFor (iTup K (tOp (rIx K) (tVar 0) (tC (.int 1)))) (gTup K 2 (gCons (gName 5) (gCons (gName 6) gNil))) (tIfS (tB (tDIn (tVar 6) (tVar 2))) (sDPut (tVar 2) (tVar 5) (tCB fMin2 (tCons (tDGet (tVar 2) (tVar 6)) (tCons (tDGet2 (tVar 2) (tVar 5) (tVar 5)) tNil)))) tNext))
    (tRet (tVar 2))))
abbrev N_refuse_contrary : List Str := ["yes", "lacking", "upper"]
def t_refuse_contrary (K : PySem.W.Frag) : TS := (tFor (iList K (tCB (rSortedI K) (tCons (tVar 0) tNil))) (gName 2) (tIfS (tB (tDIn (tVar 2) (tVar 1))) tNever tNext))
section
variable {K : PySem.W.Frag} {vs : List V} {H : Hp} {Q : VK} {E : XK}
theorem len_lowest_lacking (h : sp_lowest_lacking K vs H Q E) : vs.length = 2 := by
  obtain ⟨_, _, _, _, _, rfl, _⟩ := h
  rfl
theorem len_refuse_contrary (h : sp_refuse_contrary K vs H Q E) : vs.length = 2 := by
  obtain ⟨_, _, _, _, rfl, _⟩ := h
  rfl
theorem pure_refuse_contrary (h : sp_refuse_contrary K vs H Q E) : t_refuse_contrary K { nx := fun _ H' => Q .non H', rt := Q } (start N_refuse_contrary vs) H := by
  obtain ⟨p, L, ns, kvs, rfl, hp, hL, hn, k⟩ := h
  refine ⟨_, rfl, p, ns, rfl, sqL hp, fun ys S py sy nS => ⟨S, rfl, ⟨_, sqL updS⟩, ?_⟩⟩
  have up : ∀ o, Same H (upd H S o) := fun o b u e => updN (ne_of_none e nS) e
  refine for_list (K := K) (a := S) (xs := ys.map V.int) (fun i σ H' => H' = upd H S (.lst (ys.map V.int)) ∧ ∃ z, σ = [some (.ref p), some (.ref L), z]) ⟨rfl, none, rfl⟩ (fun i σ H' _ ⟨e, _⟩ => by rw [e]; exact sqL updS) ?_ ?_
  · rintro i x σ H' hx ⟨rfl, z, rfl⟩
    rw [List.getElem?_map] at hx
    cases ey : ys[i]? with
    | none => rw [ey] at hx; cases hx
    | some v =>
      rw [ey] at hx
      cases Option.some.inj hx
      have hv := hn v (py.mem_iff.mp (List.mem_of_getElem? ey))
      refine ⟨_, rfl, _, rfl, L, _, rfl, DGet.k (k := Sum.inl v) (up _ _ _ hL), _, rfl, ?_⟩
      rw [hv]
      exact iteF ⟨rfl, _, rfl⟩
  · rintro σ H' ⟨rfl, z, rfl⟩
    exact k _ (up _)
theorem pure_lowest_lacking (h : sp_lowest_lacking K vs H Q E) : t_lowest_lacking K { nx := fun _ H' => Q .non H', rt := Q } (start N_lowest_lacking vs) H := by
  obtain ⟨p, q, ws, ls, ans, rfl, ⟨a0, r, rs, hp, ha0, hr, lk⟩, g, hlz, ⟨as, hq, hal, has⟩, hasz, nd, k⟩ := h
  refine ⟨_, rfl, q, rfl, ⟨_, sqT hq⟩, fun L nL => ?_⟩
  have up : ∀ kvs, Same H (upd H L (.dK kvs)) := fun kvs b o e => updN (ne_of_none e nL) e
  -- {version: version for version, truth in answers if not truth}
  refine dc_tup (K := K) (a := q) (xs := as.map V.ref) (fun i H2 => ∃ (kvs : List (Key × V)) (d : Int → Option Int), H2 = upd H L (.dK kvs) ∧ DictI kvs d ∧ kvs.length ≤ i ∧ ∀ v, d v = if (v, false) ∈ ans.take i then some v else none) ?_ (fun i H2 _ ⟨kvs, d, e, _⟩ => by rw [e]; exact sqT (up _ _ _ hq)) (fun i x H2 hx ⟨kvs, d, e, hd, hkl, hdv⟩ => ?_) (fun H2 ⟨kvs, d, e, hd, hkl, hdv⟩ => ?_)
  · exact ⟨[], fun _ => none, rfl, fun _ => rfl, Nat.le_refl _, fun v => by rw [List.take_zero, if_neg (fun z => nomatch z)]⟩
  · subst e
    rw [List.getElem?_map] at hx
    cases ea : as[i]? with
    | none => rw [ea] at hx; cases hx
    | some a =>
      rw [ea] at hx
      cases Option.some.inj hx
      have hi : i < ans.length := by rw [← hal]; exact (List.getElem?_eq_some_iff.mp ea).1
      have ee : ans[i]? = some ans[i] := List.getElem?_eq_getElem hi
      generalize ans[i] = e at ee
      obtain ⟨v, b⟩ := e
      have hb := up (kvs) _ _ (has i a _ ea ee)
      have tk : ans.take (i + 1) = ans.take i ++ [(v, b)] := take_snoc ee
      refine ⟨a, [.int v, .bl b], rfl, sqT hb, rfl, _, [.bl b], rfl, _, [], rfl, rfl, rfl, _, rfl, _, rfl, ?_⟩
      cases b with
      | true =>
        refine iteF ⟨kvs, d, rfl, hd, by omega, fun w => ?_⟩
        rw [hdv w, tk]
        have : (w, false) ∈ ans.take i ++ [(v, true)] ↔ (w, false) ∈ ans.take i := by
          rw [List.mem_append, List.mem_singleton]
          exact ⟨fun h => h.elim id (fun z => by cases z), Or.inl⟩
        simp only [this]
      | false =>
        refine iteT ⟨_, rfl, _, rfl, kvs, Sum.inl v, rfl, updS, Nat.lt_of_le_of_lt (show kvs.length ≤ 1000 by omega) (by decide), putK kvs (.inl v) (.int v), setF d v v, by rw [upd_upd], hd.put v v, ?_, fun w => ?_⟩
        · exact Nat.le_trans (length_putK _ _ _) (by omega)
        · rw [tk]
          by_cases e : w = v
          · subst e
            rw [setF_eq rfl, if_pos (List.mem_append_right _ (List.mem_singleton.mpr rfl))]
          · rw [setF_ne e, hdv w]
            have : (w, false) ∈ ans.take i ++ [(v, false)] ↔ (w, false) ∈ ans.take i := by
              rw [List.mem_append, List.mem_singleton]
              exact ⟨fun h => h.elim id fun z => absurd (Prod.mk.inj z).1 e, Or.inl⟩
            simp only [this]
  · subst e
    rw [List.length_map, hal, List.take_length] at hdv
    rw [List.length_map, hal] at hkl
    have low0 : Low ls ans [] d := by
      refine ⟨fun v m hm => ?_, fun u hu => ⟨u, by rw [hdv, if_pos hu], Int.le_refl _⟩, fun l hl => nomatch hl⟩
      rw [hdv] at hm
      by_cases hv : (v, false) ∈ ans
      · rw [if_pos hv] at hm
        cases Option.some.inj hm
        exact ⟨hv, .refl v⟩
      · rw [if_neg hv] at hm
        cases hm
    -- for upper, lower in shape[1]
    refine ⟨_, rfl, ixT (up _ _ _ hp) rfl ⟨r, rfl, ⟨_, sqT (up _ _ _ hr)⟩, ?_⟩⟩
    refine for_tup (K := K) (a := r) (xs := rs.map V.ref) (fun i σ H2 => ∃ (kvs : List (Key × V)) (d : Int → Option Int) (z3 z4 z5 z6 : Option V), σ = [some (.ref p), some (.ref q), some (.ref L), z3, z4, z5, z6] ∧ H2 = upd H L (.dK kvs) ∧ DictI kvs d ∧ kvs.length ≤ ans.length + i ∧ Low ls ans (ls.take i) d) ?_ ?_ ?_ ?_
    · exact ⟨kvs, d, none, none, none, none, rfl, rfl, hd, hkl, by rw [List.take_zero]; exact low0⟩
    · rintro i σ H2 _ ⟨kvs, d, _, _, _, _, _, rfl, _⟩
      exact sqT (up _ _ _ hr)
    · rintro i x σ H2 hx ⟨kvs, d, z3, z4, z5, z6, rfl, rfl, hd, hkl, low⟩
      rw [List.getElem?_map] at hx
      cases er : rs[i]? with
      | none => rw [er] at hx; cases hx
      | some b =>
        rw [er] at hx
        cases Option.some.inj hx
        have hi : i < ls.length := by rw [← lk.1]; exact (List.getElem?_eq_some_iff.mp er).1
        have el : ls[i]? = some ls[i] := List.getElem?_eq_getElem hi
        have hlt : ∀ l' ∈ ls.take i, lkLt l' ls[i] := fun l' hl' => by
          obtain ⟨j, hj, e⟩ := List.getElem_of_mem hl'
          rw [List.length_take] at hj
          rw [List.getElem_take] at e
          rw [← e]
          exact List.pairwise_iff_getElem.mp g.lex j i (by omega) hi (by omega)
        generalize ls[i] = l at el hlt
        have hb := up kvs _ _ (lk.2 i b l er el)
        have tk : ls.take (i + 1) = ls.take i ++ [l] := take_snoc el
        have hlm : l ∈ ls := List.mem_of_getElem? el
        obtain ⟨m1, m2, m3⟩ := g.mem l hlm
        refine ⟨b, [.int l.1, .int l.2], rfl, sqT hb, rfl, _, [.int l.2], rfl, _, [], rfl, rfl, ?_⟩
        refine ⟨_, rfl, _, rfl, L, _, rfl, DGet.k (k := Sum.inl l.2) updS, _, rfl, ?_⟩
        rw [hd]
        cases e2 : d l.2 with
        | none =>
          refine iteF ⟨kvs, d, _, _, _, _, rfl, rfl, hd, by omega, low.sound, low.base, fun l' hl' m' hm' => ?_⟩
          rw [tk] at hl'
          rcases List.mem_append.mp hl' with hl' | hl'
          · exact low.cl l' hl' m' hm'
          · cases List.mem_singleton.mp hl'
            rw [e2] at hm'
            cases hm'
        | some m =>
          have g2 : DGet (upd H L (.dK kvs)) L (.int l.2) (some (.int m)) := by
            have := DGet.k (k := Sum.inl l.2) (updS : upd H L (.dK kvs) L = some (.dK kvs))
            rw [hd, e2] at this
            exact this
          refine iteT ⟨_, rfl, _, rfl, L, _, rfl, g2, _, rfl, L, rfl, .inl ⟨kvs, .inl updS⟩, _, rfl, _, rfl, _, DGet.k (k := Sum.inl l.1) updS, ?_⟩
          rw [hd]
          -- the value that is written
          have fin : ∀ o : Int, (∀ m0, d l.1 = some m0 → o = m0) → (d l.1 = none → o = l.1) → ∀ (σ : L2.St) (Dd : Ends),
              (∀ (kvs' : List (Key × V)) (d' : Int → Option Int), DictI kvs' d' → kvs'.length ≤ ans.length + (i + 1) → Low ls ans (ls.take (i + 1)) d' → Dd.nx σ (upd H L (.dK kvs'))) →
              Dd.nx σ (upd (upd H L (.dK kvs)) L (.dK (putK kvs (Sum.inl l.1) (.int (if o < m then o else m))))) := by
            intro o ho1 ho2 σ Dd kd
            rw [upd_upd]
            have le : (if o < m then o else m) ≤ m := by split <;> omega
            refine kd _ (setF d l.1 (if o < m then o else m)) (hd.put _ _) (Nat.le_trans (length_putK _ _ _) (by omega)) ⟨fun v m0 hv => ?_, fun u hu => ?_, fun l' hl' m' hm' => ?_⟩
            · by_cases e : v = l.1
              · rw [setF_eq e] at hv
                cases Option.some.inj hv
                rw [e]
                have s2 := low.sound l.2 m e2
                by_cases hom : o < m
                · rw [if_pos hom]
                  cases e1 : d l.1 with
                  | some m0 =>
                    rw [ho1 m0 e1]
                    exact low.sound _ _ e1
                  | none =>
                    have := ho2 e1
                    have := s2.2.le g
                    omega
                · rw [if_neg hom]
                  exact ⟨s2.1, .step hlm s2.2⟩
              · rw [setF_ne e] at hv
                exact low.sound v m0 hv
            · by_cases e : u = l.1
              · refine ⟨_, setF_eq e, ?_⟩
                have := (low.sound l.2 m e2).2.le g
                omega
              · obtain ⟨m0, h1, h2⟩ := low.base u hu
                exact ⟨m0, by rw [setF_ne e]; exact h1, h2⟩
            · rw [tk] at hl'
              rcases List.mem_append.mp hl' with hl' | hl'
              · have ne2 : ¬ l'.2 = l.1 := fun z => by
                  have h3 := (g.mem l' (List.mem_of_mem_take hl')).2.2
                  have h4 := hlt l' hl'
                  unfold lkLt at h4
                  omega
                rw [setF_ne ne2] at hm'
                obtain ⟨m0, h1, h2⟩ := low.cl l' hl' m' hm'
                by_cases e : l'.1 = l.1
                · refine ⟨_, setF_eq e, ?_⟩
                  have : o = m0 := ho1 m0 (by rw [← e]; exact h1)
                  split <;> omega
                · exact ⟨m0, by rw [setF_ne e]; exact h1, h2⟩
              · cases List.mem_singleton.mp hl'
                have ne2 : ¬ l.2 = l.1 := by omega
                rw [setF_ne ne2] at hm'
                rw [e2] at hm'
                cases Option.some.inj hm'
                exact ⟨_, setF_eq rfl, le⟩
          have hkl2 : kvs.length < sizeLine := Nat.lt_of_le_of_lt (show _ ≤ 20000 by omega) (by decide)
          cases e1 : d l.1 with
          | none =>
            refine ⟨m, l.1, rfl, _, rfl, _, rfl, L, _, rfl, DPut.k (k := Sum.inl l.1) updS hkl2, ?_⟩
            exact fin l.1 (fun m0 h => by rw [e1] at h; cases h) (fun _ => rfl) _ _ fun kvs' d' h1 h2 h3 => ⟨kvs', d', _, _, _, _, rfl, rfl, h1, h2, h3⟩
          | some m0 =>
            refine ⟨m, m0, rfl, _, rfl, _, rfl, L, _, rfl, DPut.k (k := Sum.inl l.1) updS hkl2, ?_⟩
            exact fin m0 (fun m1 h => by rw [e1] at h; exact Option.some.inj h) (fun h => by rw [e1] at h; cases h) _ _ fun kvs' d' h1 h2 h3 => ⟨kvs', d', _, _, _, _, rfl, rfl, h1, h2, h3⟩
    · rintro σ H2 ⟨kvs, d, z3, z4, z5, z6, rfl, rfl, hd, hkl, low⟩
      rw [List.length_map, lk.1, List.take_length] at low
      exact ⟨_, rfl, k L kvs d _ (up _) nL updS hd low⟩
end
end Fw

set_option Elab.async false
set_option linter.all false
set_option maxRecDepth 100000
set_option maxHeartbeats 4000000
namespace Fw
open PySem L2 RZ RT
/-! ### comprehensions that choose -/
def sel (ks : List Bool) (ys : List V) : List V := ((ks.zip ys).filter (·.1)).map (·.2)
theorem sel_map {α : Type} (f : α → Bool) (g : α → V) : ∀ l : List α, sel (l.map f) (l.map g) = (l.filter f).map g
  | [] => rfl
  | x :: r => by
    have ih := sel_map f g r
    unfold sel at ih ⊢
    rw [List.map_cons, List.map_cons, List.zip_cons_cons, List.filter_cons, List.filter_cons]
    cases f x with
    | true =>
      show (g x) :: _ = (g x) :: _
      rw [ih]
    | false => exact ih
theorem sel_snoc {ks : List Bool} {ys : List V} {i : Nat} {b : Bool} {y : V} (hk : ks[i]? = some b) (hy : ys[i]? = some y) : sel (ks.take (i + 1)) (ys.take (i + 1)) = sel (ks.take i) (ys.take i) ++ (if b = true then [y] else []) := by
  have h1 := (List.getElem?_eq_some_iff.mp hk).1
  have h2 := (List.getElem?_eq_some_iff.mp hy).1
  unfold sel
  rw [take_snoc hk, take_snoc hy, List.zip_append (by rw [List.length_take, List.length_take]; omega), List.filter_append, List.map_append]
  cases b <;> rfl
theorem sel_length (ks : List Bool) (ys : List V) : (sel ks ys).length ≤ ys.length := by
  unfold sel
  rw [List.length_map]
  refine Nat.le_trans (List.length_filter_le _ _) ?_
  rw [List.length_zip]
  omega
section
variable {K : PySem.W.Frag} {a : Addr} {xs ys : List V} {ks : List Bool} {g : TG} {tt : TT} {te : TE} {vs : List Nat} {σ : L2.St} {H1 : Hp} {D : Addr} {Qd : Hp → Prop}
/-- [e for x in xs if t], xs a tuple, ys the values, ks whether they are taken -/
theorem lc_filtT (hq : ∀ acc, SqT K (upd H1 D (.lst acc)) a xs) (hl : ys.length = xs.length) (hk : ks.length = xs.length) (hz : xs.length ≤ 100000)
    (hs : ∀ (i : Nat) (x y : V) (b : Bool) (acc : List V) (R : VK) (N : Hp → Prop), xs[i]? = some x → ys[i]? = some y → ks[i]? = some b → (b = true → R y (upd H1 D (.lst acc))) → (b = false → N (upd H1 D (.lst acc))) →
      g x (wipe σ vs) (upd H1 D (.lst acc)) fun σ2 H2 => wipe σ2 vs = wipe σ vs ∧ tt σ2 H2 fun b' H3 => if b' = true then te σ2 H3 R else N H3)
    (hd : Qd (upd H1 D (.lst (sel ks ys)))) :
    ∃ W : Nat → Nat → Hp → Prop, (∃ m, W 0 m (upd H1 D (.lst []))) ∧ ∀ i m H, W i m H →
      ((Itt K a).stop i H ∧ Qd H) ∨ ((Itt K a).go i H ∧ ∃ Nx : Hp → Prop, (∀ H', Nx H' → ∃ m', m' < m ∧ W (i + 1) m' H') ∧ ∀ x H', (Itt K a).yld i H x H' → g x (wipe σ vs) H' fun σ2 H2 => wipe σ2 vs = wipe σ vs ∧ tt σ2 H2 fun b H3 =>
        if b = true then te σ2 H3 fun y H4 => ∃ acc, H4 D = some (.lst acc) ∧ acc.length < sizeLine ∧ Nx (upd H4 D (.lst (acc ++ [y]))) else Nx H3) := by
  refine lc_tup (K := K) (a := a) (xs := xs) (fun i H => H = upd H1 D (.lst (sel (ks.take i) (ys.take i)))) (by rw [List.take_zero, List.take_zero]; rfl) (fun i H _ e => by rw [e]; exact hq _) (fun i x H hx e => ?_) (fun H e => by
    rw [e, List.take_of_length_le (by omega), List.take_of_length_le (by omega)]
    exact hd)
  subst e
  have hi := (List.getElem?_eq_some_iff.mp hx).1
  have hy : ys[i]? = some ys[i] := List.getElem?_eq_getElem (by omega)
  have hkk : ks[i]? = some ks[i] := List.getElem?_eq_getElem (by omega)
  refine hs i x ys[i] ks[i] (sel (ks.take i) (ys.take i)) _ _ hx hy hkk (fun hb => ⟨_, upd_same, Nat.lt_of_le_of_lt (Nat.le_trans (sel_length _ _) (by rw [List.length_take]; omega) : _ ≤ 100000) (by decide), ?_⟩) (fun hb => ?_)
  · rw [upd_upd, sel_snoc hkk hy, if_pos hb]
  · rw [sel_snoc hkk hy, if_neg (by rw [hb]; exact Bool.false_ne_true), List.append_nil]
end
theorem inV_ints (w : Int) : ∀ ns : List Int, inV (.int w) (ns.map V.int) = ns.contains w
  | [] => rfl
  | n :: r => by
    have ih := inV_ints w r
    unfold inV at ih ⊢
    rw [List.map_cons, List.any_cons, ih, List.contains_cons]
    have : eqV (.int n) (.int w) = (w == n) := by
      show (n == w) = (w == n)
      by_cases e : n = w
      · subst e; rfl
      · rw [beq_eq_false_iff_ne.mpr e, beq_eq_false_iff_ne.mpr fun z => e z.symm]
    rw [this]
theorem flat_ints (ns : List Int) : (ns.map V.int).all flatV = true := List.all_eq_true.mpr fun x hx => by
  obtain ⟨n, _, rfl⟩ := List.mem_map.mp hx
  rfl
/-! ### settled -/
def hasB (ls : List (Int × Int)) (ans : List (Int × Bool)) (w : Int) : Bool := (lower ls (yesL ans)).contains w
def lacB (ls : List (Int × Int)) (ans : List (Int × Bool)) (w : Int) : Bool := ans.any fun e => !e.2 && (lower ls [w]).contains e.1
theorem hasB_iff {ws : List Int} {ls : List (Int × Int)} (g : Good ws ls) {ans : List (Int × Bool)} {w : Int} : hasB ls ans w = true ↔ ∃ s, (s, true) ∈ ans ∧ Dn ls s w := by
  unfold hasB
  rw [List.contains_iff_mem, mem_lower g]
  exact ⟨fun ⟨s, h1, h2⟩ => ⟨s, mem_yesL.mp h1, h2⟩, fun ⟨s, h1, h2⟩ => ⟨s, mem_yesL.mpr h1, h2⟩⟩
theorem lacB_iff {ws : List Int} {ls : List (Int × Int)} (g : Good ws ls) {ans : List (Int × Bool)} {w : Int} : lacB ls ans w = true ↔ ∃ u, (u, false) ∈ ans ∧ Dn ls w u := by
  unfold lacB
  rw [List.any_eq_true]
  refine ⟨fun ⟨e, he, h⟩ => ?_, fun ⟨u, hu, d⟩ => ⟨(u, false), hu, ?_⟩⟩
  · obtain ⟨u, b⟩ := e
    rw [Bool.and_eq_true, List.contains_iff_mem, mem_lower g] at h
    obtain ⟨h1, s, hs, d⟩ := h
    cases b
    · rw [List.mem_singleton.mp hs] at d
      exact ⟨u, he, d⟩
    · cases h1
  · rw [Bool.and_eq_true, List.contains_iff_mem, mem_lower g]
    exact ⟨rfl, w, List.mem_singleton.mpr rfl, d⟩
def NotContrary (ls : List (Int × Int)) (ans : List (Int × Bool)) : Prop := ∀ v u, (v, true) ∈ ans → (u, false) ∈ ans → ¬ Dn ls v u
def TripAt (H : Hp) (r : Addr) (x y z : List Int) : Prop := ∃ a b c, H r = some (.tup [.ref a, .ref b, .ref c]) ∧ H a = some (.tup (x.map V.int)) ∧ H b = some (.tup (y.map V.int)) ∧ H c = some (.tup (z.map V.int))
def sp_settled (_ : PySem.W.Frag) : Sp := fun vs H Q _ => ∃ (p q : Addr) (ws : List Int) (ls : List (Int × Int)) (ans : List (Int × Bool)), vs = [.ref p, .ref q] ∧ ShapeAt H p ws ls ∧ Good ws ls ∧ ws.length ≤ 1000 ∧ ls.length ≤ 10000 ∧ AnsAt H q ans ∧ ans.length ≤ 1000 ∧ (ans.map (·.1)).Nodup ∧ NotContrary ls ans ∧
  ∀ (r : Addr) (H' : Hp), Same H H' → H r = none → TripAt H' r (ws.filter (hasB ls ans)) (ws.filter (lacB ls ans)) (ws.filter fun w => !hasB ls ans w && !lacB ls ans w) → Q (.ref r) H'
abbrev N_settled : List Str := ["shape", "answers", "lacking", "yes", "version", "truth", "held", "has", "lacks", "left"]
def t_settled (K : PySem.W.Frag) : TS := (tSeq (tAsg (tCall (sp_lowest_lacking K) [] E0 (tCons (tVar 0) (tCons (tVar 1) tNil))) (gName 2))
    (tSeq (tAsg (tLc (iTup K (tVar 1)) (gTup K 2 (gCons (gName 4) (gCons (gName 5) gNil))) (tB (tVar 5)) (tVar 4) [4, 5]) (gName 3))
    (tSeq (tDrop (tCall (sp_refuse_contrary K) [] E0 (tCons (tVar 3) (tCons (tVar 2) tNil))))
    (tSeq (tAsg (tCall (sp_with_lower K) [] E0 (tCons (tVar 0) (tCons (tVar 3) tNil))) (gName 6))
    (tSeq (tAsg (tLc (iTup K (tOp (rIx K) (tVar 0) (tC (.int 0)))) (gName 4) (tB (tDIn (tVar 4) (tVar 6))) (tVar 4) [4]) (gName 7))
    (tSeq (tAsg (tLc (iTup K (tOp (rIx K) (tVar 0) (tC (.int 0)))) (gName 4) (tB (tDIn (tVar 4) (tVar 2))) (tVar 4) [4]) (gName 8))
    (tSeq (tAsg (tLc (iTup K (tOp (rIx K) (tVar 0) (tC (.int 0)))) (gName 4) (tAnd (tB (tDNotIn (tVar 4) (tVar 6))) (tB (tDNotIn (tVar 4) (tVar 2)))) (tVar 4) [4]) (gName 9))
    (tRet (tTup (tCons (tCB (fTupleOf K) (tCons (tVar 7) tNil)) (tCons (tCB (fTupleOf K) (tCons (tVar 8) tNil)) (tCons (tCB (fTupleOf K) (tCons (tVar 9) tNil)) tNil))))))))))))
section
variable {K : PySem.W.Frag} {vs : List V} {H : Hp} {Q : VK} {E : XK}
theorem len_settled (h : sp_settled K vs H Q E) : vs.length = 2 := by
  obtain ⟨_, _, _, _, _, rfl, _⟩ := h
  rfl
theorem yes_nodup {ans : List (Int × Bool)} (h : (ans.map (·.1)).Nodup) : (yesL ans).Nodup := by
  unfold yesL
  exact h.sublist ((List.filter_sublist).map _)
theorem samNew {H : Hp} {q : Addr} {o : HO} (n : H q = none) : Same H (upd H q o) := fun b u e => updN (ne_of_none e n) e
theorem pure_settled (h : sp_settled K vs H Q E) : t_settled K { nx := fun _ H' => Q .non H', rt := Q } (start N_settled vs) H := by
  obtain ⟨p, q, ws, ls, ans, rfl, sh, g, hwz, hlz, an, hasz, nd, nc, k⟩ := h
  -- lacking = lowest_lacking(shape, answers)
  refine ⟨_, rfl, _, rfl, p, q, ws, ls, ans, rfl, sh, g, hlz, an, hasz, nd, fun L kvs d H1 s1 nL hL hd low => ?_⟩
  have sh1 : ShapeAt H1 p ws ls := sh.mono fun a xs e => s1 _ _ e
  obtain ⟨as, hq1, hal, has⟩ : AnsAt H1 q ans := an.mono fun a xs e => s1 _ _ e
  have dl : ∀ w, (valV kvs (.inl w)).isSome = lacB ls ans w := fun w => by
    rw [hd w, Option.isSome_map, Bool.eq_iff_iff, low.some_iff, lacB_iff g]
  -- yes = [version for version, truth in answers if truth]
  refine ⟨_, rfl, q, rfl, ⟨_, sqT hq1⟩, fun Y nY => ?_⟩
  have sY : ∀ o, Same H1 (upd H1 Y o) := fun o => samNew nY
  have ney : ∀ {i : Nat} {x : V}, (as.map V.ref)[i]? = some x → ∃ (a : Addr) (e : Int × Bool), x = .ref a ∧ as[i]? = some a ∧ ans[i]? = some e ∧ H1 a = some (.tup [.int e.1, .bl e.2]) := fun {i x} hx => by
    rw [List.getElem?_map] at hx
    cases ea : as[i]? with
    | none => rw [ea] at hx; cases hx
    | some a =>
      rw [ea] at hx
      have hi : i < ans.length := by rw [← hal]; exact (List.getElem?_eq_some_iff.mp ea).1
      have ee : ans[i]? = some ans[i] := List.getElem?_eq_getElem hi
      exact ⟨a, _, (Option.some.inj hx).symm, rfl, ee, has i a _ ea ee⟩
  refine lc_filtT (K := K) (a := q) (xs := as.map V.ref) (ys := ans.map fun e => V.int e.1) (ks := ans.map (·.2)) (fun acc => sqT (sY _ _ _ hq1)) (by simp [hal]) (by simp [hal]) (by rw [List.length_map]; omega) (fun i x y b acc R N hx hy hb r n => ?_) ?_
  · obtain ⟨a, e, rfl, ea, ee, ha⟩ := ney hx
    rw [List.getElem?_map, ee] at hy hb
    cases Option.some.inj hy
    have hb' : e.2 = b := Option.some.inj hb
    subst hb'
    refine ⟨a, [.int e.1, .bl e.2], rfl, sqT (sY _ _ _ ha), rfl, _, [.bl e.2], rfl, _, [], rfl, rfl, rfl, _, rfl, _, rfl, ?_⟩
    exact ite2 (fun z => ⟨_, rfl, r z⟩) (fun z => n (Bool.eq_false_iff.mpr z))
  rw [sel_map, show ((ans.filter (·.2)).map fun e => V.int e.1) = (yesL ans).map V.int by unfold yesL; rw [List.map_map]; rfl]
  generalize hH2 : upd H1 Y (.lst ((yesL ans).map V.int)) = H2
  have s2 : Same H1 H2 := by rw [← hH2]; exact sY _
  have hY : H2 Y = some (.lst ((yesL ans).map V.int)) := by rw [← hH2]; exact updS
  -- refuse_contrary(yes, lacking)
  refine ⟨_, rfl, _, rfl, Y, L, yesL ans, kvs, rfl, hY, s2 _ _ hL, fun v hv => ?_, fun H3 s3 => ?_⟩
  · have : (valV kvs (.inl v)).isSome = false := by
      rw [dl, Bool.eq_false_iff]
      intro z
      obtain ⟨u, h1, h2⟩ := (lacB_iff g).mp z
      exact nc v u (mem_yesL.mp hv) h1 h2
    exact Option.isSome_eq_false_iff.mp this |> Option.isNone_iff_eq_none.mp
  have s13 : Same H1 H3 := s2.trans s3
  -- held = with_lower(shape, yes)
  have hyl : (yesL ans).length ≤ 1000 := by
    unfold yesL
    rw [List.length_map]
    exact Nat.le_trans (List.length_filter_le _ _) hasz
  refine ⟨_, rfl, _, rfl, p, Y, ws, ls, yesL ans, rfl, sh1.mono fun a xs e => s13 _ _ e, g, hlz, s3 _ _ hY, yes_nodup nd, hyl, fun F H4 s4 nF hF => ?_⟩
  have s14 : Same H1 H4 := s13.trans s4
  have hL4 : H4 L = some (.dK kvs) := s14 _ _ hL
  obtain ⟨a0, r0, rs, hp4, ha4, hr4, lk4⟩ : ShapeAt H4 p ws ls := sh1.mono fun a xs e => s14 _ _ e
  have intw : ∀ {i : Nat} {x : V}, (ws.map V.int)[i]? = some x → ∃ w, x = .int w ∧ ws[i]? = some w := fun {i x} hx => by
    rw [List.getElem?_map] at hx
    cases e : ws[i]? with
    | none => rw [e] at hx; cases hx
    | some w => rw [e] at hx; exact ⟨w, (Option.some.inj hx).symm, rfl⟩
  -- has
  refine ⟨_, rfl, ixT hp4 rfl ⟨a0, rfl, ⟨_, sqT ha4⟩, fun A nA => ?_⟩⟩
  have sA : ∀ o, Same H4 (upd H4 A o) := fun o => samNew nA
  refine lc_filtT (K := K) (a := a0) (xs := ws.map V.int) (ys := ws.map V.int) (ks := ws.map (hasB ls ans)) (fun acc => sqT (sA _ _ _ ha4)) rfl (by simp) (by rw [List.length_map]; omega) (fun i x y b acc R N hx hy hb r n => ?_) ?_
  · obtain ⟨w, rfl, ew⟩ := intw hx
    cases Option.some.inj (hx.symm.trans hy)
    rw [List.getElem?_map, ew] at hb
    have hb' : hasB ls ans w = b := Option.some.inj hb
    refine ⟨rfl, _, rfl, _, rfl, F, _, rfl, DGet.k (k := Sum.inl w) (sA _ _ _ hF), _, rfl, ?_⟩
    rw [mkS_has]
    show if hasB ls ans w = true then _ else _
    rw [hb']
    exact ite2 (fun z => ⟨_, rfl, r z⟩) (fun z => n (Bool.eq_false_iff.mpr z))
  rw [sel_map]
  generalize hH5 : upd H4 A (.lst ((ws.filter (hasB ls ans)).map V.int)) = H5
  have s5 : Same H4 H5 := by rw [← hH5]; exact sA _
  have hA5 : H5 A = some (.lst ((ws.filter (hasB ls ans)).map V.int)) := by rw [← hH5]; exact updS
  -- lacks
  refine ⟨_, rfl, ixT (s5 _ _ hp4) rfl ⟨a0, rfl, ⟨_, sqT (s5 _ _ ha4)⟩, fun B nB => ?_⟩⟩
  have sB : ∀ o, Same H5 (upd H5 B o) := fun o => samNew nB
  refine lc_filtT (K := K) (a := a0) (xs := ws.map V.int) (ys := ws.map V.int) (ks := ws.map (lacB ls ans)) (fun acc => sqT (sB _ _ _ (s5 _ _ ha4))) rfl (by simp) (by rw [List.length_map]; omega) (fun i x y b acc R N hx hy hb r n => ?_) ?_
  · obtain ⟨w, rfl, ew⟩ := intw hx
    cases Option.some.inj (hx.symm.trans hy)
    rw [List.getElem?_map, ew] at hb
    have hb' : lacB ls ans w = b := Option.some.inj hb
    refine ⟨rfl, _, rfl, _, rfl, L, _, rfl, DGet.k (k := Sum.inl w) (sB _ _ _ (s5 _ _ hL4)), _, rfl, ?_⟩
    rw [dl, hb']
    exact ite2 (fun z => ⟨_, rfl, r z⟩) (fun z => n (Bool.eq_false_iff.mpr z))
  rw [sel_map]
  generalize hH6 : upd H5 B (.lst ((ws.filter (lacB ls ans)).map V.int)) = H6
  have s6 : Same H5 H6 := by rw [← hH6]; exact sB _
  have hB6 : H6 B = some (.lst ((ws.filter (lacB ls ans)).map V.int)) := by rw [← hH6]; exact updS
  have s46 : Same H4 H6 := s5.trans s6
  -- left
  refine ⟨_, rfl, ixT (s46 _ _ hp4) rfl ⟨a0, rfl, ⟨_, sqT (s46 _ _ ha4)⟩, fun C nC => ?_⟩⟩
  have sC : ∀ o, Same H6 (upd H6 C o) := fun o => samNew nC
  refine lc_filtT (K := K) (a := a0) (xs := ws.map V.int) (ys := ws.map V.int) (ks := ws.map fun w => !hasB ls ans w && !lacB ls ans w) (fun acc => sqT (sC _ _ _ (s46 _ _ ha4))) rfl (by simp) (by rw [List.length_map]; omega) (fun i x y b acc R N hx hy hb r n => ?_) ?_
  · obtain ⟨w, rfl, ew⟩ := intw hx
    cases Option.some.inj (hx.symm.trans hy)
    rw [List.getElem?_map, ew] at hb
    have hb' : (!hasB ls ans w && !lacB ls ans w) = b := Option.some.inj hb
    refine ⟨rfl, _, rfl, _, rfl, F, _, rfl, DGet.k (k := Sum.inl w) (sC _ _ _ (s46 _ _ hF)), _, rfl, ?_⟩
    rw [mkS_has]
    show if (!hasB ls ans w) = true then _ else _
    refine ite2 (fun z => ?_) (fun z => ?_)
    · refine ⟨_, rfl, _, rfl, L, _, rfl, DGet.k (k := Sum.inl w) (sC _ _ _ (s46 _ _ hL4)), _, rfl, ?_⟩
      rw [dl]
      rw [z, Bool.true_and] at hb'
      rw [hb']
      exact ite2 (fun z => ⟨_, rfl, r z⟩) (fun z => n (Bool.eq_false_iff.mpr z))
    · rw [Bool.eq_false_iff.mpr z, Bool.false_and] at hb'
      exact iteF (n hb'.symm)
  rw [sel_map]
  generalize hH7 : upd H6 C (.lst ((ws.filter fun w => !hasB ls ans w && !lacB ls ans w).map V.int)) = H7
  have s7 : Same H6 H7 := by rw [← hH7]; exact sC _
  have hC7 : H7 C = some (.lst ((ws.filter fun w => !hasB ls ans w && !lacB ls ans w).map V.int)) := by rw [← hH7]; exact updS
  have hA7 := s7 _ _ (s6 _ _ hA5)
  have hB7 := s7 _ _ hB6
  -- the triple
  refine ⟨_, rfl, A, _, rfl, .inl ⟨sqL hA7, fun a na => ?_⟩⟩
  refine ⟨_, rfl, B, _, rfl, .inl ⟨sqL (samNew na _ _ hB7), fun b nb => ?_⟩⟩
  refine ⟨_, rfl, C, _, rfl, .inl ⟨sqL (samNew nb _ _ (samNew na _ _ hC7)), fun c nc' => ⟨by show (3 : Nat) ≤ sizeLine; decide, fun r nr => ?_⟩⟩⟩
  refine k r _ ?_ ?_ ⟨a, b, c, updS, ?_, ?_, ?_⟩
  · exact (((s1.trans s14).trans s46).trans s7).trans (((samNew na).trans (samNew nb)).trans ((samNew nc').trans (samNew nr)))
  · exact (((s1.trans s14).trans s46).trans s7).free ((samNew na).free ((samNew nb).free ((samNew nc').free nr)))
  · exact samNew nr _ _ (samNew nc' _ _ (samNew nb _ _ updS))
  · exact samNew nr _ _ (samNew nc' _ _ updS)
  · exact samNew nr _ _ updS
end
end Fw

set_option Elab.async false
set_option linter.all false
set_option maxRecDepth 100000
set_option maxHeartbeats 4000000
namespace Fw
open PySem PySem.Spec PyProof.Rows L2
/-- d.update(e), both dicts by ints and texts, e another one than d -/
def rUpdate : V → List V → Hp → VK → Prop := fun x vs H Q => ∃ (a b : Addr) (kvs more : List (Key × V)), x = .ref a ∧ vs = [.ref b] ∧ a ≠ b ∧ H a = some (.dK kvs) ∧ H b = some (.dK more) ∧ kvs.length + more.length ≤ sizeLine ∧ Q .non (upd H a (.dK (mergeK kvs more)))
theorem mt_update {X : Cx} : MtM X "dict.update" rUpdate := by
  intro pins s σ H x xs v us Q inv rx rs rd
  obtain ⟨a, b, kvs, more, rfl, rfl, ne, ha, hb, few, q⟩ := rd
  obtain rfl : v = Value.ref a := rx
  obtain ⟨u, rfl, ru⟩ := Vals.one rs
  obtain rfl : u = Value.ref b := ru
  obtain ⟨_, na, vs, r1, d1⟩ := dk_of inv.hok ha
  obtain ⟨_, nb, ws, r2, d2⟩ := dk_of inv.hok hb
  have e1 := r1.length
  have e2 := r2.length
  refine call_meetsIn F.slot_dict_update d1.typeIs F.entry_dict_update (F.args_dict_update_2 _ _) (fun A R s' h => (meets_dict_update (mixKind X.prog X.w) a b ne nb) A R s' h) ⟨vs, ws, d1, d2, by omega, fun h' g1 g2 same => ?_⟩
  refine ⟨.non, _, ?_, rfl, q⟩
  have hz : (mergeK kvs more).length ≤ sizeLine := by
    have := length_mergeK more kvs
    omega
  have he : ∃ o, h'.get? a = some o := by
    obtain ⟨o, _, _, h1, _⟩ := g1
    exact ⟨o, h1⟩
  exact d_write inv (by rw [ha]; exact True.intro) same he (dk_new hz na (r2.merge r1) g1)
end Fw

set_option Elab.async false
set_option linter.all false
set_option maxRecDepth 100000
set_option maxHeartbeats 4000000
namespace Fw
open PySem L2 RZ RT
/-! ### sets as dicts, joined -/
def insL (s t : List Int) : List Int := t.foldl ins1 s
theorem mem_insL {x : Int} : ∀ {t s : List Int}, x ∈ insL s t ↔ x ∈ s ∨ x ∈ t
  | [], s => by
    show x ∈ s ↔ _
    simp
  | y :: r, s => by
    show x ∈ insL (ins1 s y) r ↔ _
    rw [mem_insL, mem_ins1, List.mem_cons]
    constructor
    · rintro ((h | h) | h)
      · exact .inl h
      · exact .inr (.inl h)
      · exact .inr (.inr h)
    · rintro (h | h | h)
      · exact .inl (.inl h)
      · exact .inl (.inr h)
      · exact .inr h
theorem nodup_insL : ∀ {t s : List Int}, s.Nodup → (insL s t).Nodup
  | [], s, h => h
  | y :: r, s, h => nodup_insL (t := r) (nodup_ins1 h)
theorem merge_mkS : ∀ (t s : List Int), mergeK (mkS s) (mkS t) = mkS (insL s t)
  | [], s => rfl
  | y :: r, s => by
    show mergeK (putK (mkS s) (.inl y) (.bl true)) (mkS r) = _
    rw [mkS_put, merge_mkS r]
    rfl
theorem nd_inj {α : Type} {l : List α} (h : l.Nodup) {i j : Nat} (hi : i < l.length) (hj : j < l.length) (e : l[i] = l[j]) : i = j := by
  rcases Nat.lt_trichotomy i j with q | q | q
  · exact absurd e (List.pairwise_iff_getElem.mp h i j hi hj q)
  · exact q
  · exact absurd e.symm (List.pairwise_iff_getElem.mp h j i hj hi q)
/-- at U: for each of ws a dict, at as, with the keys that f tells -/
structure UAt (H : Hp) (U : Addr) (ws : List Int) (as : List Addr) (f : Int → List Int) : Prop where
  len : as.length = ws.length
  nd : as.Nodup
  out : U ∉ as
  top : H U = some (.dK (rowsKV ws as))
  row : ∀ (i : Nat) (a : Addr) (w : Int), as[i]? = some a → ws[i]? = some w → H a = some (.dK (mkS (f w)))
def sp_all_below (_ : PySem.W.Frag) : Sp := fun vs H Q _ => ∃ (p : Addr) (ws : List Int) (ls : List (Int × Int)), vs = [.ref p] ∧ ShapeAt H p ws ls ∧ Good ws ls ∧ ws.length ≤ 1000 ∧ ls.length ≤ 10000 ∧
  ∀ (U : Addr) (as : List Addr) (f : Int → List Int) (H' : Hp), Same H H' → H U = none → (∀ a ∈ as, H a = none) → UAt H' U ws as f → (∀ w u, u ∈ f w ↔ ∃ l, (w, l) ∈ ls ∧ Dn ls l u) → (∀ w, (f w).Nodup) → Q (.ref U) H'
abbrev N_all_below : List Str := ["shape", "under", "version", "upper", "lower"]
def t_all_below_upd (K : PySem.W.Frag) : TS := (tDrop (tBM K "dict" rUpdate (tDGet (tVar 1) (tVar 3)) (tCons (tDGet (tVar 1) (tVar 4)) tNil)))
def t_all_below_loop (K : PySem.W.Frag) : TS := (tSeq (tFor (iTup K (tOp (rIx K) (tVar 0) (tC (.int 1)))) (gTup K 2 (gCons (gName 3) (gCons (gName 4) gNil))) (tSeq (sDPut (tDGet (tVar 1) (tVar 3)) (tVar 4) (tC (.bl true)))
    (t_all_below_upd K)))
    (tRet (tVar 1)))
def t_all_below (K : PySem.W.Frag) : TS := (tSeq (tAsg (tDc (iTup K (tOp (rIx K) (tVar 0) (tC (.int 0)))) (gName 2) tYes (tVar 2) tDNewK [2]) (gName 1))
    (t_all_below_loop K))
section
variable {K : PySem.W.Frag} {vs : List V} {H : Hp} {Q : VK} {E : XK}
theorem len_all_below (h : sp_all_below K vs H Q E) : vs.length = 1 := by
  obtain ⟨_, _, _, rfl, _⟩ := h
  rfl
theorem UAt.val {U : Addr} {ws : List Int} {as : List Addr} {f : Int → List Int} (u : UAt H U ws as f) (nd : ws.Nodup) {w : Int} (hw : w ∈ ws) : ∃ (i : Nat) (a : Addr), ws[i]? = some w ∧ as[i]? = some a ∧ valV (rowsKV ws as) (.inl w) = some (.ref a) ∧ H a = some (.dK (mkS (f w))) := by
  obtain ⟨i, hi, e⟩ := List.getElem_of_mem hw
  have h2 : i < as.length := by rw [u.len]; exact hi
  have e1 : ws[i]? = some w := List.getElem?_eq_some_iff.mpr ⟨hi, e⟩
  have e2 : as[i]? = some as[i] := List.getElem?_eq_getElem h2
  exact ⟨i, _, e1, e2, rows_val nd e1 e2, u.row i _ w e2 e1⟩
theorem UAt.set {U : Addr} {ws : List Int} {as : List Addr} {f : Int → List Int} (u : UAt H U ws as f) (nd : ws.Nodup) {i : Nat} {a : Addr} {w : Int} (hw : ws[i]? = some w) (ha : as[i]? = some a) (s : List Int) : UAt (upd H a (.dK (mkS s))) U ws as (fun x => if x = w then s else f x) := by
  have nU : U ≠ a := fun z => u.out (by rw [z]; exact List.mem_of_getElem? ha)
  refine ⟨u.len, u.nd, u.out, updN nU u.top, fun j b x hb hx => ?_⟩
  obtain ⟨hi1, ea⟩ := List.getElem?_eq_some_iff.mp ha
  obtain ⟨hi2, ew⟩ := List.getElem?_eq_some_iff.mp hw
  obtain ⟨hj1, eb⟩ := List.getElem?_eq_some_iff.mp hb
  obtain ⟨hj2, ex⟩ := List.getElem?_eq_some_iff.mp hx
  by_cases e : j = i
  · subst e
    have e1 : b = a := by rw [← eb, ← ea]
    have e2 : x = w := by rw [← ex, ← ew]
    subst e1 e2
    rw [updS, if_pos rfl]
  · have nb : b ≠ a := fun z => e (nd_inj u.nd hj1 hi1 (by rw [ea, eb, z]))
    have nx : x ≠ w := fun z => e (nd_inj nd hj2 hi2 (by rw [ew, ex, z]))
    rw [if_neg nx]
    exact updN nb (u.row j b x hb hx)
/-- what f tells when the links of S are gone through -/
def Part (ls S : List (Int × Int)) (f : Int → List Int) : Prop := (∀ w u, u ∈ f w ↔ ∃ l, (w, l) ∈ S ∧ Dn ls l u) ∧ ∀ w, (f w).Nodup
theorem Part.step {ws : List Int} {ls : List (Int × Int)} (g : Good ws ls) {i : Nat} {l : Int × Int} (e : ls[i]? = some l) {f : Int → List Int} (p : Part ls (ls.take i) f) : Part ls (ls.take (i + 1)) (fun x => if x = l.1 then insL (ins1 (f l.1) l.2) (f l.2) else f x) := by
  have low : ∀ m, (l.2, m) ∈ ls → (l.2, m) ∈ ls.take i := fun m hm => by
    obtain ⟨j, hj, ej⟩ := List.getElem_of_mem hm
    obtain ⟨hi, ei⟩ := List.getElem?_eq_some_iff.mp e
    have hlt := (g.mem l (List.mem_of_getElem? e)).2.2
    have hji : j < i := by
      rcases Nat.lt_or_ge j i with q | q
      · exact q
      · exfalso
        rcases Nat.lt_or_ge i j with q2 | q2
        · have := List.pairwise_iff_getElem.mp g.lex i j hi hj q2
          rw [ei, ej] at this
          rcases this with z | z
          · have : l.1 < l.2 := z
            omega
          · have : l.1 = l.2 := z.1
            omega
        · have e3 : i = j := by omega
          subst e3
          rw [ei] at ej
          have : l.1 = l.2 := congrArg Prod.fst ej
          omega
    rw [← ej]
    exact List.mem_take_iff_getElem.mpr ⟨j, by omega, rfl⟩
  refine ⟨fun w u => ?_, fun w => ?_⟩
  · rw [take_snoc e]
    show u ∈ (if w = l.1 then insL (ins1 (f l.1) l.2) (f l.2) else f w) ↔ _
    by_cases hw : w = l.1
    · subst hw
      rw [if_pos rfl, mem_insL, mem_ins1, p.1, p.1]
      constructor
      · rintro ((⟨m, h1, h2⟩ | h) | ⟨m, h1, h2⟩)
        · exact ⟨m, List.mem_append_left _ h1, h2⟩
        · exact ⟨l.2, List.mem_append_right _ (List.mem_singleton.mpr rfl), by rw [h]; exact .refl _⟩
        · exact ⟨l.2, List.mem_append_right _ (List.mem_singleton.mpr rfl), .step (List.mem_of_mem_take h1) h2⟩
      · rintro ⟨m, h1, h2⟩
        rcases List.mem_append.mp h1 with h1 | h1
        · exact .inl (.inl ⟨m, h1, h2⟩)
        · have em : m = l.2 := congrArg Prod.snd (List.mem_singleton.mp h1)
          subst em
          cases h2 with
          | refl => exact .inl (.inr rfl)
          | step h r => exact .inr ⟨_, low _ h, r⟩
    · rw [if_neg hw, p.1]
      constructor
      · rintro ⟨m, h1, h2⟩
        exact ⟨m, List.mem_append_left _ h1, h2⟩
      · rintro ⟨m, h1, h2⟩
        rcases List.mem_append.mp h1 with h1 | h1
        · exact ⟨m, h1, h2⟩
        · exact absurd (congrArg Prod.fst (List.mem_singleton.mp h1)) hw
  · show (if w = l.1 then insL (ins1 (f l.1) l.2) (f l.2) else f w).Nodup
    split
    · exact nodup_insL (nodup_ins1 (p.2 _))
    · exact p.2 w
theorem dn_in {ws : List Int} {ls : List (Int × Int)} (g : Good ws ls) {v u : Int} (d : Dn ls v u) : v ∈ ws → u ∈ ws := by
  induction d with
  | refl v => exact fun h => h
  | step h r ih => exact fun _ => ih (g.mem _ h).2.1
theorem Part.len {ws : List Int} {ls S : List (Int × Int)} (g : Good ws ls) {f : Int → List Int} (p : Part ls S f) (hS : ∀ l ∈ S, l ∈ ls) (w : Int) : (f w).length ≤ ws.length := by
  refine length_sub (p.2 w) fun x hx => ?_
  obtain ⟨l, h1, h2⟩ := (p.1 w x).mp hx
  exact dn_in g h2 (g.mem _ (hS _ h1)).2.1
theorem pure_all_below (h : sp_all_below K vs H Q E) : t_all_below K { nx := fun _ H' => Q .non H', rt := Q } (start N_all_below vs) H := by
  obtain ⟨p, ws, ls, rfl, sh, g, hwz, hlz, k⟩ := h
  obtain ⟨q, r, rs, hp, hq, hr, lk⟩ := sh
  have wnd := rising_nodup g.inc
  -- under = {version: {} for version in shape[0]}
  refine ⟨_, rfl, ixT hp rfl ⟨q, rfl, ⟨_, sqT hq⟩, fun U nU => ?_⟩⟩
  refine dc_tup (K := K) (a := q) (xs := ws.map V.int) (fun i H2 => ∃ as : List Addr, Same H H2 ∧ (∀ a ∈ as, H a = none) ∧ UAt H2 U (ws.take i) as (fun _ => [])) ⟨[], fun b o e => updN (ne_of_none e nU) e, fun a ha => (by cases ha), ⟨(by rw [List.take_zero]; rfl), List.nodup_nil, fun z => (by cases z), (by rw [List.take_zero]; exact updS), fun i a w ha => (by cases ha)⟩⟩ (fun i H2 _ ⟨as, s, _⟩ => sqT (s _ _ hq)) (fun i x H2 hx ⟨as, s, nas, u⟩ => ?_) (fun H2 ⟨as, s, nas, u⟩ => ?_)
  · rw [List.getElem?_map] at hx
    cases en : ws[i]? with
    | none => rw [en] at hx; cases hx
    | some n =>
      rw [en] at hx
      cases Option.some.inj hx
      have hi : i < ws.length := (List.getElem?_eq_some_iff.mp en).1
      have hlen : (ws.take i).length = i := by rw [List.length_take]; omega
      have nin : n ∉ ws.take i := fun z => by
        obtain ⟨j, hj, ej⟩ := List.getElem_of_mem z
        have hj2 : j < i := by omega
        have : (ws.take i)[j]? = some n := List.getElem?_eq_some_iff.mpr ⟨hj, ej⟩
        rw [List.getElem?_take, if_pos hj2] at this
        obtain ⟨h1, e1⟩ := List.getElem?_eq_some_iff.mp this
        obtain ⟨h2, e2⟩ := List.getElem?_eq_some_iff.mp en
        have := nd_inj wnd h1 h2 (by rw [e1, e2])
        omega
      refine ⟨rfl, ⟨_, rfl, fun a na => ?_⟩⟩
      have nUa : U ≠ a := fun z => by rw [← z, u.top] at na; cases na
      refine ⟨rowsKV (ws.take i) as, Sum.inl n, rfl, updN nUa u.top, ?_, as ++ [a], ?_, ?_, ?_⟩
      · rw [rowsKV_length u.len, hlen]
        exact Nat.lt_of_le_of_lt (by omega : i ≤ 1000) (by decide)
      · exact fun b o e => updN (fun z => by rw [z, nU] at e; cases e) (updN (ne_of_none (s _ _ e) na) (s _ _ e))
      · intro b hb
        rcases List.mem_append.mp hb with hb | hb
        · exact nas b hb
        · rw [List.mem_singleton.mp hb]
          cases z : H a with
          | none => rfl
          | some o => rw [s _ _ z] at na; cases na
      · have nia : a ∉ as := fun z => by
          obtain ⟨j, hj, ej⟩ := List.getElem_of_mem z
          have hj2 : j < (ws.take i).length := by rw [← u.len]; exact hj
          have := u.row j a _ (List.getElem?_eq_some_iff.mpr ⟨hj, ej⟩) (List.getElem?_eq_getElem hj2)
          rw [na] at this
          cases this
        refine ⟨by rw [List.length_append, take_snoc en, List.length_append, u.len]; rfl, ?_, ?_, ?_, ?_⟩
        · rw [List.nodup_append]
          exact ⟨u.nd, List.pairwise_singleton _ _, fun x hx y hy => by
            rw [List.mem_singleton.mp hy]
            intro z
            exact nia (by rw [← z]; exact hx)⟩
        · intro z
          rcases List.mem_append.mp z with z | z
          · exact u.out z
          · exact nUa (List.mem_singleton.mp z)
        · rw [updS, putK_new _ (rows_none nin), take_snoc en, rowsKV_snoc u.len]
        · intro j b w hb hw
          have nbU : b ≠ U := fun z => by
            rcases List.mem_append.mp (List.mem_of_getElem? hb) with q2 | q2
            · exact u.out (by rw [← z]; exact q2)
            · exact nUa (by rw [← z]; exact List.mem_singleton.mp q2)
          refine updN nbU ?_
          by_cases e : j < as.length
          · rw [List.getElem?_append_left e] at hb
            have e2 : j < (ws.take i).length := by rw [← u.len]; exact e
            rw [take_snoc en, List.getElem?_append_left e2] at hw
            have := u.row j b w hb hw
            exact updN (fun z => by rw [z, na] at this; cases this) this
          · rw [List.getElem?_append_right (by omega)] at hb
            have e0 : j - as.length = 0 := by
              have := (List.getElem?_eq_some_iff.mp hb).1
              rw [List.length_singleton] at this
              omega
            rw [e0] at hb
            cases Option.some.inj hb
            exact updS
  · rw [List.length_map, List.take_length] at u
    show t_all_below_loop K { nx := fun _ H' => Q .non H', rt := Q } [some (.ref p), some (.ref U), none, none, none] H2
    refine ⟨_, rfl, ixT (s _ _ hp) rfl ⟨r, rfl, ⟨_, sqT (s _ _ hr)⟩, ?_⟩⟩
    refine for_tup (K := K) (a := r) (xs := rs.map V.ref) (fun i σ H' => ∃ (f : Int → List Int) (z2 z3 z4 : Option V), σ = [some (.ref p), some (.ref U), z2, z3, z4] ∧ Same H H' ∧ UAt H' U ws as f ∧ Part ls (ls.take i) f) ⟨_, none, none, none, rfl, s, u, ?_⟩ (fun i σ H' _ ⟨_, _, _, _, _, s', _⟩ => sqT (s' _ _ hr)) ?_ ?_
    · refine ⟨fun w x => ⟨fun h => (by cases h), fun ⟨l, h1, _⟩ => ?_⟩, fun w => List.nodup_nil⟩
      rw [List.take_zero] at h1
      cases h1
    · rintro i x σ H3 hx ⟨f, z2, z3, z4, rfl, s3, u3, pt⟩
      rw [List.getElem?_map] at hx
      cases er : rs[i]? with
      | none => rw [er] at hx; cases hx
      | some b =>
        rw [er] at hx
        cases Option.some.inj hx
        have hi : i < ls.length := by rw [← lk.1]; exact (List.getElem?_eq_some_iff.mp er).1
        have el : ls[i]? = some ls[i] := List.getElem?_eq_getElem hi
        generalize ls[i] = l at el
        have hb := s3 _ _ (lk.2 i b l er el)
        obtain ⟨m1, m2, m3⟩ := g.mem l (List.mem_of_getElem? el)
        have hS : ∀ l' ∈ ls.take i, l' ∈ ls := fun l' h => List.mem_of_mem_take h
        have lf : ∀ w, (f w).length ≤ 1000 := fun w => Nat.le_trans (pt.len g hS w) hwz
        obtain ⟨i1, a1, w1, e1, v1, h1⟩ := u3.val wnd m1
        obtain ⟨i2, a2, w2, e2, v2, h2⟩ := u3.val wnd m2
        have ne12 : a1 ≠ a2 := fun z => by
          subst z
          obtain ⟨q1, q2⟩ := List.getElem?_eq_some_iff.mp e1
          obtain ⟨q3, q4⟩ := List.getElem?_eq_some_iff.mp e2
          have := nd_inj u3.nd q1 q3 (by rw [q2, q4])
          subst this
          rw [w1] at w2
          have := Option.some.inj w2
          omega
        have na1 : H a1 = none := nas a1 (List.mem_of_getElem? e1)
        have get : ∀ {H' : Hp} {w : Int} {a : Addr}, H' U = some (.dK (rowsKV ws as)) → valV (rowsKV ws as) (.inl w) = some (.ref a) → DGet H' U (.int w) (some (.ref a)) := fun {H' w a} hU hv => by
          have := DGet.k (k := Sum.inl w) hU
          rw [hv] at this
          exact this
        refine ⟨b, [.int l.1, .int l.2], rfl, sqT hb, rfl, _, [.int l.2], rfl, _, [], rfl, rfl, ?_⟩
        refine ⟨_, rfl, _, rfl, U, .ref a1, rfl, get u3.top v1, _, rfl, a1, _, rfl, DPut.k (k := Sum.inl l.2) h1 ?_, ?_⟩
        · rw [mkS_length]
          exact Nat.lt_of_le_of_lt (lf _) (by decide)
        rw [mkS_put]
        have u4 := u3.set wnd w1 e1 (ins1 (f l.1) l.2)
        have s4 : Same H (upd H3 a1 (.dK (mkS (ins1 (f l.1) l.2)))) := fun b o e => updN (fun z => by rw [z, na1] at e; cases e) (s3 _ _ e)
        have h14 : upd H3 a1 (.dK (mkS (ins1 (f l.1) l.2))) a1 = some (.dK (mkS (ins1 (f l.1) l.2))) := updS
        have h24 : upd H3 a1 (.dK (mkS (ins1 (f l.1) l.2))) a2 = some (.dK (mkS (f l.2))) := updN ne12.symm h2
        show t_all_below_upd K _ [some (.ref p), some (.ref U), z2, some (.int l.1), some (.int l.2)] (upd H3 a1 (.dK (mkS (ins1 (f l.1) l.2))))
        refine ⟨_, rfl, _, rfl, U, .ref a1, rfl, get u4.top v1, .inr (.inr (.inl ⟨rfl, .inl ⟨_, h14⟩⟩)), ?_⟩
        refine ⟨_, rfl, _, rfl, U, .ref a2, rfl, get u4.top v2, a1, a2, _, _, rfl, rfl, ne12, h14, h24, ?_, ?_⟩
        · rw [mkS_length, mkS_length]
          have := length_ins1 (f l.1) l.2
          have := lf l.1
          have := lf l.2
          exact Nat.le_trans (by omega : _ ≤ 3000) (by decide)
        · rw [merge_mkS, upd_upd]
          refine ⟨_, _, _, _, rfl, fun b o e => updN (fun z => by rw [z, na1] at e; cases e) (s3 _ _ e), u3.set wnd w1 e1 _, pt.step g el⟩
    · rintro σ H3 ⟨f, z2, z3, z4, rfl, s3, u3, pt⟩
      rw [List.length_map, lk.1, List.take_length] at pt
      exact ⟨_, rfl, k U as f H3 s3 nU nas u3 pt.1 pt.2⟩
end
end Fw

set_option Elab.async false
set_option linter.all false
set_option maxRecDepth 100000
set_option maxHeartbeats 4000000
namespace Fw
open PySem PySem.Spec PyProof.Rows L2
/-- sorted(d, reverse=b) of a dict whose keys are all ints, however many -/
def rSortDR (b : Bool) : List V → List V → Hp → VK → Prop := fun vs zs H Q => ∃ (a : Addr) (kvs : List (Key × V)) (ks : List Int), vs = [.ref a] ∧ zs = [.bl b] ∧ Rd H a (.dK kvs) ∧ kvs.map (·.1) = ks.map Sum.inl ∧
  ∀ (ys : List Int) (p : Addr), ys.Perm ks → OrdB b ys → H p = none → Q (.ref p) (upd H p (.lst (ys.map V.int)))
theorem cr_sortedDR {X : Cx} {b : Bool} (hcalm : X.calm = true) : CallRK X (.builtin "sorted") [Str.ofString "reverse"] (rSortDR b) := by
  intro pins s σ H xs zs us ws Q I r rz q
  obtain ⟨a, kvs, ks, ex, ez, hd, hks, q⟩ := q
  subst ex ez
  obtain ⟨u, eu, rx⟩ := vals1 r
  subst eu
  cases rx
  obtain ⟨w1, rfl, e1⟩ := vals1 rz
  obtain rfl : w1 = Value.bool b := e1
  obtain ⟨z, lo, vs, rel, dd⟩ := dk_rd I.hok hd
  obtain ⟨ep, hat⟩ := dd.dictAt
  have hkeys : vs.map (·.1) = ks.map Sum.inl := rel.keys.symm.trans hks
  have hl : vs.length = ks.length := by
    have e := congrArg List.length hkeys
    rw [List.length_map, List.length_map] at e
    exact e
  have h16 : vs.length ≤ sizeLine := by
    rw [← rel.length]
    exact z
  refine call_function_entry_kw PyProof.Rows.kind_sorted PyProof.Rows.plain_sorted PyProof.Rows.entry_sorted (PyProof.Rows.args_sorted_rev _ _) ?_
  unfold Builtin.«sorted»
  refine wpAny_bind (m := checkCount "sorted" 1 1 _) (wpAny_pure ?_)
  refine wpAny_bind (PySem.W.kdu_collect (A := X.A.in1) (PySem.W.kdl_dict (knd := mixKind X.prog X.w) (kvs := vs) (ep := ep) lo) (I.ok.hd hcalm) hat h16 fun h' tk acc hk hacc => ?_)
  have hal : acc.toList.length = ks.length := by rw [Array.length_toList, hacc.1, hl]
  have hS : IntsAre acc.toList ks := ints_each hal fun j v e => by
    obtain ⟨k, x, e1, e2⟩ := hacc.2 j v (by rw [← Array.getElem?_toList]; exact e)
    have e3 : (vs.map (·.1))[j]? = some k := by rw [List.getElem?_map, e1]; rfl
    rw [hkeys, List.getElem?_map] at e3
    cases e4 : ks[j]? with
    | none => rw [e4] at e3; cases e3
    | some y =>
      rw [e4] at e3
      have e5 : Sum.inl y = k := Option.some.inj e3
      subst e5
      rcases keyIs_shape (show keyIs (Sum.inl y) v = true from e2) with ⟨i, t, ek, ev⟩ | ⟨z, t, ek, ev⟩
      · cases ek
        exact ⟨y, t, rfl, ev⟩
      · cases ek
  have hzl : acc.toList.length ≤ sizeLine := by rw [hal, ← hl]; exact h16
  have I1 : Inv X pins σ H { s with heap := h', toks := tk } := I.kept hk
  refine wpAny_bind (wpAny_newList ?_ hzl)
  have hoL : (h'.push (seqObj "list" acc.toList.toArray 0)).get? h'.objs.size = some (seqObj "list" acc.toList.toArray 0) := Heap.get?_push_size _ rfl
  show wpAny _ _ _ _ _ { s with heap := h'.push (seqObj "list" acc.toList.toArray 0), toks := tk }
  refine wpAny_bind (wpAny_holding (wpAny_call_entry_kw PyProof.Rows.slot_list_sort ⟨_, hoL, rfl⟩ PyProof.Rows.entry_list_sort ?_ (PyProof.Rows.args_list_sort_rev _ _)))
  refine SrtR.list_sort_ordR (s := { s with heap := h'.push (seqObj "list" acc.toList.toArray 0), toks := tk }) SrtO.swo_int hoL hzl (fun h2 => SrtO.ints_sortable hS h2) fun out h1 h2 => ⟨_, rfl, ?_⟩
  obtain ⟨ys, k1, k2, k3⟩ := SrtR.ints_outR hS h1 h2
  obtain ⟨e', he'⟩ := PyProof.Rows.sortedHeap_at (vs := acc.toList) (out := (if b = true then out.toArray.reverse else out.toArray)) hoL
  have hlen : (ys.map V.int).length ≤ sizeLine := by
    rw [List.length_map, k2.length_eq, ← hal]
    exact hzl
  refine wpAny_pure ⟨_, rfl, .ref h'.objs.size, upd H h'.objs.size (.lst (ys.map V.int)), I1.laid (t' := tk) (fun b u e => ?_) (Nat.le_refl _)
    (show ObjOk X.prog X.w _ _ _ (.lst (ys.map V.int)) from ⟨hlen, (if b = true then out.toArray.reverse else out.toArray).toList, e', vals_of_ints k1, by rw [Array.toArray_toList]; exact he'⟩), rfl, q ys _ k2 k3 (I1.hok.fresh (Nat.le_refl _))⟩
  have hb : b < h'.objs.size := Heap.lt_size e
  rw [PyProof.Rows.sortedHeap_old (Nat.ne_of_lt hb) (by rw [size_push']; exact Nat.lt_succ_of_lt hb)]
  exact Heap.get?_push_of_some _ e
end Fw

set_option Elab.async false
set_option linter.all false
set_option maxRecDepth 100000
set_option maxHeartbeats 4000000
namespace Fw
open PySem L2 RZ RT
/-! ### who is paired with whom -/
def setM (m : Int → Option Int) (k v : Int) : Int → Option Int := fun x => if x = k then some v else m x
theorem setM_eq {m : Int → Option Int} {k v : Int} : setM m k v k = some v := if_pos rfl
theorem setM_ne {m : Int → Option Int} {k v x : Int} (h : x ≠ k) : setM m k v x = m x := if_neg h
structure Mt (ws S : List Int) (lo up : Int → Option Int) : Prop where
  inv : ∀ u l, lo u = some l ↔ up l = some u
  dom : ∀ u l, lo u = some l → u ∈ S ∧ l ∈ ws ∧ l < u
/-- from where each lower one was come to, in turn -/
structure Cf (ws : List Int) (v : Int) (lo : Int → Option Int) (cf : List (Int × Int)) : Prop where
  nd : (cf.map (·.1)).Nodup
  ok : ∀ (i : Nat) (l u : Int), cf[i]? = some (l, u) → l ∈ ws ∧ u ∈ ws ∧ l < u ∧ (u = v ∨ ∃ (j : Nat) (l' u' : Int), j < i ∧ cf[j]? = some (l', u') ∧ lo u = some l')
theorem cf_inj {cf : List (Int × Int)} (nd : (cf.map (·.1)).Nodup) {i j : Nat} {l u u' : Int} (h1 : cf[i]? = some (l, u)) (h2 : cf[j]? = some (l, u')) : i = j := by
  obtain ⟨i1, e1⟩ := List.getElem?_eq_some_iff.mp h1
  obtain ⟨j1, e2⟩ := List.getElem?_eq_some_iff.mp h2
  have a : (cf.map (·.1))[i]'(by rw [List.length_map]; exact i1) = (cf.map (·.1))[j]'(by rw [List.length_map]; exact j1) := by
    rw [List.getElem_map, List.getElem_map, e1, e2]
  rcases Nat.lt_trichotomy i j with q | q | q
  · exact absurd a (List.pairwise_iff_getElem.mp nd i j _ _ q)
  · exact q
  · exact absurd a.symm (List.pairwise_iff_getElem.mp nd j i _ _ q)
/-- on the way of giving way: l, at i of cf, has to be given a new one -/
structure Gw (ws S : List Int) (v : Int) (cf : List (Int × Int)) (lo0 lo up : Int → Option Int) (i : Nat) (l : Int) : Prop where
  at_ : ∃ u, cf[i]? = some (l, u)
  inv : ∀ x y, y ≠ l → (lo x = some y ↔ up y = some x)
  no : ∀ x, lo x ≠ some l
  dom : ∀ x y, lo x = some y → x ∈ S ++ [v] ∧ y ∈ ws ∧ y < x
  old : ∀ x, lo x = lo0 x ∨ ∃ (j : Nat) (l' u' : Int), lo0 x = some l' ∧ cf[j]? = some (l', u') ∧ i ≤ j
theorem Gw.start {ws S : List Int} {v l u : Int} {cf : List (Int × Int)} {lo up : Int → Option Int} {i : Nat} (m : Mt ws S lo up) (h : cf[i]? = some (l, u)) (free : up l = none) : Gw ws S v cf lo lo up i l :=
  ⟨⟨u, h⟩, fun x y _ => m.inv x y, (fun x e => by rw [(m.inv x l).mp e] at free; cases free), fun x y e => by
    obtain ⟨a, b, c⟩ := m.dom x y e
    exact ⟨List.mem_append_left _ a, b, c⟩, fun x => .inl rfl⟩
theorem Gw.step {ws S : List Int} {v l u : Int} {cf : List (Int × Int)} {lo0 up0 lo up : Int → Option Int} {i : Nat} (m0 : Mt ws S lo0 up0) (c : Cf ws v lo0 cf) (hv : lo0 v = none) (g : Gw ws S v cf lo0 lo up i l) (hu : cf[i]? = some (l, u)) :
    (lo u = none ∧ Mt ws (S ++ [v]) (setM lo u l) (setM up l u)) ∨ ∃ j l', j < i ∧ lo u = some l' ∧ Gw ws S v cf lo0 (setM lo u l) (setM up l u) j l' := by
  obtain ⟨lw, uw, lu, h⟩ := c.ok i l u hu
  have same : lo u = lo0 u := by
    rcases g.old u with e | ⟨j, l', u', e1, e2, e3⟩
    · exact e
    · exfalso
      rcases h with h | ⟨j2, l2, u2, h1, h2, h3⟩
      · rw [h, hv] at e1
        cases e1
      · rw [h3] at e1
        cases Option.some.inj e1
        have := cf_inj c.nd h2 e2
        omega
  have us : u ∈ S ++ [v] := by
    rcases h with h | ⟨j2, l2, u2, h1, h2, h3⟩
    · rw [h]
      exact List.mem_append_right _ (List.mem_singleton.mpr rfl)
    · exact List.mem_append_left _ (m0.dom u l2 h3).1
  have dom : ∀ x y, setM lo u l x = some y → x ∈ S ++ [v] ∧ y ∈ ws ∧ y < x := fun x y e => by
    by_cases q : x = u
    · subst q
      rw [setM_eq] at e
      cases Option.some.inj e
      exact ⟨us, lw, lu⟩
    · rw [setM_ne q] at e
      exact g.dom x y e
  have pair : ∀ x y, lo u ≠ some y → (setM lo u l x = some y ↔ setM up l u y = some x) := fun x y hy => by
    by_cases q : y = l
    · subst q
      rw [setM_eq]
      by_cases q2 : x = u
      · subst q2
        rw [setM_eq]
        exact ⟨fun _ => rfl, fun _ => rfl⟩
      · rw [setM_ne q2]
        exact ⟨fun e => absurd e (g.no x), fun e => absurd (Option.some.inj e).symm q2⟩
    · rw [setM_ne q]
      by_cases q2 : x = u
      · subst q2
        rw [setM_eq]
        exact ⟨fun e => absurd (Option.some.inj e).symm q, fun e => absurd ((g.inv x y q).mpr e) hy⟩
      · rw [setM_ne q2]
        exact g.inv x y q
  cases e : lo u with
  | none => exact .inl ⟨rfl, fun x y => pair x y (by rw [e]; intro z; cases z), dom⟩
  | some l' =>
    rw [e] at same
    rcases h with h | ⟨j2, l2, u2, h1, h2, h3⟩
    · rw [h, hv] at same
      cases same
    · rw [h3] at same
      cases Option.some.inj same
      have nl : l' ≠ l := fun q => g.no u (by rw [e, q])
      refine .inr ⟨j2, l', h1, rfl, ⟨u2, h2⟩, fun x y hy => pair x y (by rw [e]; intro z; exact hy (Option.some.inj z).symm), fun x hx => ?_, dom, fun x => ?_⟩
      · by_cases q : x = u
        · subst q
          rw [setM_eq] at hx
          exact nl (Option.some.inj hx).symm
        · rw [setM_ne q] at hx
          have a := (g.inv x l' nl).mp hx
          have b := (g.inv u l' nl).mp e
          rw [a] at b
          exact q (Option.some.inj b)
      · by_cases q : x = u
        · subst q
          exact .inr ⟨j2, l', u2, h3, h2, Nat.le_refl _⟩
        · rw [setM_ne q]
          rcases g.old x with h | ⟨j, a, b, c1, c2, c3⟩
          · exact .inl h
          · exact .inr ⟨j, a, b, c1, c2, by omega⟩
/-- one more was come to -/
theorem Cf.snoc {ws : List Int} {v l u : Int} {lo : Int → Option Int} {cf : List (Int × Int)} (c : Cf ws v lo cf) (hl : l ∈ ws) (hu : u ∈ ws) (h : l < u) (new : ∀ (i : Nat) (u' : Int), cf[i]? ≠ some (l, u')) (hup : u = v ∨ ∃ (j : Nat) (l' u' : Int), cf[j]? = some (l', u') ∧ lo u = some l') : Cf ws v lo (cf ++ [(l, u)]) := by
  refine ⟨?_, fun i a b e => ?_⟩
  · rw [List.map_append, List.nodup_append]
    refine ⟨c.nd, List.pairwise_singleton _ _, fun a ha b hb => ?_⟩
    rw [List.map_singleton, List.mem_singleton] at hb
    subst hb
    obtain ⟨p, hp, rfl⟩ := List.mem_map.mp ha
    obtain ⟨i, hi, e⟩ := List.getElem_of_mem hp
    intro q
    refine new i p.2 (List.getElem?_eq_some_iff.mpr ⟨hi, ?_⟩)
    rw [e]
    exact Prod.ext q rfl
  · have lift : ∀ {j : Nat} {x : Int × Int}, cf[j]? = some x → (cf ++ [(l, u)])[j]? = some x := fun {j x} q => by
      rw [List.getElem?_append_left (List.getElem?_eq_some_iff.mp q).1]
      exact q
    by_cases hi : i < cf.length
    · rw [List.getElem?_append_left hi] at e
      obtain ⟨h1, h2, h3, h4⟩ := c.ok i a b e
      refine ⟨h1, h2, h3, ?_⟩
      rcases h4 with h4 | ⟨j, l', u', q1, q2, q3⟩
      · exact .inl h4
      · exact .inr ⟨j, l', u', q1, lift q2, q3⟩
    · have hi2 : i < (cf ++ [(l, u)]).length := (List.getElem?_eq_some_iff.mp e).1
      rw [List.length_append, List.length_singleton] at hi2
      rw [List.getElem?_append_right (by omega), show i - cf.length = 0 by omega] at e
      cases Option.some.inj e
      refine ⟨hl, hu, h, ?_⟩
      rcases hup with q | ⟨j, l', u', q2, q3⟩
      · exact .inl q
      · exact .inr ⟨j, l', u', by have := (List.getElem?_eq_some_iff.mp q2).1; omega, lift q2, q3⟩
def kvOf (cf : List (Int × Int)) : List (Key × V) := cf.map fun e => ((Sum.inl e.1 : Key), V.int e.2)
theorem kv_val {l u : Int} : ∀ {cf : List (Int × Int)} {i : Nat}, (cf.map (·.1)).Nodup → cf[i]? = some (l, u) → valV (kvOf cf) (.inl l) = some (.int u)
  | [], i, _, h => by cases h
  | e :: cf, 0, _, h => by
    cases Option.some.inj h
    show valV ((Sum.inl l, V.int u) :: kvOf cf) (.inl l) = _
    unfold valV
    simp
  | e :: cf, i + 1, nd, h => by
    rw [List.map_cons, List.nodup_cons] at nd
    have ne : e.1 ≠ l := fun q => nd.1 (by rw [q]; exact List.mem_map.mpr ⟨(l, u), List.mem_of_getElem? h, rfl⟩)
    have := kv_val (cf := cf) (i := i) nd.2 h
    show valV ((Sum.inl e.1, V.int e.2) :: kvOf cf) (.inl l) = _
    unfold valV at this ⊢
    rw [List.find?_cons_of_neg (by simp [ne])]
    exact this
theorem kv_none {l : Int} : ∀ {cf : List (Int × Int)}, valV (kvOf cf) (.inl l) = none → ∀ (i : Nat) (u : Int), cf[i]? ≠ some (l, u)
  | [], _, i, u, h => by cases h
  | e :: cf, hn, i, u, h => by
    have hn : valV ((Sum.inl e.1, V.int e.2) :: kvOf cf) (.inl l) = none := hn
    unfold valV at hn
    by_cases q : e.1 = l
    · rw [List.find?_cons_of_pos (by simp [q])] at hn
      cases hn
    · rw [List.find?_cons_of_neg (by simp [q])] at hn
      cases i with
      | zero =>
        cases Option.some.inj h
        exact q rfl
      | succ i => exact kv_none (cf := cf) (by unfold valV; exact hn) i u h
theorem kv_put {l u : Int} {cf : List (Int × Int)} (h : valV (kvOf cf) (.inl l) = none) : putK (kvOf cf) (.inl l) (.int u) = kvOf (cf ++ [(l, u)]) := by
  rw [putK_new _ h]
  unfold kvOf
  rw [List.map_append]
  rfl
theorem kv_len {cf : List (Int × Int)} : (kvOf cf).length = cf.length := List.length_map ..
theorem Cf.few {ws : List Int} {v : Int} {lo : Int → Option Int} {cf : List (Int × Int)} (c : Cf ws v lo cf) : cf.length ≤ ws.length := by
  have := length_sub (vs := ws) c.nd fun x hx => by
    obtain ⟨p, hp, rfl⟩ := List.mem_map.mp hx
    obtain ⟨i, hi, e⟩ := List.getElem_of_mem hp
    exact (c.ok i p.1 p.2 (List.getElem?_eq_some_iff.mpr ⟨hi, e⟩)).1
  rw [List.length_map] at this
  exact this
end Fw

set_option Elab.async false
set_option linter.all false
set_option maxRecDepth 100000
set_option maxHeartbeats 4000000
namespace Fw
open PySem L2 RZ RT
/-! ### the search, step by step -/
abbrev SS : Type := List (Int × Int) × List Int × Option (Int × List Int)
def inK (cf : List (Int × Int)) (l : Int) : Bool := (cf.map (·.1)).contains l
theorem inK_iff {cf : List (Int × Int)} {l : Int} : inK cf l = true ↔ ∃ u, (l, u) ∈ cf := by
  unfold inK
  rw [List.contains_iff_mem, List.mem_map]
  exact ⟨fun ⟨e, he, h⟩ => ⟨e.2, by rw [← h]; exact he⟩, fun ⟨u, h⟩ => ⟨_, h, rfl⟩⟩
theorem inK_left {cf ds : List (Int × Int)} {l : Int} (h : inK cf l = true) : inK (cf ++ ds) l = true := by
  obtain ⟨u, h⟩ := inK_iff.mp h
  exact inK_iff.mpr ⟨u, List.mem_append_left _ h⟩
def stp (nf : Int → List Int) (up : Int → Option Int) (cl : Int → Bool) : SS → Option SS
  | (cf, wt, some (u, l :: r)) => if (inK cf l || cl l) = true then some (cf, wt, some (u, r)) else (match up l with
    | none => none
    | some w => some (cf ++ [(l, u)], wt ++ [w], some (u, r)))
  | (cf, wt, some (_, [])) => some (cf, wt, none)
  | (cf, wt, none) => (match wt.getLast? with
    | none => none
    | some u => some (cf, wt.dropLast, some (u, nf u)))
theorem stp_cons {nf : Int → List Int} {up : Int → Option Int} {cl : Int → Bool} {cf : List (Int × Int)} {wt r : List Int} {u l : Int} : stp nf up cl (cf, wt, some (u, l :: r)) = if (inK cf l || cl l) = true then some (cf, wt, some (u, r)) else (match up l with
    | none => none
    | some w => some (cf ++ [(l, u)], wt ++ [w], some (u, r))) := rfl
theorem stp_none {nf : Int → List Int} {up : Int → Option Int} {cl : Int → Bool} {cf : List (Int × Int)} {wt : List Int} : stp nf up cl (cf, wt, none) = (match wt.getLast? with
    | none => none
    | some u => some (cf, wt.dropLast, some (u, nf u))) := rfl
inductive Star (f : SS → Option SS) (a : SS) : SS → Prop
  | refl : Star f a a
  | snoc {b c : SS} : Star f a b → f b = some c → Star f a c
theorem Star.one {f : SS → Option SS} {a b c : SS} (h : f a = some b) (s : Star f b c) : Star f a c := by
  induction s with
  | refl => exact .snoc .refl h
  | snoc _ e ih => exact .snoc ih e
theorem Star.head {f : SS → Option SS} {a c : SS} (s : Star f a c) : a = c ∨ ∃ d, f a = some d ∧ Star f d c := by
  induction s with
  | refl => exact .inl rfl
  | @snoc b c s e ih =>
    rcases ih with rfl | ⟨d, h1, h2⟩
    · exact .inr ⟨c, e, .refl⟩
    · exact .inr ⟨d, h1, .snoc h2 e⟩
theorem Star.meet {f : SS → Option SS} {a b c : SS} (s : Star f a b) (t : Star f a c) : Star f b c ∨ Star f c b := by
  induction s with
  | refl => exact .inl t
  | @snoc b' b s e ih =>
    rcases ih with h | h
    · rcases h.head with rfl | ⟨d, h1, h2⟩
      · exact .inr (.snoc .refl e)
      · rw [e] at h1
        cases Option.some.inj h1
        exact .inl h2
    · exact .inr (.snoc h e)
theorem Star.stop {f : SS → Option SS} {a b : SS} (s : Star f a b) (h : f a = none) : a = b := by
  rcases s.head with e | ⟨d, h1, _⟩
  · exact e
  · rw [h] at h1
    cases h1
theorem Star.uniq {f : SS → Option SS} {a b c : SS} (s : Star f a b) (t : Star f a c) (hb : f b = none) (hc : f c = none) : b = c := by
  rcases s.meet t with h | h
  · exact h.stop hb
  · exact (h.stop hc).symm
structure SInv (nf : Int → List Int) (up : Int → Option Int) (cl : Int → Bool) (v : Int) (s : SS) : Prop where
  key : ∀ e ∈ s.1, up e.1 ≠ none ∧ cl e.1 = false
  sub : ∀ u r, s.2.2 = some (u, r) → ∀ z ∈ r, z ∈ nf u
  nr : ∀ e ∈ s.1, e.1 ∈ nf e.2
  fin : ∀ u, (u = v ∨ ∃ e ∈ s.1, up e.1 = some u) → u ∈ s.2.1 ∨ (∀ l ∈ nf u, inK s.1 l = true ∨ cl l = true) ∨ ∃ r, s.2.2 = some (u, r) ∧ ∀ l ∈ nf u, l ∈ r ∨ inK s.1 l = true ∨ cl l = true
theorem star_inv {nf : Int → List Int} {up : Int → Option Int} {cl : Int → Bool} {v : Int} {s : SS} (h : Star (stp nf up cl) ([], [v], none) s) : SInv nf up cl v s := by
  induction h with
  | refl => exact ⟨fun e he => (by cases he), fun u r h => (by cases h), fun e he => (by cases he), fun u h => .inl (h.elim (fun e => by rw [e]; exact List.mem_singleton.mpr rfl) fun ⟨e, he, _⟩ => by cases he)⟩
  | @snoc b c s e ih =>
    obtain ⟨cf, wt, cur⟩ := b
    match cur, e, ih with
    | some (u0, l :: r), e, ih =>
      rw [stp_cons] at e
      by_cases hk : (inK cf l || cl l) = true
      · rw [if_pos hk] at e
        cases Option.some.inj e
        refine ⟨ih.key, fun u r' h z hz => ?_, ih.nr, fun u hu => ?_⟩
        · cases Option.some.inj h
          exact ih.sub u0 _ rfl z (List.mem_cons_of_mem _ hz)
        rcases ih.fin u hu with h | h | ⟨r', h1, h2⟩
        · exact .inl h
        · exact .inr (.inl h)
        · cases Option.some.inj h1
          refine .inr (.inr ⟨r, rfl, fun z hz => ?_⟩)
          rcases h2 z hz with h | h
          · rcases List.mem_cons.mp h with rfl | h
            · exact .inr (by rw [Bool.or_eq_true] at hk; exact hk)
            · exact .inl h
          · exact .inr h
      · rw [if_neg hk] at e
        cases ew : up l with
        | none => rw [ew] at e; cases e
        | some w =>
          rw [ew] at e
          cases Option.some.inj e
          refine ⟨fun z hz => ?_, fun u r' h z hz => ?_, fun z hz => ?_, fun u hu => ?_⟩
          rotate_left
          · cases Option.some.inj h
            exact ih.sub u0 _ rfl z (List.mem_cons_of_mem _ hz)
          · rcases List.mem_append.mp hz with hz | hz
            · exact ih.nr z hz
            · rw [List.mem_singleton.mp hz]
              exact ih.sub u0 _ rfl l (List.mem_cons_self ..)
          rotate_left
          · rcases List.mem_append.mp hz with hz | hz
            · exact ih.key z hz
            · rw [List.mem_singleton.mp hz]
              refine ⟨(by show up l ≠ none; rw [ew]; exact fun z => nomatch z), ?_⟩
              show cl l = false
              cases q : cl l with
              | false => rfl
              | true => rw [q, Bool.or_true] at hk; exact absurd rfl hk
          · have lift : ∀ {z : Int}, inK cf z = true ∨ cl z = true → inK (cf ++ [(l, u0)]) z = true ∨ cl z = true := fun h => h.imp inK_left id
            have old : (u = v ∨ ∃ e ∈ cf, up e.1 = some u) → u ∈ wt ++ [w] ∨ (∀ z ∈ nf u, inK (cf ++ [(l, u0)]) z = true ∨ cl z = true) ∨ ∃ r', some (u0, r) = some (u, r') ∧ ∀ z ∈ nf u, z ∈ r' ∨ inK (cf ++ [(l, u0)]) z = true ∨ cl z = true := fun h => by
              rcases ih.fin u h with h | h | ⟨r', h1, h2⟩
              · exact .inl (List.mem_append_left _ h)
              · exact .inr (.inl fun z hz => lift (h z hz))
              · cases Option.some.inj h1
                refine .inr (.inr ⟨r, rfl, fun z hz => ?_⟩)
                rcases h2 z hz with h | h
                · rcases List.mem_cons.mp h with rfl | h
                  · exact .inr (.inl (inK_iff.mpr ⟨u0, List.mem_append_right _ (List.mem_singleton.mpr rfl)⟩))
                  · exact .inl h
                · exact .inr (lift h)
            rcases hu with h | ⟨z, hz, h⟩
            · exact old (.inl h)
            · rcases List.mem_append.mp hz with hz | hz
              · exact old (.inr ⟨z, hz, h⟩)
              · rw [List.mem_singleton.mp hz] at h
                have h : up l = some u := h
                rw [ew] at h
                cases Option.some.inj h
                exact .inl (List.mem_append_right _ (List.mem_singleton.mpr rfl))
    | some (u0, []), e, ih =>
      cases Option.some.inj e
      refine ⟨ih.key, fun u r h => (by cases h), ih.nr, fun u hu => ?_⟩
      rcases ih.fin u hu with h | h | ⟨r', h1, h2⟩
      · exact .inl h
      · exact .inr (.inl h)
      · cases Option.some.inj h1
        exact .inr (.inl fun z hz => (h2 z hz).elim (fun q => by cases q) id)
    | none, e, ih =>
      rw [stp_none] at e
      cases ew : wt.getLast? with
      | none => rw [ew] at e; cases e
      | some w =>
        rw [ew] at e
        cases Option.some.inj e
        refine ⟨ih.key, fun u r h z hz => (by cases Option.some.inj h; exact hz), ih.nr, fun u hu => ?_⟩
        rcases ih.fin u hu with h | h | ⟨r', h1, h2⟩
        · have hn : wt ≠ [] := fun q => by rw [q] at h; cases h
          have sp : wt = wt.dropLast ++ [w] := by
            rw [List.getLast?_eq_some_getLast hn] at ew
            rw [← Option.some.inj ew]
            exact (List.dropLast_concat_getLast hn).symm
          have h : u ∈ wt := h
          rw [sp] at h
          rcases List.mem_append.mp h with h | h
          · exact .inl h
          · rw [List.mem_singleton.mp h]
            exact .inr (.inr ⟨_, rfl, fun z hz => .inl hz⟩)
        · exact .inr (.inl h)
        · cases h1
/-! ### giving way, step by step -/
inductive GwR (cf : List (Int × Int)) : (Int → Option Int) → (Int → Option Int) → Int → (Int → Option Int) → (Int → Option Int) → Prop
  | done {lo up : Int → Option Int} {l u : Int} {i : Nat} : cf[i]? = some (l, u) → lo u = none → GwR cf lo up l (setM lo u l) (setM up l u)
  | next {lo up lo' up' : Int → Option Int} {l u l' : Int} {i : Nat} : cf[i]? = some (l, u) → lo u = some l' → GwR cf (setM lo u l) (setM up l u) l' lo' up' → GwR cf lo up l lo' up'
theorem cf_val {cf : List (Int × Int)} (nd : (cf.map (·.1)).Nodup) {i j : Nat} {l u u' : Int} (h1 : cf[i]? = some (l, u)) (h2 : cf[j]? = some (l, u')) : u = u' := by
  have := cf_inj nd h1 h2
  subst this
  rw [h1] at h2
  cases Option.some.inj h2
  rfl
theorem GwR.uniq {cf : List (Int × Int)} (nd : (cf.map (·.1)).Nodup) {lo up : Int → Option Int} {l : Int} {a b a' b' : Int → Option Int} (h : GwR cf lo up l a b) (h' : GwR cf lo up l a' b') : a = a' ∧ b = b' := by
  induction h with
  | done h1 h2 =>
    cases h' with
    | done g1 g2 =>
      have := cf_val nd h1 g1
      subst this
      exact ⟨rfl, rfl⟩
    | next g1 g2 _ =>
      have := cf_val nd h1 g1
      subst this
      rw [h2] at g2
      cases g2
  | next h1 h2 _ ih =>
    cases h' with
    | done g1 g2 =>
      have := cf_val nd h1 g1
      subst this
      rw [h2] at g2
      cases g2
    | next g1 g2 g3 =>
      have := cf_val nd h1 g1
      subst this
      rw [h2] at g2
      cases Option.some.inj g2
      exact ih g3
theorem GwR.facts {cf : List (Int × Int)} {lo up : Int → Option Int} {l : Int} {a b : Int → Option Int} (h : GwR cf lo up l a b) : (∀ y, b y = up y ∨ ∃ u, (y, u) ∈ cf) ∧ (∀ x, a x = none → lo x = none) ∧ ∀ x y, a x = some y → lo x = some y ∨ (y, x) ∈ cf := by
  have one : ∀ {lo up : Int → Option Int} {l u : Int} {i : Nat}, cf[i]? = some (l, u) → (∀ y, setM up l u y = up y ∨ ∃ u, (y, u) ∈ cf) ∧ (∀ x, setM lo u l x = none → lo x = none) ∧ ∀ x y, setM lo u l x = some y → lo x = some y ∨ (y, x) ∈ cf := fun {lo up l u i} h1 => by
    refine ⟨fun y => ?_, fun x hx => ?_, fun x y hx => ?_⟩
    rotate_right
    · by_cases q : x = u
      · subst q
        rw [setM_eq] at hx
        cases Option.some.inj hx
        exact .inr (List.mem_of_getElem? h1)
      · rw [setM_ne q] at hx
        exact .inl hx
    · by_cases q : y = l
      · subst q
        exact .inr ⟨u, List.mem_of_getElem? h1⟩
      · exact .inl (setM_ne q)
    · by_cases q : x = u
      · subst q
        rw [setM_eq] at hx
        cases hx
      · rw [setM_ne q] at hx
        exact hx
  induction h with
  | done h1 _ => exact one h1
  | next h1 _ _ ih =>
    obtain ⟨a1, a2, a3⟩ := one h1
    refine ⟨fun y => ?_, fun x hx => a2 x (ih.2.1 x hx), fun x y hx => (ih.2.2 x y hx).elim (a3 x y) .inr⟩
    rcases ih.1 y with e | e
    · rcases a1 y with e2 | e2
      · exact .inl (e.trans e2)
      · exact .inr e2
    · exact .inr e
/-! ### one version paired, or none to be had -/
def PairR (nf : Int → List Int) (lo up : Int → Option Int) (cl : Int → Bool) (v : Int) (lo' up' : Int → Option Int) (cl' : Int → Bool) : Prop :=
  (∃ cf wt u l r, Star (stp nf up cl) ([], [v], none) (cf, wt, some (u, l :: r)) ∧ (inK cf l || cl l) = false ∧ up l = none ∧ (cf.map (·.1)).Nodup ∧ GwR (cf ++ [(l, u)]) lo up l lo' up' ∧ cl' = cl ∧ lo' v ≠ none) ∨
  ∃ cf, Star (stp nf up cl) ([], [v], none) (cf, [], none) ∧ lo' = lo ∧ up' = up ∧ cl' = fun k => cl k || inK cf k
theorem stp_found {nf : Int → List Int} {up : Int → Option Int} {cl : Int → Bool} {cf : List (Int × Int)} {wt r : List Int} {u l : Int} (h : (inK cf l || cl l) = false) (hu : up l = none) : stp nf up cl (cf, wt, some (u, l :: r)) = none := by
  rw [stp_cons, if_neg (by rw [h]; exact Bool.false_ne_true), hu]
theorem nd_snoc {cf : List (Int × Int)} (nd : (cf.map (·.1)).Nodup) {l u : Int} (h : inK cf l = false) : ((cf ++ [(l, u)]).map (·.1)).Nodup := by
  rw [List.map_append, List.nodup_append]
  refine ⟨nd, List.pairwise_singleton _ _, fun a ha b hb => ?_⟩
  rw [List.map_singleton, List.mem_singleton] at hb
  subst hb
  intro q
  subst q
  unfold inK at h
  rw [List.contains_iff_mem.mpr ha] at h
  cases h
theorem PairR.uniq {nf : Int → List Int} {lo up : Int → Option Int} {cl : Int → Bool} {v : Int} {a b a' b' : Int → Option Int} {c c' : Int → Bool} (h : PairR nf lo up cl v a b c) (h' : PairR nf lo up cl v a' b' c') : a = a' ∧ b = b' ∧ c = c' := by
  rcases h with ⟨cf, wt, u, l, r, s, hk, hu, nd, g, rfl, _⟩ | ⟨cf, s, rfl, rfl, rfl⟩
  · rcases h' with ⟨cf', wt', u', l', r', s', hk', hu', nd', g', rfl, _⟩ | ⟨cf', s', rfl, rfl, rfl⟩
    · have e := s.uniq s' (stp_found hk hu) (stp_found hk' hu')
      injection e with e1 e2
      injection e2 with e2 e3
      injection e3 with e3
      injection e3 with e3 e4
      injection e4 with e4 e5
      subst e1 e3 e4
      obtain ⟨q1, q2⟩ := g.uniq (nd_snoc nd (by rw [Bool.or_eq_false_iff] at hk; exact hk.1)) g'
      exact ⟨q1, q2, rfl⟩
    · have e := s.uniq s' (stp_found hk hu) rfl
      injection e with e1 e2
      injection e2 with e2 e3
      cases e3
  · rcases h' with ⟨cf', wt', u', l', r', s', hk', hu', nd', g', rfl, _⟩ | ⟨cf', s', rfl, rfl, rfl⟩
    · have e := s.uniq s' rfl (stp_found hk' hu')
      injection e with e1 e2
      injection e2 with e2 e3
      cases e3
    · have e := s.uniq s' rfl rfl
      injection e with e1 e2
      subst e1
      exact ⟨rfl, rfl, rfl⟩
/-- what is closed, and who has none -/
structure Kn (nf : Int → List Int) (S : List Int) (lo up : Int → Option Int) (cl : Int → Bool) : Prop where
  c1 : ∀ l, cl l = true → ∃ u, up l = some u ∧ ∀ z ∈ nf u, cl z = true
  c2 : ∀ v ∈ S, lo v = none → ∀ z ∈ nf v, cl z = true
  c3 : ∀ u l, lo u = some l → l ∈ nf u
theorem Kn.step {nf : Int → List Int} {S : List Int} {lo up lo' up' : Int → Option Int} {cl cl' : Int → Bool} {v : Int} (k : Kn nf S lo up cl) (h : PairR nf lo up cl v lo' up' cl') : Kn nf (S ++ [v]) lo' up' cl' := by
  rcases h with ⟨cf, wt, u, l, r, s, hk, hu, nd, g, rfl, hv⟩ | ⟨cf, s, rfl, rfl, rfl⟩
  · obtain ⟨f1, f2, f3⟩ := g.facts
    have inv := star_inv s
    rw [Bool.or_eq_false_iff] at hk
    refine ⟨fun z hz => ?_, fun x hx hn => ?_, fun x y hx => ?_⟩
    rotate_right
    · rcases f3 x y hx with h | h
      · exact k.c3 x y h
      · rcases List.mem_append.mp h with h | h
        · exact inv.nr _ h
        · cases List.mem_singleton.mp h
          exact inv.sub u _ rfl l (List.mem_cons_self ..)
    · obtain ⟨w, h1, h2⟩ := k.c1 z hz
      refine ⟨w, ?_, h2⟩
      rcases f1 z with e | ⟨y, hy⟩
      · rw [e]
        exact h1
      · exfalso
        rcases List.mem_append.mp hy with hy | hy
        · have := (inv.key _ hy).2
          rw [show cl' z = false from this] at hz
          cases hz
        · cases List.mem_singleton.mp hy
          rw [hk.2] at hz
          cases hz
    · rcases List.mem_append.mp hx with hx | hx
      · exact k.c2 x hx (f2 x hn)
      · rw [List.mem_singleton.mp hx] at hn
        exact absurd hn hv
  · have inv := star_inv s
    have out : ∀ {u z : Int}, (u = v ∨ ∃ e ∈ cf, up' e.1 = some u) → z ∈ nf u → (cl z || inK cf z) = true := fun {u z} hu hz => by
      rw [Bool.or_eq_true]
      rcases inv.fin u hu with h | h | ⟨r, h1, _⟩
      · cases h
      · exact (h z hz).symm
      · cases h1
    refine ⟨fun z hz => ?_, fun x hx hn z hz => ?_, k.c3⟩
    · have hz : (cl z || inK cf z) = true := hz
      rw [Bool.or_eq_true] at hz
      rcases hz with hz | hz
      · obtain ⟨w, h1, h2⟩ := k.c1 z hz
        exact ⟨w, h1, fun y hy => by show (cl y || inK cf y) = true; rw [h2 y hy]; rfl⟩
      · obtain ⟨y, hy⟩ := inK_iff.mp hz
        cases e : up' z with
        | none => exact absurd e (inv.key _ hy).1
        | some w => exact ⟨w, rfl, fun y' hy' => out (.inr ⟨_, hy, e⟩) hy'⟩
    · rcases List.mem_append.mp hx with hx | hx
      · show (cl z || inK cf z) = true
        rw [k.c2 x hx hn z hz]
        rfl
      · rw [List.mem_singleton.mp hx] at hz
        exact out (.inl rfl) hz
/-! ### all of them in turn -/
inductive Runs (nf : Int → List Int) : List Int → (Int → Option Int) → (Int → Option Int) → (Int → Bool) → Prop
  | nil : Runs nf [] (fun _ => none) (fun _ => none) (fun _ => false)
  | snoc {S : List Int} {lo up lo' up' : Int → Option Int} {cl cl' : Int → Bool} {v : Int} : Runs nf S lo up cl → PairR nf lo up cl v lo' up' cl' → Runs nf (S ++ [v]) lo' up' cl'
theorem Runs.kn {nf : Int → List Int} {S : List Int} {lo up : Int → Option Int} {cl : Int → Bool} (h : Runs nf S lo up cl) : Kn nf S lo up cl := by
  induction h with
  | nil => exact ⟨(fun _ h => by cases h), (fun _ h => by cases h), fun _ _ h => by cases h⟩
  | snoc _ p ih => exact ih.step p
theorem Runs.uniq {nf : Int → List Int} {S : List Int} {lo up : Int → Option Int} {cl : Int → Bool} (h : Runs nf S lo up cl) : ∀ {lo' up' : Int → Option Int} {cl' : Int → Bool}, Runs nf S lo' up' cl' → lo = lo' ∧ up = up' ∧ cl = cl' := by
  induction h with
  | nil =>
    intro lo' up' cl' h'
    generalize e : ([] : List Int) = T at h'
    cases h' with
    | nil => exact ⟨rfl, rfl, rfl⟩
    | snoc _ _ => exact absurd e.symm (by simp)
  | @snoc S lo up lo2 up2 cl cl2 v _ p ih =>
    intro lo' up' cl' h'
    generalize e : S ++ [v] = T at h'
    cases h' with
    | nil => exact absurd e (by simp)
    | snoc q p' =>
      obtain ⟨e1, e2⟩ := List.append_inj' e rfl
      subst e1
      cases List.singleton_inj.mp e2
      obtain ⟨q1, q2, q3⟩ := ih q
      subst q1 q2 q3
      exact p.uniq p'
/-! ### chains -/
def ChainOf (up : Int → Option Int) (f : Int) (cs : List Int) : Prop := cs[0]? = some f ∧ ∀ (i : Nat) (x : Int), cs[i]? = some x → cs[i + 1]? = up x
theorem ChainOf.uniq {up : Int → Option Int} {f : Int} {cs ds : List Int} (h : ChainOf up f cs) (g : ChainOf up f ds) : cs = ds := by
  refine List.ext_getElem? fun i => ?_
  induction i with
  | zero => rw [h.1, g.1]
  | succ i ih =>
    cases e : cs[i]? with
    | some x => rw [h.2 i x e, g.2 i x (by rw [← ih]; exact e)]
    | none =>
      rw [List.getElem?_eq_none_iff] at e
      have e2 := List.getElem?_eq_none_iff.mp (ih ▸ List.getElem?_eq_none_iff.mpr e : ds[i]? = none)
      rw [List.getElem?_eq_none_iff.mpr (by omega), List.getElem?_eq_none_iff.mpr (by omega)]
def freeB (lo : Int → Option Int) (v : Int) : Bool := (lo v).isNone
def apB (lo : Int → Option Int) (cl : Int → Bool) (v : Int) : Bool := !cl v && (match lo v with | none => true | some l => cl l)
def ChsOf (lo up : Int → Option Int) (ws : List Int) (cs : List (List Int)) : Prop := cs.length = (ws.filter (freeB lo)).length ∧ ∀ (i : Nat) (f : Int) (c : List Int), (ws.filter (freeB lo))[i]? = some f → cs[i]? = some c → ChainOf up f c
theorem ChsOf.uniq {lo up : Int → Option Int} {ws : List Int} {cs ds : List (List Int)} (h : ChsOf lo up ws cs) (g : ChsOf lo up ws ds) : cs = ds := by
  refine List.ext_getElem? fun i => ?_
  by_cases hi : i < (ws.filter (freeB lo)).length
  · have h1 := List.getElem?_eq_getElem (l := cs) (i := i) (by rw [h.1]; exact hi)
    have h2 := List.getElem?_eq_getElem (l := ds) (i := i) (by rw [g.1]; exact hi)
    rw [h1, h2, (h.2 i _ _ (List.getElem?_eq_getElem hi) h1).uniq (g.2 i _ _ (List.getElem?_eq_getElem hi) h2)]
  · rw [List.getElem?_eq_none_iff.mpr (by rw [h.1]; omega), List.getElem?_eq_none_iff.mpr (by rw [g.1]; omega)]
/-- what is near: strictly below, the greatest first -/
structure NfOk (ws : List Int) (ls : List (Int × Int)) (nf : Int → List Int) : Prop where
  mem : ∀ w u, u ∈ nf w ↔ ∃ l, (w, l) ∈ ls ∧ Dn ls l u
  eq : ∃ f : Int → List Int, nf = fun w => (ws.filter fun u => (f w).contains u).reverse
structure CoverIs (ws : List Int) (ls : List (Int × Int)) (cs : List (List Int)) (ap : List Int) (nf : Int → List Int) (lo up : Int → Option Int) (cl : Int → Bool) : Prop where
  nfo : NfOk ws ls nf
  run : Runs nf ws lo up cl
  mt : Mt ws ws lo up
  chs : ChsOf lo up ws cs
  ap : ap = ws.filter (apB lo cl)
theorem NfOk.uniq {ws : List Int} {ls : List (Int × Int)} (g : Good ws ls) {nf nf' : Int → List Int} (h : NfOk ws ls nf) (h' : NfOk ws ls nf') : nf = nf' := by
  obtain ⟨f, e⟩ := h.eq
  obtain ⟨f', e'⟩ := h'.eq
  funext w
  have mm : ∀ u, u ∈ nf w ↔ u ∈ nf' w := fun u => (h.mem w u).trans (h'.mem w u).symm
  rw [e, e'] at mm ⊢
  show (ws.filter fun u => (f w).contains u).reverse = (ws.filter fun u => (f' w).contains u).reverse
  refine congrArg List.reverse (List.filter_congr fun u hu => ?_)
  have := mm u
  simp only [List.mem_reverse, List.mem_filter, hu, true_and] at this
  rw [Bool.eq_iff_iff]
  exact this
theorem CoverIs.uniq {ws : List Int} {ls : List (Int × Int)} (g : Good ws ls) {cs cs' : List (List Int)} {ap ap' : List Int} {nf nf' : Int → List Int} {lo up lo' up' : Int → Option Int} {cl cl' : Int → Bool} (h : CoverIs ws ls cs ap nf lo up cl) (h' : CoverIs ws ls cs' ap' nf' lo' up' cl') : cs = cs' ∧ ap = ap' := by
  have := h.nfo.uniq g h'.nfo
  subst this
  obtain ⟨e1, e2, e3⟩ := h.run.uniq h'.run
  subst e1 e2 e3
  exact ⟨h.chs.uniq h'.chs, h.ap.trans h'.ap.symm⟩
end Fw

set_option Elab.async false
set_option linter.all false
set_option maxRecDepth 100000
set_option maxHeartbeats 4000000
namespace Fw
open PySem L2 RZ RT
/-- chains in which each version stands once, and as many apart as chains -/
structure CovOk (ws : List Int) (ls : List (Int × Int)) (cs : List (List Int)) (ap : List Int) : Prop where
  nd : cs.flatten.Nodup
  mem : ∀ x, x ∈ cs.flatten ↔ x ∈ ws
  ne : ∀ c ∈ cs, c ≠ []
  up : ∀ c ∈ cs, c.Pairwise (· < ·)
  dn : ∀ c ∈ cs, ∀ (i : Nat) (x y : Int), c[i]? = some x → c[i + 1]? = some y → Dn ls y x
  fst : ∀ (i j : Nat) (c d : List Int) (x y : Int), i < j → cs[i]? = some c → cs[j]? = some d → c[0]? = some x → d[0]? = some y → x < y
  len : cs.length = ap.length
  apm : ∀ x ∈ ap, x ∈ ws
  api : ap.Pairwise (· < ·)
  apd : ∀ x ∈ ap, ∀ y ∈ ap, x ≠ y → ¬ Dn ls x y
theorem chain_root {lo up : Int → Option Int} (inv : ∀ u l, lo u = some l ↔ up l = some u) {f f' : Int} {c d : List Int} (h : ChainOf up f c) (g : ChainOf up f' d) (hf : lo f = none) (hg : lo f' = none) : ∀ (i j : Nat) (x : Int), c[i]? = some x → d[j]? = some x → f = f'
  | 0, 0, x, h1, h2 => by
    rw [h.1] at h1
    rw [g.1] at h2
    cases Option.some.inj h1
    cases Option.some.inj h2
    rfl
  | 0, j + 1, x, h1, h2 => by
    rw [h.1] at h1
    cases Option.some.inj h1
    have hj : j < d.length := by have := (List.getElem?_eq_some_iff.mp h2).1; omega
    have e := List.getElem?_eq_getElem hj
    rw [g.2 j _ e] at h2
    rw [(inv f d[j]).mpr h2] at hf
    cases hf
  | i + 1, 0, x, h1, h2 => by
    rw [g.1] at h2
    cases Option.some.inj h2
    have hj : i < c.length := by have := (List.getElem?_eq_some_iff.mp h1).1; omega
    have e := List.getElem?_eq_getElem hj
    rw [h.2 i _ e] at h1
    rw [(inv f' c[i]).mpr h1] at hg
    cases hg
  | i + 1, j + 1, x, h1, h2 => by
    have hi : i < c.length := by have := (List.getElem?_eq_some_iff.mp h1).1; omega
    have hj : j < d.length := by have := (List.getElem?_eq_some_iff.mp h2).1; omega
    have e1 := List.getElem?_eq_getElem hi
    have e2 := List.getElem?_eq_getElem hj
    rw [h.2 i _ e1] at h1
    rw [g.2 j _ e2] at h2
    have a := (inv x c[i]).mpr h1
    rw [(inv x d[j]).mpr h2] at a
    have a := Option.some.inj a
    rw [a] at e2
    exact chain_root inv h g hf hg i j _ e1 e2
def b2n (b : Bool) : Nat := if b then 1 else 0
theorem count_four {p q r s : Int → Bool} : ∀ {ws : List Int}, (∀ v ∈ ws, b2n (p v) + b2n (q v) = b2n (r v) + b2n (s v)) → (ws.filter p).length + (ws.filter q).length = (ws.filter r).length + (ws.filter s).length
  | [], _ => rfl
  | v :: ws, h => by
    have ih := count_four (p := p) (q := q) (r := r) (s := s) (ws := ws) fun x hx => h x (List.mem_cons_of_mem _ hx)
    have h0 := h v (List.mem_cons_self ..)
    have one : ∀ t : Int → Bool, ((v :: ws).filter t).length = b2n (t v) + (ws.filter t).length := fun t => by
      unfold b2n
      cases e : t v with
      | true => rw [List.filter_cons_of_pos e, List.length_cons, if_pos rfl]; omega
      | false => rw [List.filter_cons_of_neg (by rw [e]; exact Bool.false_ne_true), if_neg Bool.false_ne_true]; omega
    rw [one p, one q, one r, one s]
    omega
section
variable {ws : List Int} {ls : List (Int × Int)} {nf : Int → List Int} {lo up : Int → Option Int} {cl : Int → Bool}
theorem near_iff (n : NfOk ws ls nf) {w u : Int} (h : u ∈ nf w) : Dn ls w u := by
  obtain ⟨l, h1, h2⟩ := (n.mem w u).mp h
  exact .step h1 h2
theorem near_of (n : NfOk ws ls nf) {w u : Int} (h : Dn ls w u) (ne : w ≠ u) : u ∈ nf w := by
  cases h with
  | refl => exact absurd rfl ne
  | step h1 h2 => exact (n.mem w u).mpr ⟨_, h1, h2⟩
theorem near_lt (g : Good ws ls) (n : NfOk ws ls nf) {w u : Int} (h : u ∈ nf w) : u < w := by
  obtain ⟨l, h1, h2⟩ := (n.mem w u).mp h
  have := (g.mem _ h1).2.2
  have h3 := Dn.le g h2
  have this : l < w := this
  omega
theorem near_tr (n : NfOk ws ls nf) {w u z : Int} (h : u ∈ nf w) (k : z ∈ nf u) : z ∈ nf w := by
  obtain ⟨l, h1, h2⟩ := (n.mem w u).mp h
  exact (n.mem w z).mpr ⟨l, h1, h2.trans (near_iff n k)⟩
def loC (lo : Int → Option Int) (cl : Int → Bool) (v : Int) : Bool := match lo v with
  | none => false
  | some l => cl l
theorem len_map_sub {xs ys : List Int} {f : Int → Int} (nd : xs.Nodup) (inj : ∀ a ∈ xs, ∀ b ∈ xs, f a = f b → a = b) (h : ∀ a ∈ xs, f a ∈ ys) : xs.length ≤ ys.length := by
  have : (xs.map f).Nodup := by
    rw [List.Nodup, List.pairwise_map]
    exact nd.imp_of_mem fun {a b} ha hb ne e => ne (inj a ha b hb e)
  have := length_sub this (vs := ys) fun x hx => by
    obtain ⟨a, ha, rfl⟩ := List.mem_map.mp hx
    exact h a ha
  rw [List.length_map] at this
  exact this
theorem few_apart (g : Good ws ls) (n : NfOk ws ls nf) (m : Mt ws ws lo up) (k : Kn nf ws lo up cl) : (ws.filter (freeB lo)).length = (ws.filter (apB lo cl)).length := by
  have nd := rising_nodup g.inc
  have c4 := count_four (p := apB lo cl) (q := cl) (r := freeB lo) (s := loC lo cl) (ws := ws) fun v hv => by
    unfold apB freeB loC
    cases ec : cl v with
    | false =>
      cases e : lo v with
      | none => rfl
      | some l => show b2n (cl l) + 0 = 0 + b2n (cl l); omega
    | true =>
      cases e : lo v with
      | none => rfl
      | some l =>
        obtain ⟨u, h1, h2⟩ := k.c1 v ec
        have : cl l = true := h2 l (near_tr n (k.c3 u v ((m.inv u v).mpr h1)) (k.c3 v l e))
        show 0 + 1 = 0 + b2n (cl l)
        rw [this]
        rfl
  have e : (ws.filter cl).length = (ws.filter (loC lo cl)).length := by
    refine Nat.le_antisymm (len_map_sub (f := fun l => (up l).getD 0) (nd.sublist List.filter_sublist) (fun a ha b hb e => ?_) fun a ha => ?_) (len_map_sub (f := fun v => (lo v).getD 0) (nd.sublist List.filter_sublist) (fun a ha b hb e => ?_) fun a ha => ?_)
    · rw [List.mem_filter] at ha hb
      obtain ⟨u, h1, _⟩ := k.c1 a ha.2
      obtain ⟨w, h2, _⟩ := k.c1 b hb.2
      have e : (up a).getD 0 = (up b).getD 0 := e
      rw [h1, h2] at e
      have e : u = w := e
      have q1 := (m.inv u a).mpr h1
      rw [e, (m.inv w b).mpr h2] at q1
      exact (Option.some.inj q1).symm
    · rw [List.mem_filter] at ha
      obtain ⟨u, h1, _⟩ := k.c1 a ha.2
      have q1 := (m.inv u a).mpr h1
      show (up a).getD 0 ∈ ws.filter (loC lo cl)
      rw [h1, List.mem_filter]
      refine ⟨(m.dom u a q1).1, ?_⟩
      show loC lo cl u = true
      unfold loC
      rw [q1]
      exact ha.2
    · rw [List.mem_filter] at ha hb
      have e : (lo a).getD 0 = (lo b).getD 0 := e
      obtain ⟨_, ha⟩ := ha
      obtain ⟨_, hb⟩ := hb
      unfold loC at ha hb
      cases q1 : lo a with
      | none => rw [q1] at ha; cases ha
      | some l =>
        cases q2 : lo b with
        | none => rw [q2] at hb; cases hb
        | some l2 =>
          rw [q1, q2] at e
          have e : l = l2 := e
          have z1 := (m.inv a l).mp q1
          rw [e, (m.inv b l2).mp q2] at z1
          exact (Option.some.inj z1).symm
    · rw [List.mem_filter] at ha
      obtain ⟨_, ha⟩ := ha
      unfold loC at ha
      cases q1 : lo a with
      | none => rw [q1] at ha; cases ha
      | some l =>
        rw [q1] at ha
        exact List.mem_filter.mpr ⟨(m.dom a l q1).2.1, ha⟩
  omega
theorem apart_none (g : Good ws ls) (n : NfOk ws ls nf) (m : Mt ws ws lo up) (k : Kn nf ws lo up cl) {x y : Int} (hx : x ∈ ws) (ax : apB lo cl x = true) (ay : apB lo cl y = true) (ne : x ≠ y) : ¬ Dn ls x y := fun d => by
  have hn := near_of n d ne
  unfold apB at ax ay
  rw [Bool.and_eq_true] at ax ay
  have : cl y = true := by
    cases e : lo x with
    | none => exact k.c2 x hx e y hn
    | some l =>
      rw [e] at ax
      obtain ⟨u, h1, h2⟩ := k.c1 l ax.2
      have q := (m.inv x l).mp e
      rw [q] at h1
      cases Option.some.inj h1
      exact h2 y hn
  rw [this] at ay
  cases ay.1
theorem in_chain (m : Mt ws ws lo up) {c : List Int} {f l x : Int} (h : ChainOf up f c) (hl : l ∈ c) (e : lo x = some l) : x ∈ c := by
  obtain ⟨i, hi, ei⟩ := List.getElem_of_mem hl
  have := h.2 i l (List.getElem?_eq_some_iff.mpr ⟨hi, ei⟩)
  rw [(m.inv x l).mp e] at this
  exact List.mem_of_getElem? this
theorem CoverIs.ok {cs : List (List Int)} {ap : List Int} (g : Good ws ls) (h : CoverIs ws ls cs ap nf lo up cl) : CovOk ws ls cs ap := by
  have k := h.run.kn
  have m := h.mt
  have n := h.nfo
  have nd := rising_nodup g.inc
  have ndf : (ws.filter (freeB lo)).Nodup := nd.sublist List.filter_sublist
  have incf : (ws.filter (freeB lo)).Pairwise (· < ·) := g.inc.sublist List.filter_sublist
  have free : ∀ {f : Int}, f ∈ ws.filter (freeB lo) → f ∈ ws ∧ lo f = none := fun {f} hf => by
    rw [List.mem_filter] at hf
    refine ⟨hf.1, ?_⟩
    have := hf.2
    unfold freeB at this
    exact Option.isNone_iff_eq_none.mp this
  have of : ∀ {i : Nat} {c : List Int}, cs[i]? = some c → ∃ f, (ws.filter (freeB lo))[i]? = some f ∧ ChainOf up f c := fun {i c} hc => by
    have hi : i < (ws.filter (freeB lo)).length := by rw [← h.chs.1]; exact (List.getElem?_eq_some_iff.mp hc).1
    exact ⟨_, List.getElem?_eq_getElem hi, h.chs.2 i _ c (List.getElem?_eq_getElem hi) hc⟩
  have ofm : ∀ {c : List Int}, c ∈ cs → ∃ f, f ∈ ws ∧ lo f = none ∧ ChainOf up f c := fun {c} hc => by
    obtain ⟨i, hi, e⟩ := List.getElem_of_mem hc
    obtain ⟨f, h1, h2⟩ := of (List.getElem?_eq_some_iff.mpr ⟨hi, e⟩)
    obtain ⟨a, b⟩ := free (List.mem_of_getElem? h1)
    exact ⟨f, a, b, h2⟩
  have next : ∀ {c : List Int}, c ∈ cs → ∀ (i : Nat) (x y : Int), c[i]? = some x → c[i + 1]? = some y → lo y = some x := fun {c} hc i x y h1 h2 => by
    obtain ⟨f, _, _, q⟩ := ofm hc
    rw [q.2 i x h1] at h2
    exact (m.inv y x).mpr h2
  have upc : ∀ c ∈ cs, c.Pairwise (· < ·) := fun c hc => by
    rw [List.pairwise_iff_getElem]
    intro i j hi hj hij
    have : ∀ d i (hi : i < c.length) (hj : i + d + 1 < c.length), c[i] < c[i + d + 1] := fun d => by
      induction d with
      | zero =>
        intro i hi hj
        have := (m.dom _ _ (next hc i _ _ (List.getElem?_eq_getElem hi) (List.getElem?_eq_getElem hj))).2.2
        exact this
      | succ d ih =>
        intro i hi hj
        have a := ih i hi (by omega)
        have b := (m.dom _ _ (next hc (i + d + 1) _ _ (List.getElem?_eq_getElem (by omega)) (List.getElem?_eq_getElem hj))).2.2
        have b : c[i + d + 1] < c[i + (d + 1) + 1] := b
        omega
    have q := this (j - i - 1) i hi (by omega)
    have e : i + (j - i - 1) + 1 = j := by omega
    simp only [e] at q
    exact q
  have memc : ∀ c ∈ cs, ∀ x ∈ c, x ∈ ws := fun c hc x hx => by
    obtain ⟨f, hf, _, q⟩ := ofm hc
    obtain ⟨i, hi, e⟩ := List.getElem_of_mem hx
    cases i with
    | zero =>
      have := q.1
      rw [List.getElem?_eq_getElem hi, e] at this
      rw [Option.some.inj this]
      exact hf
    | succ i =>
      have := next hc i _ x (List.getElem?_eq_getElem (by omega)) (List.getElem?_eq_some_iff.mpr ⟨hi, e⟩)
      exact (m.dom _ _ this).1
  have all : ∀ (i : Nat) (x : Int), ws[i]? = some x → ∃ c ∈ cs, x ∈ c := fun i => by
    induction i using Nat.strongRecOn with
    | ind i ih =>
      intro x hx
      have hxw : x ∈ ws := List.mem_of_getElem? hx
      cases e : lo x with
      | none =>
        have hf : x ∈ ws.filter (freeB lo) := List.mem_filter.mpr ⟨hxw, by unfold freeB; rw [e]; rfl⟩
        obtain ⟨j, hj, ej⟩ := List.getElem_of_mem hf
        have hc := List.getElem?_eq_getElem (l := cs) (i := j) (by rw [h.chs.1]; exact hj)
        have q := h.chs.2 j x _ (List.getElem?_eq_some_iff.mpr ⟨hj, ej⟩) hc
        exact ⟨_, List.mem_of_getElem? hc, List.mem_of_getElem? q.1⟩
      | some l =>
        obtain ⟨_, lw, lx⟩ := m.dom x l e
        obtain ⟨j, hj, ej⟩ := List.getElem_of_mem lw
        obtain ⟨hi, ei⟩ := List.getElem?_eq_some_iff.mp hx
        have hji : j < i := by
          rcases Nat.lt_trichotomy j i with q | q | q
          · exact q
          · subst q
            rw [ej] at ei
            omega
          · have := List.pairwise_iff_getElem.mp g.inc i j hi hj q
            rw [ej, ei] at this
            omega
        obtain ⟨c, hc, lc⟩ := ih j hji l (List.getElem?_eq_some_iff.mpr ⟨hj, ej⟩)
        obtain ⟨f, _, _, q⟩ := ofm hc
        exact ⟨c, hc, in_chain m q lc e⟩
  refine ⟨?_, fun x => ⟨fun hx => ?_, fun hx => ?_⟩, fun c hc e => ?_, upc, fun c hc i x y h1 h2 => near_iff n (k.c3 y x (next hc i x y h1 h2)), ?_, ?_, ?_, ?_, ?_⟩
  · rw [List.Nodup, List.pairwise_flatten]
    refine ⟨fun c hc => rising_nodup (upc c hc), ?_⟩
    rw [List.pairwise_iff_getElem]
    intro i j hi hj hij x hx y hy e
    subst e
    obtain ⟨f, f1, f2⟩ := of (List.getElem?_eq_getElem hi)
    obtain ⟨f', f1', f2'⟩ := of (List.getElem?_eq_getElem hj)
    obtain ⟨a, ha, ea⟩ := List.getElem_of_mem hx
    obtain ⟨b, hb, eb⟩ := List.getElem_of_mem hy
    have e := chain_root m.inv f2 f2' (free (List.mem_of_getElem? f1)).2 (free (List.mem_of_getElem? f1')).2 a b x (List.getElem?_eq_some_iff.mpr ⟨ha, ea⟩) (List.getElem?_eq_some_iff.mpr ⟨hb, eb⟩)
    subst e
    obtain ⟨p1, p2⟩ := List.getElem?_eq_some_iff.mp f1
    obtain ⟨q1, q2⟩ := List.getElem?_eq_some_iff.mp f1'
    have := (List.getElem_inj ndf).mp (p2.trans q2.symm)
    omega
  · obtain ⟨c, hc, hx⟩ := List.mem_flatten.mp hx
    exact memc c hc x hx
  · obtain ⟨i, hi, e⟩ := List.getElem_of_mem hx
    obtain ⟨c, hc, h2⟩ := all i x (List.getElem?_eq_some_iff.mpr ⟨hi, e⟩)
    exact List.mem_flatten.mpr ⟨c, hc, h2⟩
  · obtain ⟨f, _, _, q⟩ := ofm hc
    have := q.1
    rw [e] at this
    cases this
  · intro i j c d x y hij hc hd h1 h2
    obtain ⟨f, f1, f2⟩ := of hc
    obtain ⟨f', f1', f2'⟩ := of hd
    rw [f2.1] at h1
    rw [f2'.1] at h2
    cases Option.some.inj h1
    cases Option.some.inj h2
    obtain ⟨p1, p2⟩ := List.getElem?_eq_some_iff.mp f1
    obtain ⟨q1, q2⟩ := List.getElem?_eq_some_iff.mp f1'
    have := List.pairwise_iff_getElem.mp incf i j p1 q1 hij
    rw [p2, q2] at this
    exact this
  · rw [h.ap, h.chs.1]
    exact few_apart g n m k
  · intro x hx
    rw [h.ap] at hx
    exact (List.mem_filter.mp hx).1
  · rw [h.ap]
    exact g.inc.sublist List.filter_sublist
  · intro x hx y hy ne
    rw [h.ap, List.mem_filter] at hx hy
    exact apart_none g n m k hx.1 hx.2 hy.2 ne
theorem CovOk.size {cs : List (List Int)} {ap : List Int} (g : Good ws ls) (h : CovOk ws ls cs ap) : cs.flatten.length = ws.length := Nat.le_antisymm (length_sub h.nd fun x hx => (h.mem x).mp hx) (length_sub (rising_nodup g.inc) fun x hx => (h.mem x).mpr hx)
end
end Fw

set_option Elab.async false
set_option linter.all false
set_option maxRecDepth 100000
set_option maxHeartbeats 4000000
namespace Fw
open PySem L2 RZ RT
structure PairC (K : PySem.W.Frag) : Prop where
  cl : Cls K (He.ga K "Pairing")
  n1 : NoAttr K (He.ga K "Pairing") "near"
  n2 : NoAttr K (He.ga K "Pairing") "lower_of"
  n3 : NoAttr K (He.ga K "Pairing") "upper_of"
  n4 : NoAttr K (He.ga K "Pairing") "closed"
/-- the object at x and its four dicts -/
def PO (K : PySem.W.Frag) (H : Hp) (x N L U C : Addr) : Prop := ∃ (dx : Addr) (fs : List (Str × V)), H x = some (.ins (He.ga K "Pairing") dx fs) ∧ fs.lookup ("near" : Str) = some (.ref N) ∧ fs.lookup ("lower_of" : Str) = some (.ref L) ∧ fs.lookup ("upper_of" : Str) = some (.ref U) ∧ fs.lookup ("closed" : Str) = some (.ref C) ∧
  fs.lookup ("pair" : Str) = none ∧ fs.lookup ("give_way" : Str) = none ∧ fs.lookup ("chain" : Str) = none ∧ fs.lookup ("stands_apart" : Str) = none
/-- all but the three that change stands -/
def Kx (L U C : Addr) (H H' : Hp) : Prop := ∀ b o, H b = some o → b ≠ L → b ≠ U → b ≠ C → H' b = some o
theorem Kx.refl {L U C : Addr} {H : Hp} : Kx L U C H H := fun _ _ h _ _ _ => h
theorem Kx.trans {L U C : Addr} {H H1 H2 : Hp} (a : Kx L U C H H1) (b : Kx L U C H1 H2) : Kx L U C H H2 := fun x o h h1 h2 h3 => b x o (a x o h h1 h2 h3) h1 h2 h3
theorem Kx.same {L U C : Addr} {H H' : Hp} (s : Same H H') : Kx L U C H H' := fun b o h _ _ _ => s b o h
theorem Kx.up {L U C q : Addr} {H H' : Hp} {o : HO} (k : Kx L U C H H') (h : q = L ∨ q = U ∨ q = C) : Kx L U C H (upd H' q o) := fun b u e h1 h2 h3 => updN (by rcases h with rfl | rfl | rfl; exact h1; exact h2; exact h3) (k b u e h1 h2 h3)
theorem Gw.step2 {ws S : List Int} {v l u : Int} {cf : List (Int × Int)} {lo0 up0 lo up : Int → Option Int} {i : Nat} (m0 : Mt ws S lo0 up0) (c : Cf ws v lo0 cf) (hv : lo0 v = none) (g : Gw ws S v cf lo0 lo up i l) (hu : cf[i]? = some (l, u)) :
    (lo u = none ∧ Mt ws (S ++ [v]) (setM lo u l) (setM up l u) ∧ u = v) ∨ ∃ j l', j < i ∧ lo u = some l' ∧ Gw ws S v cf lo0 (setM lo u l) (setM up l u) j l' := by
  rcases g.step m0 c hv hu with ⟨h1, h2⟩ | h
  · refine .inl ⟨h1, h2, ?_⟩
    obtain ⟨_, _, _, h⟩ := c.ok i l u hu
    rcases h with h | ⟨j2, l2, u2, q1, q2, q3⟩
    · exact h
    · exfalso
      rcases g.old u with e | ⟨j, l', u', e1, e2, e3⟩
      · rw [h1, q3] at e
        cases e
      · rw [q3] at e1
        cases Option.some.inj e1
        have := cf_inj c.nd q2 e2
        omega
  · exact .inr h
structure PS (K : PySem.W.Frag) (H : Hp) (x N L U C : Addr) (ws : List Int) (nf : Int → List Int) (lo up : Int → Option Int) (cl : Int → Bool) (b : Nat) : Prop where
  po : PO K H x N L U C
  hL : ∃ lk, H L = some (.dK lk) ∧ lk.length ≤ b ∧ ∀ k, valV lk (.inl k) = (lo k).map V.int
  hU : ∃ uk, H U = some (.dK uk) ∧ uk.length ≤ b ∧ ∀ k, valV uk (.inl k) = (up k).map V.int
  hC : ∃ ck, H C = some (.dK ck) ∧ ck.length ≤ b ∧ ∀ k, (valV ck (.inl k)).isSome = cl k
  hN : ∃ nk, H N = some (.dK nk) ∧ ∀ w ∈ ws, ∃ l, valV nk (.inl w) = some (.ref l) ∧ H l = some (.lst ((nf w).map V.int)) ∧ (nf w).length ≤ 1000 ∧ ∀ u ∈ nf w, u ∈ ws ∧ u < w
  ne : L ≠ U ∧ L ≠ C ∧ U ≠ C ∧ N ≠ L ∧ N ≠ U ∧ N ≠ C
theorem PS.keep {K : PySem.W.Frag} {H H' : Hp} {x N L U C : Addr} {ws : List Int} {nf : Int → List Int} {lo up : Int → Option Int} {cl : Int → Bool} {b : Nat} (p : PS K H x N L U C ws nf lo up cl b) (k : Kx L U C H H') (eL : H' L = H L) (eU : H' U = H U) (eC : H' C = H C) : PS K H' x N L U C ws nf lo up cl b := by
  obtain ⟨⟨dx, fs, hx, r⟩, hL, hU, hC, ⟨nk, hN, near⟩, ne⟩ := p
  obtain ⟨lk, gL, _⟩ := id hL
  obtain ⟨uk, gU, _⟩ := id hU
  obtain ⟨ck, gC, _⟩ := id hC
  refine ⟨⟨dx, fs, k _ _ hx (ne_of hx gL (by intro z; cases z)) (ne_of hx gU (by intro z; cases z)) (ne_of hx gC (by intro z; cases z)), r⟩, by rw [eL]; exact hL, by rw [eU]; exact hU, by rw [eC]; exact hC, ⟨nk, k _ _ hN ne.2.2.2.1 ne.2.2.2.2.1 ne.2.2.2.2.2, fun w hw => ?_⟩, ne⟩
  obtain ⟨l, h1, h2, h3, h4⟩ := near w hw
  exact ⟨l, h1, k _ _ h2 (ne_of h2 gL (by intro z; cases z)) (ne_of h2 gU (by intro z; cases z)) (ne_of h2 gC (by intro z; cases z)), h3, h4⟩
theorem PS.same {K : PySem.W.Frag} {H H' : Hp} {x N L U C : Addr} {ws : List Int} {nf : Int → List Int} {lo up : Int → Option Int} {cl : Int → Bool} {b : Nat} (p : PS K H x N L U C ws nf lo up cl b) (s : Same H H') : PS K H' x N L U C ws nf lo up cl b := by
  obtain ⟨lk, gL, _⟩ := p.hL
  obtain ⟨uk, gU, _⟩ := p.hU
  obtain ⟨ck, gC, _⟩ := p.hC
  exact p.keep (.same s) (by rw [gL, s _ _ gL]) (by rw [gU, s _ _ gU]) (by rw [gC, s _ _ gC])
theorem PS.le {K : PySem.W.Frag} {H : Hp} {x N L U C : Addr} {ws : List Int} {nf : Int → List Int} {lo up : Int → Option Int} {cl : Int → Bool} {b b' : Nat} (p : PS K H x N L U C ws nf lo up cl b) (h : b ≤ b') : PS K H x N L U C ws nf lo up cl b' := by
  obtain ⟨po, ⟨lk, l1, l2, l3⟩, ⟨uk, u1, u2, u3⟩, ⟨ck, c1, c2, c3⟩, hN, ne⟩ := p
  exact ⟨po, ⟨lk, l1, Nat.le_trans l2 h, l3⟩, ⟨uk, u1, Nat.le_trans u2 h, u3⟩, ⟨ck, c1, Nat.le_trans c2 h, c3⟩, hN, ne⟩
/-- a new thing, or one that is none of these -/
theorem PS.new {K : PySem.W.Frag} {H : Hp} {x N L U C q : Addr} {ws : List Int} {nf : Int → List Int} {lo up : Int → Option Int} {cl : Int → Bool} {b : Nat} {o : HO} (p : PS K H x N L U C ws nf lo up cl b) (h : H q = none) : PS K (upd H q o) x N L U C ws nf lo up cl b := p.same (fun b u e => updN (ne_of_none e h) e)
section
variable {K : PySem.W.Frag} {H : Hp} {Q : VK} {x N L U C : Addr} {ws : List Int} {nf : Int → List Int} {lo up : Int → Option Int} {cl : Int → Bool} {b : Nat} {σ : L2.St} {i : Nat}
theorem PS.fL (pc : PairC K) (p : PS K H x N L U C ws nf lo up cl b) (e : σ[i]? = some (some (.ref x))) (q : Q (.ref L) H) : tFld K (tVar i) "lower_of" σ H Q := by
  obtain ⟨dx, fs, hx, h1, h2, h3, h4, _⟩ := p.po
  exact ⟨_, e, x, _, dx, fs, _, rfl, hx, pc.cl, pc.n2, h2, q⟩
theorem PS.fU (pc : PairC K) (p : PS K H x N L U C ws nf lo up cl b) (e : σ[i]? = some (some (.ref x))) (q : Q (.ref U) H) : tFld K (tVar i) "upper_of" σ H Q := by
  obtain ⟨dx, fs, hx, h1, h2, h3, h4, _⟩ := p.po
  exact ⟨_, e, x, _, dx, fs, _, rfl, hx, pc.cl, pc.n3, h3, q⟩
theorem PS.fC (pc : PairC K) (p : PS K H x N L U C ws nf lo up cl b) (e : σ[i]? = some (some (.ref x))) (q : Q (.ref C) H) : tFld K (tVar i) "closed" σ H Q := by
  obtain ⟨dx, fs, hx, h1, h2, h3, h4, _⟩ := p.po
  exact ⟨_, e, x, _, dx, fs, _, rfl, hx, pc.cl, pc.n4, h4, q⟩
theorem PS.fN (pc : PairC K) (p : PS K H x N L U C ws nf lo up cl b) (e : σ[i]? = some (some (.ref x))) (q : Q (.ref N) H) : tFld K (tVar i) "near" σ H Q := by
  obtain ⟨dx, fs, hx, h1, h2, h3, h4, _⟩ := p.po
  exact ⟨_, e, x, _, dx, fs, _, rfl, hx, pc.cl, pc.n1, h1, q⟩
end
theorem map_setM {kvs : List (Key × V)} {m : Int → Option Int} {k v : Int} (h : ∀ j, valV kvs (.inl j) = (m j).map V.int) : ∀ j, valV (putK kvs (.inl k) (.int v)) (.inl j) = (setM m k v j).map V.int := fun j => by
  rw [valV_put]
  by_cases e : j = k
  · subst e
    rw [if_pos rfl, setM_eq]
    rfl
  · rw [if_neg (fun z => e (Sum.inl.inj z)), setM_ne e]
    exact h j
def sp_Pairing_give_way (K : PySem.W.Frag) : Sp := fun vs H Q _ => ∃ (x N L U C cA : Addr) (ws S : List Int) (v l : Int) (cf : List (Int × Int)) (nf : Int → List Int) (cl : Int → Bool) (lo0 up0 : Int → Option Int) (b i : Nat), vs = [.ref x, .int l, .ref cA] ∧ PairC K ∧ PS K H x N L U C ws nf lo0 up0 cl b ∧ Mt ws S lo0 up0 ∧ Cf ws v lo0 cf ∧ lo0 v = none ∧ Gw ws S v cf lo0 lo0 up0 i l ∧ H cA = some (.dK (kvOf cf)) ∧ cA ≠ L ∧ cA ≠ U ∧ cA ≠ C ∧ b + i < 1000000 ∧
  ∀ (lo up : Int → Option Int) (H' : Hp), Kx L U C H H' → PS K H' x N L U C ws nf lo up cl (b + i + 1) → Mt ws (S ++ [v]) lo up → H' C = H C → GwR cf lo0 up0 l lo up → lo v ≠ none → Q .non H'
abbrev N_Pairing_give_way : List Str := ["self", "free", "came_from", "lower", "upper", "given_up"]
def t_Pairing_give_way_body (K : PySem.W.Frag) : TS := (tSeq (tAsg (tDGet (tVar 2) (tVar 3)) (gName 4))
    (tSeq (tAsg (tDGet1 (tFld K (tVar 0) "lower_of") (tVar 4)) (gName 5))
    (tSeq (sDPut (tFld K (tVar 0) "lower_of") (tVar 4) (tVar 3))
    (tSeq (sDPut (tFld K (tVar 0) "upper_of") (tVar 3) (tVar 4))
    (tAsg (tVar 5) (gName 3))))))
def t_Pairing_give_way (K : PySem.W.Frag) : TS := (tSeq (tAsg (tVar 1) (gName 3))
    (tWhile (tTest (tOp fNotN (tVar 3) (tC .non))) (t_Pairing_give_way_body K)))
/-- the index that a loop's next one stands at -/
theorem len_Pairing_give_way {K : PySem.W.Frag} {vs : List V} {H : Hp} {Q : VK} {E : XK} (h : sp_Pairing_give_way K vs H Q E) : vs.length = 3 := by
  obtain ⟨_, _, _, _, _, _, _, _, _, _, _, _, _, _, _, _, _, rfl, _⟩ := h
  rfl
/-- where an int stands in cf -/
def ixOf (cf : List (Int × Int)) (v : V) : Nat := match v with
  | .int l => (cf.map (·.1)).idxOf l + 1
  | _ => 0
theorem ix_at {cf : List (Int × Int)} (nd : (cf.map (·.1)).Nodup) {i : Nat} {l u : Int} (h : cf[i]? = some (l, u)) : ixOf cf (.int l) = i + 1 := by
  show (cf.map (·.1)).idxOf l + 1 = i + 1
  obtain ⟨hi, e⟩ := List.getElem?_eq_some_iff.mp h
  have m : l ∈ cf.map (·.1) := List.mem_map.mpr ⟨(l, u), List.mem_of_getElem? h, rfl⟩
  have hlt := List.idxOf_lt_length_of_mem m
  have e2 : (cf.map (·.1))[(cf.map (·.1)).idxOf l] = l := List.getElem_idxOf hlt
  have hlt2 : (cf.map (·.1)).idxOf l < cf.length := by rw [List.length_map] at hlt; exact hlt
  rw [List.getElem_map] at e2
  have := cf_inj nd (i := (cf.map (·.1)).idxOf l) (j := i) (l := l) (u := (cf[(cf.map (·.1)).idxOf l]).2) (u' := u) (List.getElem?_eq_some_iff.mpr ⟨hlt2, Prod.ext e2 rfl⟩) h
  omega
def slotV (i : Nat) (σ : L2.St) : V := (σ.getD i none).getD .non
theorem pure_Pairing_give_way {K : PySem.W.Frag} {vs : List V} {H : Hp} {Q : VK} {E : XK} (h : sp_Pairing_give_way K vs H Q E) : t_Pairing_give_way K { nx := fun _ H' => Q .non H', rt := Q } (start N_Pairing_give_way vs) H := by
  obtain ⟨x, N, L, U, C, cA, ws, S, v, l0, cf, nf, cl, lo0, up0, b, i0, rfl, pc, ps, m0, c, hv, g0, hA, nL, nU, nC, hb, k⟩ := h
  refine ⟨_, rfl, ?_⟩
  show tWhile _ (t_Pairing_give_way_body K) _ [some (.ref x), some (.int l0), some (.ref cA), some (.int l0), none, none] H
  obtain ⟨ne1, ne2, ne3, ne4, ne5, ne6⟩ := id ps.ne
  refine while_by (fun σ H' => ∃ (y z4 z5 : Option V) (i : Nat), σ = [some (.ref x), some (.int l0), some (.ref cA), y, z4, z5] ∧ Kx L U C H H' ∧ H' C = H C ∧ i ≤ i0 ∧
      ((∃ (l : Int) (lo up : Int → Option Int), y = some (.int l) ∧ PS K H' x N L U C ws nf lo up cl (b + (i0 - i)) ∧ Gw ws S v cf lo0 lo up i l ∧ ∀ a b, GwR cf lo up l a b → GwR cf lo0 up0 l0 a b) ∨ (y = some .non ∧ ∃ lo up, PS K H' x N L U C ws nf lo up cl (b + i0 + 1) ∧ Mt ws (S ++ [v]) lo up ∧ GwR cf lo0 up0 l0 lo up ∧ lo v ≠ none)))
    (fun σ _ => ixOf cf (slotV 3 σ)) ⟨_, none, none, i0, rfl, .refl, rfl, Nat.le_refl _, .inl ⟨l0, lo0, up0, rfl, ps.le (by omega), g0, fun _ _ z => z⟩⟩ ?_ (fun σ H Q Q' f h => by
    obtain ⟨v, e, r, b, e3, q⟩ := h
    exact ⟨v, e, r, b, e3, f _ _ q⟩)
  rintro σ H1 ⟨y, z4, z5, i, rfl, k1, kC, hi, h⟩
  rcases h with ⟨l, lo, up, rfl, p, g, tr⟩ | ⟨rfl, lo, up, p, m, gr, hvv⟩
  · obtain ⟨u, hu⟩ := g.at_
    refine ⟨_, rfl, rfl, _, rfl, iteT ?_⟩
    have hA1 := k1 _ _ hA nL nU nC
    refine ⟨_, rfl, _, rfl, cA, .int u, rfl, .inl ⟨_, _, .inl hA1, rfl, (kv_val c.nd hu).symm⟩, ?_⟩
    obtain ⟨lk, gL, lL, vL⟩ := p.hL
    obtain ⟨uk, gU, lU, vU⟩ := p.hU
    obtain ⟨dx, fs, hx, f1, f2, f3, f4, f5⟩ := p.po
    refine ⟨_, rfl, x, _, dx, fs, _, rfl, hx, pc.cl, pc.n2, f2, L, rfl, .inl ⟨_, .inl gL⟩, _, rfl, _, .inl ⟨_, .inl u, .inl gL, rfl, rfl⟩, ?_⟩
    rw [vL u]
    refine ⟨_, rfl, _, rfl, x, _, dx, fs, _, rfl, hx, pc.cl, pc.n2, f2, _, rfl, L, _, rfl, .inl ⟨_, .inl u, gL, rfl, Nat.lt_of_le_of_lt (show lk.length ≤ 2000000 by omega) (by decide), rfl⟩, ?_⟩
    have k2 : Kx L U C H1 (upd H1 L (.dK (putK lk (.inl u) (.int l)))) := Kx.refl.up (.inl rfl)
    have hU2 : upd H1 L (.dK (putK lk (.inl u) (.int l))) U = some (.dK uk) := updN (fun z => ne1 z.symm) gU
    have hx2 : upd H1 L (.dK (putK lk (.inl u) (.int l))) x = some (.ins (He.ga K "Pairing") dx fs) := updN (ne_of hx gL (by intro z; cases z)) hx
    refine ⟨_, rfl, _, rfl, x, _, dx, fs, _, rfl, hx2, pc.cl, pc.n3, f3, _, rfl, U, _, rfl, .inl ⟨_, .inl l, hU2, rfl, Nat.lt_of_le_of_lt (show uk.length ≤ 2000000 by omega) (by decide), rfl⟩, ?_⟩
    have k3 : Kx L U C H1 (upd (upd H1 L (.dK (putK lk (.inl u) (.int l)))) U (.dK (putK uk (.inl l) (.int u)))) := k2.up (.inr (.inl rfl))
    generalize hH3 : upd (upd H1 L (.dK (putK lk (.inl u) (.int l)))) U (.dK (putK uk (.inl l) (.int u))) = H3 at k3 ⊢
    have p3 : PS K H3 x N L U C ws nf (setM lo u l) (setM up l u) cl (b + (i0 - i) + 1) := by
      obtain ⟨ck, gC, lC, vC⟩ := p.hC
      obtain ⟨nk, gN, near⟩ := p.hN
      refine ⟨⟨dx, fs, k3 _ _ hx (ne_of hx gL (by intro z; cases z)) (ne_of hx gU (by intro z; cases z)) (ne_of hx gC (by intro z; cases z)), f1, f2, f3, f4, f5⟩, ⟨putK lk (.inl u) (.int l), ?_, ?_, map_setM vL⟩, ⟨putK uk (.inl l) (.int u), ?_, ?_, map_setM vU⟩, ⟨ck, ?_, by omega, vC⟩, ⟨nk, k3 _ _ gN ne4 ne5 ne6, fun w hw => ?_⟩, ps.ne⟩
      · rw [← hH3]
        exact updN ne1 updS
      · have := length_putK lk (.inl u : Key) (.int l)
        omega
      · rw [← hH3]
        exact updS
      · have := length_putK uk (.inl l : Key) (.int u)
        omega
      · rw [← hH3]
        exact updN (fun z => ne3 z.symm) (updN (fun z => ne2 z.symm) gC)
      · obtain ⟨q, h1, h2, h3⟩ := near w hw
        exact ⟨q, h1, k3 _ _ h2 (ne_of h2 gL (by intro z; cases z)) (ne_of h2 gU (by intro z; cases z)) (ne_of h2 gC (by intro z; cases z)), h3⟩
    have kC3 : H3 C = H C := by
      rw [← hH3, upd_ne (fun z => ne3 z.symm), upd_ne (fun z => ne2 z.symm)]
      exact kC
    refine ⟨_, rfl, ?_⟩
    have mu : ixOf cf (.int l) = i + 1 := ix_at c.nd hu
    rcases g.step2 m0 c hv hu with ⟨hn, mt, euv⟩ | ⟨j, l', hj, hs, g'⟩
    · rw [hn]
      refine ⟨⟨_, _, _, i, rfl, k1.trans k3, kC3, hi, .inr ⟨rfl, _, _, p3.le (by omega), mt, tr _ _ (.done hu hn), by rw [euv, setM_eq]; exact fun z => nomatch z⟩⟩, ?_⟩
      show (0 : Nat) < ixOf cf (.int l)
      omega
    · rw [hs]
      obtain ⟨u', hu'⟩ := g'.at_
      refine ⟨⟨_, _, _, j, rfl, k1.trans k3, kC3, by omega, .inl ⟨l', _, _, rfl, p3.le (by omega), g', fun a b z => tr a b (.next hu hs z)⟩⟩, ?_⟩
      show ixOf cf (.int l') < ixOf cf (.int l)
      rw [ix_at c.nd hu', mu]
      omega
  · refine ⟨_, rfl, rfl, _, rfl, iteF ?_⟩
    exact k lo up H1 k1 p m kC gr hvv
end Fw

set_option Elab.async false
set_option linter.all false
set_option maxRecDepth 100000
set_option maxHeartbeats 4000000
namespace Fw
open PySem L2 RZ RT
def sp_Pairing_pair (K : PySem.W.Frag) : Sp := fun vs H Q _ => ∃ (x N L U C : Addr) (ws S : List Int) (v : Int) (nf : Int → List Int) (cl : Int → Bool) (lo up : Int → Option Int) (b : Nat), vs = [.ref x, .int v] ∧ PairC K ∧ PS K H x N L U C ws nf lo up cl b ∧ Mt ws S lo up ∧ v ∈ ws ∧ v ∉ S ∧ (∀ u ∈ S, u ∈ ws) ∧ ws.length ≤ 1000 ∧ b < 900000 ∧
  ∀ (lo' up' : Int → Option Int) (cl' : Int → Bool) (H' : Hp), Kx L U C H H' → PS K H' x N L U C ws nf lo' up' cl' (b + ws.length + 1) → Mt ws (S ++ [v]) lo' up' → PairR nf lo up cl v lo' up' cl' → Q .non H'
abbrev N_Pairing_pair : List Str := ["self", "version", "came_from", "waiting", "upper", "lower"]
def t_Pairing_pair_new (K : PySem.W.Frag) : TS := tCont
def t_Pairing_pair_push (K : PySem.W.Frag) : TS := (tDrop (tBM K "list" rAppend (tVar 3) (tCons (tDGet (tFld K (tVar 0) "upper_of") (tVar 5)) tNil)))
def t_Pairing_pair_for (K : PySem.W.Frag) : TS := (tFor (iList K (tDGet (tFld K (tVar 0) "near") (tVar 4))) (gName 5) (tSeq (tIfS (tOr (tB (tDIn (tVar 5) (tVar 2))) (tB (tDIn (tVar 5) (tFld K (tVar 0) "closed")))) (t_Pairing_pair_new K) tNext)
    (tSeq (sDPut (tVar 2) (tVar 5) (tVar 4))
    (tSeq (tIfS (tB (tDNotIn (tVar 5) (tFld K (tVar 0) "upper_of"))) (tSeq (tDrop (tMeth (He.ga K "Pairing") "give_way" (sp_Pairing_give_way K) [] E0 (tVar 0) (tCons (tVar 5) (tCons (tVar 2) tNil))))
    tRetN) tNext)
    (t_Pairing_pair_push K)))))
def t_Pairing_pair_body (K : PySem.W.Frag) : TS := (tSeq (tAsg (tBM0 K "list" rPop (tVar 3)) (gName 4))
    (t_Pairing_pair_for K))
def t_Pairing_pair_end (K : PySem.W.Frag) : TS := (tDrop (tBM K "dict" rUpdate (tFld K (tVar 0) "closed") (tCons (tVar 2) tNil)))
def t_Pairing_pair (K : PySem.W.Frag) : TS := (tSeq (tAsg tDNewK (gName 2))
    (tSeq (tAsg (tLst (tCons (tVar 1) tNil)) (gName 3))
    (tSeq (tWhile (tTru K (tVar 3)) (t_Pairing_pair_body K))
    (t_Pairing_pair_end K))))
theorem len_Pairing_pair {K : PySem.W.Frag} {vs : List V} {H : Hp} {Q : VK} {E : XK} (h : sp_Pairing_pair K vs H Q E) : vs.length = 2 := by
  obtain ⟨_, _, _, _, _, _, _, _, _, _, _, _, _, rfl, _⟩ := h
  rfl
theorem kv_some {l : Int} : ∀ {cf : List (Int × Int)}, (valV (kvOf cf) (.inl l)).isSome = inK cf l
  | [] => rfl
  | e :: cf => by
    have ih := kv_some (l := l) (cf := cf)
    show (valV ((Sum.inl e.1, V.int e.2) :: kvOf cf) (.inl l)).isSome = ((e.1 :: cf.map (·.1)).contains l)
    by_cases q : e.1 = l
    · unfold valV
      rw [List.find?_cons_of_pos (by simp [q]), q, List.contains_cons]
      simp
    · unfold valV at ih ⊢
      rw [List.find?_cons_of_neg (by simp [q]), ih, List.contains_cons]
      have : (l == e.1) = false := by simp; exact fun z => q z.symm
      rw [this, Bool.false_or]
      rfl
theorem val_merge {k : Key} : ∀ (ys xs : List (Key × V)), (valV (mergeK xs ys) k).isSome = ((valV ys k).isSome || (valV xs k).isSome)
  | [], xs => rfl
  | (a, v) :: ys, xs => by
    have ih := val_merge (k := k) ys (putK xs a v)
    show (valV (mergeK (putK xs a v) ys) k).isSome = _
    rw [ih, valV_put]
    by_cases q : k = a
    · subst q
      rw [if_pos rfl]
      have : valV ((k, v) :: ys) k = some v := by
        unfold valV
        rw [List.find?_cons_of_pos (by simp)]
        rfl
      rw [this]
      exact Bool.or_true _
    · rw [if_neg q]
      have : valV ((a, v) :: ys) k = valV ys k := by
        unfold valV
        rw [List.find?_cons_of_neg (by simp; exact fun z => q z.symm)]
      rw [this]
/-- the search's state: what stood stands, came_from and waiting are new -/
structure Se (H : Hp) (cA W : Addr) (ws : List Int) (v : Int) (nf : Int → List Int) (lo up : Int → Option Int) (cl : Int → Bool) (cf : List (Int × Int)) (wt : List Int) (cur : Option (Int × List Int)) (H' : Hp) : Prop where
  k : Same H H'
  hA : H' cA = some (.dK (kvOf cf))
  hW : H' W = some (.lst (wt.map V.int))
  c : Cf ws v lo cf
  n : wt.length ≤ cf.length + 1
  st : Star (stp nf up cl) ([], [v], none) (cf, wt, cur)
  w : ∀ u ∈ wt, u ∈ ws ∧ (u = v ∨ ∃ (j : Nat) (l' u' : Int), cf[j]? = some (l', u') ∧ lo u = some l')
theorem Same.updF {H H' : Hp} {q : Addr} {o : HO} (s : Same H H') (n : H q = none) : Same H (upd H' q o) := fun b u e => updN (ne_of_none e n) (s b u e)
def muP (n : Nat) (cA W : Addr) (H : Hp) : Nat := (match H cA with | some (.dK k) => 2 * (n - k.length) | _ => 0) + (match H W with | some (.lst xs) => xs.length | _ => 0)
theorem mu_eq {n : Nat} {cA W : Addr} {H : Hp} {cf : List (Int × Int)} {wt : List Int} (h1 : H cA = some (.dK (kvOf cf))) (h2 : H W = some (.lst (wt.map V.int))) : muP n cA W H = 2 * (n - cf.length) + wt.length := by
  unfold muP
  rw [h1, h2]
  show 2 * (n - (kvOf cf).length) + (wt.map V.int).length = _
  rw [kv_len, List.length_map]
section
variable {K : PySem.W.Frag} {vs : List V} {H : Hp} {Q : VK} {E : XK}
theorem pure_Pairing_pair (h : sp_Pairing_pair K vs H Q E) : t_Pairing_pair K { nx := fun _ H' => Q .non H', rt := Q } (start N_Pairing_pair vs) H := by
  obtain ⟨x, N, L, U, C, ws, S, v, nf, cl, lo, up, b, rfl, pc, ps, m, hvw, hvS, hS, hn, hb, k⟩ := h
  obtain ⟨ne1, ne2, ne3, ne4, ne5, ne6⟩ := id ps.ne
  obtain ⟨dx, fs, hx, f1, f2, f3, f4, f5, f6, f7, f8⟩ := id ps.po
  obtain ⟨lk, gL, lL, vL⟩ := id ps.hL
  obtain ⟨uk, gU, lU, vU⟩ := id ps.hU
  obtain ⟨ck, gC, lC, vC⟩ := id ps.hC
  obtain ⟨nk, gN, near⟩ := id ps.hN
  have hv : lo v = none := by
    cases e : lo v with
    | none => rfl
    | some l => exact absurd (m.dom v l e).1 hvS
  intro cA nA
  refine ⟨_, rfl, by show (1 : Nat) ≤ sizeLine; decide, fun W nW => ?_⟩
  have nWA : cA ≠ W := ne_of_none updS nW
  have nW0 : H W = none := by
    rw [upd_ne (fun z => nWA z.symm)] at nW
    exact nW
  have aC : C ≠ cA := ne_of_none gC nA
  have s0 : Se H cA W ws v nf lo up cl [] [v] none (upd (upd H cA (.dK [])) W (.lst [.int v])) := ⟨Same.updF (Same.updF (Same.refl _) nA) nW0, updN nWA updS, updS, ⟨.nil, fun i l u e => by cases e⟩, Nat.le_refl _, .refl, fun u hu => ⟨by rw [List.mem_singleton.mp hu]; exact hvw, .inl (List.mem_singleton.mp hu)⟩⟩
  show tSeq (tWhile _ (t_Pairing_pair_body K)) _ _ [some (.ref x), some (.int v), some (.ref cA), some (.ref W), none, none] _
  refine while_by (fun σ H' => ∃ (cf : List (Int × Int)) (wt : List Int) (z4 z5 : Option V), σ = [some (.ref x), some (.int v), some (.ref cA), some (.ref W), z4, z5] ∧ Se H cA W ws v nf lo up cl cf wt none H') (fun _ H' => muP ws.length cA W H') ⟨[], [v], none, none, rfl, s0⟩ ?_ (fun σ H Q Q' f h => by
    obtain ⟨v, e, k, e3, q⟩ := h
    exact ⟨v, e, k, e3, f _ _ q⟩)
  rintro σ H1 ⟨cf, wt, z4, z5, rfl, s⟩
  refine ⟨_, rfl, _, .inl ⟨_, sqL s.hW, rfl⟩, ?_⟩
  cases hwt : wt with
  | nil =>
    subst hwt
    refine iteF ?_
    -- closed.update(came_from)
    have few := s.c.few
    refine ⟨_, rfl, x, _, dx, fs, _, rfl, s.k _ _ hx, pc.cl, pc.n4, f4, .inr (.inr (.inl ⟨rfl, .inl ⟨_, s.k _ _ gC⟩⟩)), _, rfl, C, cA, ck, kvOf cf, rfl, rfl, aC, s.k _ _ gC, s.hA, ?_, ?_⟩
    · rw [kv_len]
      exact Nat.le_trans (show ck.length + cf.length ≤ 1000000 by omega) (by decide)
    have k3 : Kx L U C H (upd H1 C (.dK (mergeK ck (kvOf cf)))) := (Kx.same s.k).up (.inr (.inr rfl))
    refine k lo up (fun k => cl k || inK cf k) _ k3 ?_ ⟨m.inv, fun u l e => by obtain ⟨q1, q2, q3⟩ := m.dom u l e; exact ⟨List.mem_append_left _ q1, q2, q3⟩⟩ (.inr ⟨cf, s.st, rfl, rfl, rfl⟩)
    refine ⟨⟨dx, fs, updN (ne_of hx gC (by intro z; cases z)) (s.k _ _ hx), f1, f2, f3, f4, f5, f6, f7, f8⟩, ⟨lk, updN ne2 (s.k _ _ gL), by omega, vL⟩, ⟨uk, updN ne3 (s.k _ _ gU), by omega, vU⟩, ⟨_, updS, ?_, fun j => ?_⟩, ⟨nk, updN ne6 (s.k _ _ gN), fun w hw => ?_⟩, ps.ne⟩
    · have := length_mergeK (kvOf cf) ck
      rw [kv_len] at this
      omega
    · rw [val_merge, ← vC j, kv_some, Bool.or_comm]
    · obtain ⟨q, h1, h2, h3⟩ := near w hw
      exact ⟨q, h1, updN (ne_of h2 gC (by intro z; cases z)) (s.k _ _ h2), h3⟩
  | cons w0 wr =>
    -- upper = waiting.pop()
    obtain ⟨wt', up1, hsplit⟩ : ∃ wt' up1, wt = wt' ++ [up1] := by
      rw [hwt]
      exact ⟨(w0 :: wr).dropLast, (w0 :: wr).getLast (by simp), (List.dropLast_concat_getLast (by simp)).symm⟩
    rw [← hwt]
    clear hwt w0 wr
    subst hsplit
    have tr : (!((wt' ++ [up1]).map V.int).isEmpty) = true := by
      cases wt' <;> rfl
    rw [tr]
    refine iteT ?_
    refine ⟨_, rfl, .inl ⟨rfl, _, sqL s.hW⟩, W, _, .int up1, rfl, rfl, s.hW, ?_, ?_⟩
    · rw [List.map_append, List.length_append]
      show (wt'.map V.int ++ [V.int up1])[(wt'.map V.int).length + 1 - 1]? = _
      rw [Nat.add_sub_cancel, List.getElem?_append_right (Nat.le_refl _), Nat.sub_self]
      rfl
    have edl : ((wt' ++ [up1]).map V.int).dropLast = wt'.map V.int := by
      rw [List.map_append, List.map_singleton, List.dropLast_concat]
    rw [edl]
    obtain ⟨uw, uok⟩ := s.w up1 (List.mem_append_right _ (List.mem_singleton.mpr rfl))
    obtain ⟨la, n1, n2, n3, n4⟩ := near up1 uw
    have pop : stp nf up cl (cf, wt' ++ [up1], none) = some (cf, wt', some (up1, nf up1)) := by
      rw [stp_none, List.getLast?_concat, List.dropLast_concat]
    have mu0 := mu_eq (n := ws.length) s.hA s.hW
    have s1 : Se H cA W ws v nf lo up cl cf wt' (some (up1, nf up1)) (upd H1 W (.lst (wt'.map V.int))) := ⟨Same.updF s.k nW0, updN nWA s.hA, updS, s.c, (by have := s.n; rw [List.length_append, List.length_singleton] at this; omega), s.st.snoc pop, fun u hu => s.w u (List.mem_append_left _ hu)⟩
    show t_Pairing_pair_for K _ [some (.ref x), some (.int v), some (.ref cA), some (.ref W), some (.int up1), z5] _
    refine ⟨_, rfl, x, _, dx, fs, _, rfl, s1.k _ _ hx, pc.cl, pc.n1, f1, _, rfl, N, .ref la, rfl, .inl ⟨nk, .inl up1, .inl (s1.k _ _ gN), rfl, n1.symm⟩, la, rfl, ⟨_, sqL (s1.k _ _ n2)⟩, ?_⟩
    refine for_list (K := K) (a := la) (xs := (nf up1).map V.int) (fun i σ H' => ∃ (cf' : List (Int × Int)) (wt2 : List Int) (z5 : Option V), σ = [some (.ref x), some (.int v), some (.ref cA), some (.ref W), some (.int up1), z5] ∧ Se H cA W ws v nf lo up cl cf' wt2 (some (up1, (nf up1).drop i)) H' ∧ cf.length ≤ cf'.length ∧ wt2.length + cf.length = wt'.length + cf'.length ∧ (up1 = v ∨ ∃ (j : Nat) (l' u' : Int), cf'[j]? = some (l', u') ∧ lo up1 = some l')) ⟨cf, wt', z5, rfl, s1, Nat.le_refl _, rfl, uok⟩ (fun i σ H' _ ⟨_, _, _, _, s2, _⟩ => sqL (s2.k _ _ n2)) ?_ ?_
    · rintro i y σ H2 hy ⟨cf2, wt2, z5, rfl, s2, c1, c2, uok2⟩
      rw [List.getElem?_map] at hy
      cases en : (nf up1)[i]? with
      | none => rw [en] at hy; cases hy
      | some l =>
        rw [en] at hy
        cases Option.some.inj hy
        obtain ⟨lw, lu⟩ := n4 l (List.mem_of_getElem? en)
        have edr : (nf up1).drop i = l :: (nf up1).drop (i + 1) := by
          obtain ⟨hi, ei⟩ := List.getElem?_eq_some_iff.mp en
          rw [List.drop_eq_getElem_cons hi, ei]
        have s2 : Se H cA W ws v nf lo up cl cf2 wt2 (some (up1, l :: (nf up1).drop (i + 1))) H2 := by rw [← edr]; exact s2
        have skip : (inK cf2 l || cl l) = true → Se H cA W ws v nf lo up cl cf2 wt2 (some (up1, (nf up1).drop (i + 1))) H2 := fun q => ⟨s2.k, s2.hA, s2.hW, s2.c, s2.n, s2.st.snoc (by rw [stp_cons, if_pos q]), s2.w⟩
        -- lower in came_from
        refine ⟨_, rfl, _, rfl, cA, _, rfl, .inl ⟨_, .inl l, .inl s2.hA, rfl, rfl⟩, _, rfl, ?_⟩
        cases ec : valV (kvOf cf2) (.inl l) with
        | some _ => exact iteT (iteT ⟨cf2, wt2, _, rfl, skip (by rw [← kv_some, ec]; rfl), c1, c2, uok2⟩)
        | none =>
        refine iteF ?_
        refine ⟨_, rfl, _, rfl, x, _, dx, fs, _, rfl, s2.k _ _ hx, pc.cl, pc.n4, f4, C, _, rfl, .inl ⟨_, .inl l, .inl (s2.k _ _ gC), rfl, rfl⟩, _, rfl, ?_⟩
        cases ecl : valV ck (.inl l) with
        | some _ => exact iteT ⟨cf2, wt2, _, rfl, skip (by rw [← vC l, ecl]; exact Bool.or_true _), c1, c2, uok2⟩
        | none =>
        refine iteF ?_
        have new0 : (inK cf2 l || cl l) = false := by rw [← kv_some, ec, ← vC l, ecl]; rfl
        -- came_from[lower] = upper
        have cn : Cf ws v lo (cf2 ++ [(l, up1)]) := s2.c.snoc lw uw lu (kv_none ec) uok2
        have few := cn.few
        rw [List.length_append] at few
        have few : cf2.length + 1 ≤ ws.length := few
        refine ⟨_, rfl, _, rfl, _, rfl, cA, _, rfl, .inl ⟨_, .inl l, s2.hA, rfl, ?_, rfl⟩, ?_⟩
        · rw [kv_len]
          exact Nat.lt_of_le_of_lt (show cf2.length ≤ 2000 by omega) (by decide)
        rw [kv_put ec]
        have last : (cf2 ++ [(l, up1)])[cf2.length]? = some (l, up1) := by rw [List.getElem?_append_right (Nat.le_refl _), Nat.sub_self]; rfl
        have lift : ∀ {j : Nat} {z : Int × Int}, cf2[j]? = some z → (cf2 ++ [(l, up1)])[j]? = some z := fun {j z} q => by
          rw [List.getElem?_append_left (List.getElem?_eq_some_iff.mp q).1]
          exact q
        have s3k : Same H (upd H2 cA (.dK (kvOf (cf2 ++ [(l, up1)])))) := Same.updF s2.k nA
        -- lower not in upper_of
        refine ⟨_, rfl, _, rfl, x, _, dx, fs, _, rfl, s3k _ _ hx, pc.cl, pc.n3, f3, U, _, rfl, .inl ⟨_, .inl l, .inl (s3k _ _ gU), rfl, rfl⟩, _, rfl, ?_⟩
        rw [vU l]
        cases eu : up l with
        | none =>
          refine iteT ?_
          have p3 : PS K (upd H2 cA (.dK (kvOf (cf2 ++ [(l, up1)])))) x N L U C ws nf lo up cl b := ps.same s3k
          refine ⟨_, rfl, x, dx, fs, rfl, s3k _ _ hx, f6, _, rfl, _, rfl, x, N, L, U, C, cA, ws, S, v, l, cf2 ++ [(l, up1)], nf, cl, lo, up, b, cf2.length, rfl, pc, p3, m, cn, hv, Gw.start m last eu, updS, (ne_of_none gL nA).symm, (ne_of_none gU nA).symm, aC.symm, by omega, fun lo' up' H4 k4 p4 m4 e4 gr hvv => ?_⟩
          exact k lo' up' cl H4 ((Kx.same s3k).trans k4) (p4.le (by omega)) m4 (.inl ⟨cf2, wt2, up1, l, _, s2.st, new0, eu, s2.c.nd, gr, rfl, hvv⟩)
        | some u2 =>
          refine iteF ?_
          -- waiting.append(upper_of[lower])
          have hlo := (m.inv u2 l).mpr eu
          obtain ⟨u2S, _, _⟩ := m.dom u2 l hlo
          have hW3 : upd H2 cA (.dK (kvOf (cf2 ++ [(l, up1)]))) W = some (.lst (wt2.map V.int)) := updN (fun z => nWA z.symm) s2.hW
          refine ⟨_, rfl, .inl ⟨rfl, _, sqL hW3⟩, _, rfl, x, _, dx, fs, _, rfl, s3k _ _ hx, pc.cl, pc.n3, f3, _, rfl, U, .int u2, rfl, .inl ⟨uk, .inl l, .inl (s3k _ _ gU), rfl, by rw [vU l, eu]; rfl⟩, W, _, _, rfl, rfl, hW3, ?_, ?_⟩
          · rw [List.length_map]
            exact Nat.lt_of_le_of_lt (show wt2.length ≤ 100000 by have := s2.n; omega) (by decide)
          refine ⟨cf2 ++ [(l, up1)], wt2 ++ [u2], _, rfl, ⟨Same.updF s3k nW0, updN nWA updS, ?_, cn, (by have := s2.n; rw [List.length_append, List.length_append, List.length_singleton, List.length_singleton]; omega), s2.st.snoc (by rw [stp_cons, if_neg (by rw [new0]; exact Bool.false_ne_true), eu]), fun u hu => ?_⟩, ?_, ?_, ?_⟩
          · rw [updS, List.map_append]
            rfl
          · rcases List.mem_append.mp hu with hu | hu
            · obtain ⟨q1, q2⟩ := s2.w u hu
              refine ⟨q1, ?_⟩
              rcases q2 with q2 | ⟨j, l', u', q3, q4⟩
              · exact .inl q2
              · exact .inr ⟨j, l', u', lift q3, q4⟩
            · rw [List.mem_singleton.mp hu]
              exact ⟨hS u2 u2S, .inr ⟨cf2.length, l, up1, last, hlo⟩⟩
          · rw [List.length_append]
            omega
          · rw [List.length_append, List.length_append]
            show wt2.length + 1 + cf.length = wt'.length + (cf2.length + 1)
            omega
          · rcases uok2 with q | ⟨j, l', u', q3, q4⟩
            · exact .inl q
            · exact .inr ⟨j, l', u', lift q3, q4⟩
    · rintro σ H2 ⟨cf2, wt2, z5, rfl, s2, c1, c2, _⟩
      have edr : (nf up1).drop ((nf up1).map V.int).length = [] := by rw [List.length_map, List.drop_length]
      rw [edr] at s2
      refine ⟨⟨cf2, wt2, _, z5, rfl, s2.k, s2.hA, s2.hW, s2.c, s2.n, s2.st.snoc rfl, s2.w⟩, ?_⟩
      show muP ws.length cA W H2 < muP ws.length cA W H1
      have few := s2.c.few
      rw [mu0, mu_eq s2.hA s2.hW, List.length_append, List.length_singleton]
      omega
end
end Fw

set_option Elab.async false
set_option linter.all false
set_option maxRecDepth 100000
set_option maxHeartbeats 4000000
namespace Fw
open PySem L2 RZ RT
/-- a dict comprehension over any walk -/
theorem dc_any {J : It} {n : Nat} {G : Hp → Prop} {Y : Nat → Hp → V → Hp → Prop} (wk : Walk J n G Y) {g : TG} {tt : TT} {tk tv : TE} {vs : List Nat} {σ : L2.St} {H1 : Hp} {D : Addr} {Qd : Hp → Prop} (Pv : Nat → Hp → Prop) (h0 : Pv 0 (upd H1 D (.dK []))) (hG : ∀ i H, i ≤ n → Pv i H → G H)
    (hs : ∀ i x H H', i < n → Pv i H → Y i H x H' → g x (wipe σ vs) H' fun σ2 H2 => wipe σ2 vs = wipe σ vs ∧ tt σ2 H2 fun b H3 =>
      if b = true then tk σ2 H3 fun y H4 => tv σ2 H4 fun z H5 => ∃ kvs k, y = kV k ∧ H5 D = some (.dK kvs) ∧ kvs.length < sizeLine ∧ Pv (i + 1) (upd H5 D (.dK (putK kvs k z))) else Pv (i + 1) H3) (hd : ∀ H, Pv n H → Qd H) :
    ∃ W : Nat → Nat → Hp → Prop, (∃ m, W 0 m (upd H1 D (.dK []))) ∧ ∀ i m H, W i m H →
      (J.stop i H ∧ Qd H) ∨ (J.go i H ∧ ∃ Nx : Hp → Prop, (∀ H', Nx H' → ∃ m', m' < m ∧ W (i + 1) m' H') ∧ ∀ x H', J.yld i H x H' → g x (wipe σ vs) H' fun σ2 H2 => wipe σ2 vs = wipe σ vs ∧ tt σ2 H2 fun b H3 =>
        if b = true then tk σ2 H3 fun y H4 => tv σ2 H4 fun z H5 => ∃ kvs k, y = kV k ∧ H5 D = some (.dK kvs) ∧ kvs.length < sizeLine ∧ Nx (upd H5 D (.dK (putK kvs k z))) else Nx H3) := by
  refine ⟨fun i m H => i ≤ n ∧ Pv i H ∧ m + i = n, ⟨n, Nat.zero_le _, h0, rfl⟩, ?_⟩
  rintro i m H ⟨hi, p, hm⟩
  have q := hG i H hi p
  by_cases hlt : i < n
  · refine .inr ⟨wk.goes i H hlt q, Pv (i + 1), fun H' p' => ⟨m - 1, by omega, hlt, p', by omega⟩, fun x H' y => hs i x H H' hlt p (wk.yields i H x H' hlt q y)⟩
  · have e : i = n := by omega
    subst e
    exact .inl ⟨wk.stops H q, hd H p⟩
/-- what is near, the greatest first -/
def nearF (ws : List Int) (f : Int → List Int) : Int → List Int := fun w => (ws.filter fun u => (f w).contains u).reverse
theorem mem_nearF {ws : List Int} {f : Int → List Int} {w u : Int} (h : u ∈ f w → u ∈ ws) : u ∈ nearF ws f w ↔ u ∈ f w := by
  unfold nearF
  rw [List.mem_reverse, List.mem_filter, List.contains_iff_mem]
  exact ⟨fun q => q.2, fun q => ⟨h q, q⟩⟩
theorem near_eq {ws : List Int} {f : Int → List Int} {w : Int} {ys : List Int} (inc : ws.Pairwise (· < ·)) (fnd : (f w).Nodup) (fok : ∀ u, u ∈ f w → u ∈ ws) (py : ys.Perm (f w)) (ord : OrdB true ys) : ys = nearF ws f w := by
  have p2 : ys.Perm (nearF ws f w) := by
    refine py.trans ((List.perm_ext_iff_of_nodup fnd ?_).mpr fun u => (mem_nearF (fok u)).symm)
    unfold nearF
    rw [List.Nodup, List.pairwise_reverse]
    exact ((rising_nodup inc).sublist List.filter_sublist).imp fun {a b} q z => q z.symm
  refine p2.eq_of_pairwise (le := (· ≥ ·)) (fun a b _ _ h1 h2 => ?_) ord ?_
  · have h1 : a ≥ b := h1
    have h2 : b ≥ a := h2
    omega
  · unfold nearF
    rw [List.pairwise_reverse]
    exact (inc.sublist List.filter_sublist).imp fun {a b} q => by
      have q : a < b := q
      show b ≥ a
      omega
def sp_Pairing_init (K : PySem.W.Frag) : Sp := fun vs H Q _ => ∃ (x dx Un : Addr) (ws : List Int) (as : List Addr) (f : Int → List Int), vs = [.ref x, .ref Un] ∧ PairC K ∧ H x = some (.ins (He.ga K "Pairing") dx []) ∧ UAt H Un ws as f ∧ ws.Nodup ∧ ws.length ≤ 1000 ∧ (∀ w, (f w).Nodup) ∧ (∀ w u, u ∈ f w → u ∈ ws ∧ u < w) ∧ ws.Pairwise (· < ·) ∧
  ∀ (N L U C : Addr) (H' : Hp), (∀ b o, H b = some o → b ≠ x → H' b = some o) → (H L = none ∧ H U = none ∧ H C = none) → PS K H' x N L U C ws (nearF ws f) (fun _ => none) (fun _ => none) (fun _ => false) 0 → Q .non H'
abbrev N_Pairing_init : List Str := ["self", "under", "version"]
def t_Pairing_init_rest (K : PySem.W.Frag) : TS := (tSeq (sFld K (tVar 0) tDNewK "lower_of")
    (tSeq (sFld K (tVar 0) tDNewK "upper_of")
    (sFld K (tVar 0) tDNewK "closed")))
def t_Pairing_init (K : PySem.W.Frag) : TS := (tSeq (sFld K (tVar 0) (tLockE (tDc (iKeys (tVar 1)) (gName 2) tYes (tVar 2) (tCKw (rSortDR true) (tCons (tDGet (tVar 1) (tVar 2)) tNil) (tCons (tC (.bl true)) tNil)) [2])) "near")
    (t_Pairing_init_rest K))
theorem len_Pairing_init {K : PySem.W.Frag} {vs : List V} {H : Hp} {Q : VK} {E : XK} (h : sp_Pairing_init K vs H Q E) : vs.length = 2 := by
  obtain ⟨_, _, _, _, _, _, rfl, _⟩ := h
  rfl
theorem putF_len (f : Str) (v : V) : ∀ fs : List (Str × V), (putF f v fs).length ≤ fs.length + 1
  | [] => Nat.le_refl _
  | (g, y) :: r => by
    unfold putF
    by_cases e : g = f
    · rw [if_pos e]
      exact Nat.le_succ _
    · rw [if_neg e]
      exact Nat.succ_le_succ (putF_len f v r)
theorem fld_new {F : Hp} {p x : Addr} {o' : HO} (np : F p = none) (hx : F x ≠ none) : (∀ b o, F b = some o → b ≠ x → upd (upd F p (.dK [])) x o' b = some o) ∧ upd (upd F p (.dK [])) x o' p = some (.dK []) ∧ upd (upd F p (.dK [])) x o' x = some o' :=
  ⟨fun b o hb nb => updN nb (updN (ne_of_none hb np) hb), updN (fun z => hx (by rw [← z]; exact np)) updS, updS⟩
theorem rows_take {ws : List Int} {bs : List Addr} {i : Nat} {w : Int} {q : Addr} (hb : bs.length = i) (hw : ws[i]? = some w) (nd : ws.Nodup) : putK (rowsKV (ws.take i) bs) (.inl w) (.ref q) = rowsKV (ws.take (i + 1)) (bs ++ [q]) := by
  have hi := List.getElem?_eq_some_iff.mp hw
  have nin : w ∉ ws.take i := fun hm => by
    obtain ⟨j, hj, e⟩ := List.getElem_of_mem hm
    rw [List.length_take] at hj
    rw [List.getElem_take] at e
    have : j = i := (List.getElem_inj nd).mp (e.trans hi.2.symm)
    omega
  rw [putK_new _ (rows_none nin), take_snoc hw]
  unfold rowsKV
  rw [List.zipWith_append (by have := hi.1; rw [List.length_take, hb]; omega)]
  rfl
section
variable {K : PySem.W.Frag} {vs : List V} {H : Hp} {Q : VK} {E : XK}
theorem pure_Pairing_init (h : sp_Pairing_init K vs H Q E) : t_Pairing_init K { nx := fun _ H' => Q .non H', rt := Q } (start N_Pairing_init vs) H := by
  obtain ⟨x, dx, Un, ws, as, f, rfl, pc, hx, ua, nd, hn, fnd, fok, inc, k⟩ := h
  have lrow : (rowsKV ws as).length = ws.length := rowsKV_length ua.len
  refine ⟨Un, _, ua.top, True.intro, fun od => ?_⟩
  have nxU : x ≠ Un := ne_of hx ua.top (by intro z; cases z)
  refine ⟨_, rfl, Un, od, rfl, .inl ⟨_, updS, fun N nN => ?_⟩⟩
  have nNU : Un ≠ N := ne_of_none updS nN
  have nN0 : H N = none := by
    rw [upd_ne (fun z => nNU z.symm)] at nN
    exact nN
  -- the heap with the dict locked
  refine dc_any walk_keys (fun i H' => ∃ bs : List Addr, bs.length = i ∧ H' Un = some (.frz od (.dK (rowsKV ws as))) ∧ H' N = some (.dK (rowsKV (ws.take i) bs)) ∧ (∀ b o, H b = some o → b ≠ Un → H' b = some o) ∧ ∀ (j : Nat) (w : Int) (q : Addr), ws[j]? = some w → bs[j]? = some q → H' q = some (.lst ((nearF ws f w).map V.int)) ∧ (nearF ws f w).length ≤ 1000 ∧ ∀ u ∈ nearF ws f w, u ∈ ws ∧ u < w) ⟨[], rfl, updN nNU updS, ?_, fun b o hb nb => updN (ne_of_none hb nN0) (updN nb hb), fun j w q _ e => by cases e⟩ (fun i H' _ ⟨_, _, e, _⟩ => e) ?_ ?_
  · exact updS
  · rintro i y H1 H2 hi ⟨bs, lb, hU1, hN1, keep, rows⟩ ⟨rfl, key, val, hkv, rfl⟩
    rw [lrow] at hi
    have hwi : ws[i]? = some ws[i] := List.getElem?_eq_getElem hi
    have hai : i < as.length := by rw [ua.len]; exact hi
    have ekv : (rowsKV ws as)[i]? = some (.inl ws[i], .ref as[i]) := by
      unfold rowsKV
      rw [List.getElem?_zipWith, hwi, List.getElem?_eq_getElem hai]
    rw [ekv] at hkv
    cases Option.some.inj hkv
    have ha : H as[i] = some (.dK (mkS (f ws[i]))) := ua.row i _ _ (List.getElem?_eq_getElem hai) hwi
    have nau : as[i] ≠ Un := fun z => ua.out (by rw [← z]; exact List.getElem_mem hai)
    have gv := rows_val nd hwi (List.getElem?_eq_getElem hai)
    refine ⟨rfl, _, rfl, _, rfl, _, rfl, Un, .ref as[i], rfl, .inl ⟨_, .inl ws[i], .inr ⟨od, hU1⟩, rfl, gv.symm⟩, as[i], mkS (f ws[i]), f ws[i], rfl, rfl, .inl (keep _ _ ha nau), mkS_keys _, fun ys q py ord nq => ?_⟩
    have ey := near_eq inc (fnd ws[i]) (fun u hu => (fok ws[i] u hu).1) py ord
    have few : ys.length ≤ 1000 := by
      rw [py.length_eq]
      exact Nat.le_trans (length_sub (fnd ws[i]) fun u hu => (fok ws[i] u hu).1) hn
    refine ⟨_, .inl ws[i], rfl, updN (ne_of_none hN1 nq) hN1, ?_, bs ++ [q], ?_, ?_, ?_, ?_, ?_⟩
    · rw [rowsKV_length (by rw [lb, List.length_take]; omega), List.length_take]
      exact Nat.lt_of_le_of_lt (show min i ws.length ≤ 1000 by omega) (by decide)
    · rw [List.length_append, lb]
      rfl
    · exact updN nNU (updN (ne_of_none hU1 nq) hU1)
    · rw [updS, rows_take lb hwi nd]
    · intro b o hb nb
      exact updN (ne_of_none hb nN0) (updN (ne_of_none (keep _ _ hb nb) nq) (keep _ _ hb nb))
    · intro j w r hj hr
      by_cases hjl : j < bs.length
      · rw [List.getElem?_append_left hjl] at hr
        obtain ⟨h1, h2⟩ := rows j w r hj hr
        exact ⟨updN (ne_of h1 hN1 (by intro z; cases z)) (updN (ne_of_none h1 nq) h1), h2⟩
      · have hj2 : j < (bs ++ [q]).length := (List.getElem?_eq_some_iff.mp hr).1
        rw [List.length_append, List.length_singleton] at hj2
        have ej : j = i := by omega
        subst ej
        rw [List.getElem?_append_right (by omega), lb, Nat.sub_self] at hr
        cases Option.some.inj hr
        rw [hwi] at hj
        cases Option.some.inj hj
        rw [← ey]
        refine ⟨updN (fun z => ?_) updS, few, fun u hu => fok _ u (py.mem_iff.mp hu)⟩
        rw [z, hN1] at nq
        cases nq
  · rintro H1 ⟨bs, lb, hU1, hN1, keep, rows⟩
    rw [lrow] at lb
    rw [lrow, List.take_length] at hN1
    refine ⟨hU1, ?_⟩
    have keep2 : ∀ b o, H b = some o → upd H1 Un (.dK (rowsKV ws as)) b = some o := fun b o hb => by
      by_cases e : b = Un
      · subst e
        rw [updS, ← ua.top, hb]
      · exact updN e (keep b o hb e)
    have hN2 : upd H1 Un (.dK (rowsKV ws as)) N = some (.dK (rowsKV ws bs)) := updN (fun z => nNU z.symm) hN1
    have rows2 : ∀ (j : Nat) (w : Int) (q : Addr), ws[j]? = some w → bs[j]? = some q → upd H1 Un (.dK (rowsKV ws as)) q = some (.lst ((nearF ws f w).map V.int)) ∧ (nearF ws f w).length ≤ 1000 ∧ ∀ u ∈ nearF ws f w, u ∈ ws ∧ u < w := fun j w q h1 h2 => by
      obtain ⟨g1, g2⟩ := rows j w q h1 h2
      exact ⟨updN (ne_of g1 hU1 (by intro z; cases z)) g1, g2⟩
    generalize upd H1 Un (.dK (rowsKV ws as)) = H2 at keep2 hN2 rows2 ⊢
    clear keep rows hN1 hU1
    have hx2 := keep2 _ _ hx
    refine ⟨_, rfl, x, _, dx, [], rfl, hx2, pc.cl, pc.n1, by decide, ?_⟩
    show t_Pairing_init_rest K { nx := fun _ H' => Q .non H', rt := Q } [some (.ref x), some (.ref Un), none] _
    have k3 : ∀ b o, H2 b = some o → b ≠ x → upd H2 x (.ins (He.ga K "Pairing") dx (putF "near" (.ref N) [])) b = some o := fun b o hb nb => updN nb hb
    have x3 : upd H2 x (.ins (He.ga K "Pairing") dx (putF "near" (.ref N) [])) x = some (.ins (He.ga K "Pairing") dx (putF "near" (.ref N) [])) := updS
    generalize upd H2 x (.ins (He.ga K "Pairing") dx (putF "near" (.ref N) [])) = H3 at k3 x3 ⊢
    intro L nL
    obtain ⟨k4, g4, x4⟩ := fld_new (x := x) (o' := .ins (He.ga K "Pairing") dx (putF "lower_of" (.ref L) (putF "near" (.ref N) []))) nL (by rw [x3]; intro z; cases z)
    refine ⟨_, rfl, x, _, dx, _, rfl, updN (ne_of_none x3 nL) x3, pc.cl, pc.n2, by show (1 : Nat) < 1000; decide, ?_⟩
    generalize upd (upd H3 L (.dK [])) x (.ins (He.ga K "Pairing") dx (putF "lower_of" (.ref L) (putF "near" (.ref N) []))) = H4 at k4 g4 x4 ⊢
    intro U nU
    obtain ⟨k5, g5, x5⟩ := fld_new (x := x) (o' := .ins (He.ga K "Pairing") dx (putF "upper_of" (.ref U) (putF "lower_of" (.ref L) (putF "near" (.ref N) [])))) nU (by rw [x4]; intro z; cases z)
    refine ⟨_, rfl, x, _, dx, _, rfl, updN (ne_of_none x4 nU) x4, pc.cl, pc.n3, ?_, ?_⟩
    · exact Nat.lt_of_le_of_lt (putF_len _ _ _) (by show (2 : Nat) < 1000; decide)
    generalize upd (upd H4 U (.dK [])) x (.ins (He.ga K "Pairing") dx (putF "upper_of" (.ref U) (putF "lower_of" (.ref L) (putF "near" (.ref N) [])))) = H5 at k5 g5 x5 ⊢
    intro C nC
    obtain ⟨k6, g6, x6⟩ := fld_new (x := x) (o' := .ins (He.ga K "Pairing") dx (putF "closed" (.ref C) (putF "upper_of" (.ref U) (putF "lower_of" (.ref L) (putF "near" (.ref N) []))))) nC (by rw [x5]; intro z; cases z)
    refine ⟨_, rfl, x, _, dx, _, rfl, updN (ne_of_none x5 nC) x5, pc.cl, pc.n4, ?_, ?_⟩
    · exact Nat.lt_of_le_of_lt (Nat.le_trans (putF_len _ _ _) (Nat.succ_le_succ (putF_len _ _ _))) (by show (3 : Nat) < 1000; decide)
    generalize upd (upd H5 C (.dK [])) x (.ins (He.ga K "Pairing") dx (putF "closed" (.ref C) (putF "upper_of" (.ref U) (putF "lower_of" (.ref L) (putF "near" (.ref N) []))))) = H6 at k6 g6 x6 ⊢
    have nLx : L ≠ x := fun z => by rw [z, x3] at nL; cases nL
    have nUx : U ≠ x := fun z => by rw [z, x4] at nU; cases nU
    have nNx : N ≠ x := ne_of hN2 hx2 (by intro z; cases z)
    have hN3 := k3 _ _ hN2 nNx
    have hN4 := k4 _ _ hN3 nNx
    have hN5 := k5 _ _ hN4 nNx
    have hL5 := k5 _ _ g4 nLx
    have all : ∀ b o, H2 b = some o → b ≠ x → H6 b = some o := fun b o hb nb => k6 _ _ (k5 _ _ (k4 _ _ (k3 _ _ hb nb) nb) nb) nb
    have nCx : C ≠ x := fun z => by rw [z, x5] at nC; cases nC
    have fr : H L = none ∧ H U = none ∧ H C = none := by
      refine ⟨?_, ?_, ?_⟩
      · cases e : H L with
        | none => rfl
        | some o => rw [k3 _ _ (keep2 _ _ e) nLx] at nL; cases nL
      · cases e : H U with
        | none => rfl
        | some o => rw [k4 _ _ (k3 _ _ (keep2 _ _ e) nUx) nUx] at nU; cases nU
      · cases e : H C with
        | none => rfl
        | some o => rw [k5 _ _ (k4 _ _ (k3 _ _ (keep2 _ _ e) nCx) nCx) nCx] at nC; cases nC
    refine k N L U C H6 (fun b o hb nb => all b o (keep2 b o hb) nb) fr ⟨⟨dx, _, x6, ?_, ?_, ?_, ?_, ?_, ?_, ?_, ?_⟩, ⟨[], k6 _ _ hL5 nLx, Nat.le_refl _, fun j => rfl⟩, ⟨[], k6 _ _ g5 nUx, Nat.le_refl _, fun j => rfl⟩, ⟨[], g6, Nat.le_refl _, fun j => rfl⟩, ⟨rowsKV ws bs, all _ _ hN2 nNx, fun w hw => ?_⟩, ⟨(ne_of_none g4 nU), (ne_of_none hL5 nC), (ne_of_none g5 nC), (ne_of_none hN3 nL), (ne_of_none hN4 nU), (ne_of_none hN5 nC)⟩⟩
    · rw [lookup_putF, if_neg (by decide +kernel), lookup_putF, if_neg (by decide +kernel), lookup_putF, if_neg (by decide +kernel), lookup_putF, if_pos rfl]
    · rw [lookup_putF, if_neg (by decide +kernel), lookup_putF, if_neg (by decide +kernel), lookup_putF, if_pos rfl]
    · rw [lookup_putF, if_neg (by decide +kernel), lookup_putF, if_pos rfl]
    · rw [lookup_putF, if_pos rfl]
    · rw [lookup_putF, if_neg (by decide +kernel), lookup_putF, if_neg (by decide +kernel), lookup_putF, if_neg (by decide +kernel), lookup_putF, if_neg (by decide +kernel)]; rfl
    · rw [lookup_putF, if_neg (by decide +kernel), lookup_putF, if_neg (by decide +kernel), lookup_putF, if_neg (by decide +kernel), lookup_putF, if_neg (by decide +kernel)]; rfl
    · rw [lookup_putF, if_neg (by decide +kernel), lookup_putF, if_neg (by decide +kernel), lookup_putF, if_neg (by decide +kernel), lookup_putF, if_neg (by decide +kernel)]; rfl
    · rw [lookup_putF, if_neg (by decide +kernel), lookup_putF, if_neg (by decide +kernel), lookup_putF, if_neg (by decide +kernel), lookup_putF, if_neg (by decide +kernel)]; rfl
    · obtain ⟨i, hi, e⟩ := List.getElem_of_mem hw
      have e1 : ws[i]? = some w := List.getElem?_eq_some_iff.mpr ⟨hi, e⟩
      have hib : i < bs.length := by omega
      have e2 : bs[i]? = some bs[i] := List.getElem?_eq_getElem hib
      obtain ⟨g1, g2, g3⟩ := rows2 i w _ e1 e2
      exact ⟨bs[i], rows_val nd e1 e2, all _ _ g1 (ne_of g1 hx2 (by intro z; cases z)), g2, g3⟩
end
end Fw

set_option Elab.async false
set_option linter.all false
set_option maxRecDepth 100000
set_option maxHeartbeats 4000000
namespace Fw
open PySem L2 RZ RT
def sp_Pairing_chain (K : PySem.W.Frag) : Sp := fun vs H Q _ => ∃ (x N L U C : Addr) (ws S : List Int) (v : Int) (nf : Int → List Int) (cl : Int → Bool) (lo up : Int → Option Int) (b : Nat), vs = [.ref x, .int v] ∧ PairC K ∧ PS K H x N L U C ws nf lo up cl b ∧ Mt ws S lo up ∧ v ∈ ws ∧ (∀ u ∈ S, u ∈ ws) ∧ ws.length ≤ 1000 ∧
  ∀ (r : Addr) (cs : List Int) (H' : Hp), Same H H' → H' r = some (.tup (cs.map V.int)) → ChainOf up v cs → Q (.ref r) H'
def sp_Pairing_stands_apart (K : PySem.W.Frag) : Sp := fun vs H Q _ => ∃ (x N L U C : Addr) (ws : List Int) (v : Int) (nf : Int → List Int) (cl : Int → Bool) (lo up : Int → Option Int) (b : Nat), vs = [.ref x, .int v] ∧ PairC K ∧ PS K H x N L U C ws nf lo up cl b ∧ Q (.bl (apB lo cl v)) H
/-- chains and those apart, as told -/
def CovAt (H : Hp) (r : Addr) (cs : List (List Int)) (ap : List Int) : Prop := ∃ (ta tb : Addr) (ca : List Addr), H r = some (.tup [.ref ta, .ref tb]) ∧ H ta = some (.tup (ca.map V.ref)) ∧ H tb = some (.tup (ap.map V.int)) ∧ ca.length = cs.length ∧ ∀ (i : Nat) (a : Addr) (c : List Int), ca[i]? = some a → cs[i]? = some c → H a = some (.tup (c.map V.int))
def sp_cover (K : PySem.W.Frag) : Sp := fun vs H Q _ => ∃ (p : Addr) (ws : List Int) (ls : List (Int × Int)), vs = [.ref p] ∧ PairC K ∧ ShapeAt H p ws ls ∧ Good ws ls ∧ ws.length ≤ 400 ∧ ls.length ≤ 10000 ∧
  ∀ (r : Addr) (H' : Hp) (cs : List (List Int)) (ap : List Int) (nf : Int → List Int) (lo up : Int → Option Int) (cl : Int → Bool), Same H H' → CovAt H' r cs ap → CoverIs ws ls cs ap nf lo up cl → Q (.ref r) H'
abbrev N_Pairing_chain : List Str := ["self", "first", "chain"]
def t_Pairing_chain (K : PySem.W.Frag) : TS := (tSeq (tAsg (tLst (tCons (tVar 1) tNil)) (gName 2))
    (tSeq (tWhile (tB (tDIn (tOp (rIx K) (tVar 2) (tUn rNegI (tC (.int 1)))) (tFld K (tVar 0) "upper_of"))) (tDrop (tBM K "list" rAppend (tVar 2) (tCons (tDGet (tFld K (tVar 0) "upper_of") (tOp (rIx K) (tVar 2) (tUn rNegI (tC (.int 1))))) tNil))))
    (tRet (tCB (fTupleOf K) (tCons (tVar 2) tNil)))))
abbrev N_Pairing_stands_apart : List Str := ["self", "version"]
def t_Pairing_stands_apart (K : PySem.W.Frag) : TS := (tSeq (tIfS (tB (tDIn (tVar 1) (tFld K (tVar 0) "closed"))) (tRet (tC (.bl false))) tNext)
    (tRet (tOrV (tDNotIn (tVar 1) (tFld K (tVar 0) "lower_of")) (tDIn (tDGet (tFld K (tVar 0) "lower_of") (tVar 1)) (tFld K (tVar 0) "closed")))))
abbrev N_cover : List Str := ["shape", "pairing", "version", "chains", "apart"]
def t_cover_apart (K : PySem.W.Frag) : TS := (tSeq (tAsg (tLc (iTup K (tOp (rIx K) (tVar 0) (tC (.int 0)))) (gName 2) (tB (tMeth (He.ga K "Pairing") "stands_apart" (sp_Pairing_stands_apart K) [] E0 (tVar 1) (tCons (tVar 2) tNil))) (tVar 2) [2]) (gName 4))
    (tRet (tTup (tCons (tCB (fTupleOf K) (tCons (tVar 3) tNil)) (tCons (tCB (fTupleOf K) (tCons (tVar 4) tNil)) tNil)))))
def t_cover_chains (K : PySem.W.Frag) : TS := (tSeq (tAsg (tLc (iTup K (tOp (rIx K) (tVar 0) (tC (.int 0)))) (gName 2) (tB (tDNotIn (tVar 2) (tFld K (tVar 1) "lower_of"))) (tMeth (He.ga K "Pairing") "chain" (sp_Pairing_chain K) [] E0 (tVar 1) (tCons (tVar 2) tNil)) [2]) (gName 3))
    (t_cover_apart K))
def t_cover_loop (K : PySem.W.Frag) : TS := (tSeq (tFor (iTup K (tOp (rIx K) (tVar 0) (tC (.int 0)))) (gName 2) (tDrop (tMeth (He.ga K "Pairing") "pair" (sp_Pairing_pair K) [] E0 (tVar 1) (tCons (tVar 2) tNil))))
    (t_cover_chains K))
def t_cover (K : PySem.W.Frag) : TS := (tSeq (tAsg (tMake (He.ga K "Pairing") (sp_Pairing_init K) [] E0 (tCons (tCall (sp_all_below K) [] E0 (tCons (tVar 0) tNil)) tNil)) (gName 1))
    (t_cover_loop K))
section
variable {K : PySem.W.Frag} {vs : List V} {H : Hp} {Q : VK} {E : XK}
theorem len_Pairing_chain (h : sp_Pairing_chain K vs H Q E) : vs.length = 2 := by obtain ⟨_, _, _, _, _, _, _, _, _, _, _, _, _, rfl, _⟩ := h; rfl
theorem len_Pairing_stands_apart (h : sp_Pairing_stands_apart K vs H Q E) : vs.length = 2 := by obtain ⟨_, _, _, _, _, _, _, _, _, _, _, _, rfl, _⟩ := h; rfl
theorem len_cover (h : sp_cover K vs H Q E) : vs.length = 1 := by obtain ⟨_, _, _, rfl, _⟩ := h; rfl
theorem ix_mono {x y : V} {Q Q' : VK} (f : ∀ v H', Q v H' → Q' v H') (h : rIx K x y H Q) : rIx K x y H Q' := by
  rcases h with h | h | h
  · obtain ⟨a, b, c, d, h1, h2, h3, h4, q⟩ := h
    exact .inl ⟨a, b, c, d, h1, h2, h3, h4, f _ _ q⟩
  · obtain ⟨a, b, c, d, h1, h2, h3, h4, q⟩ := h
    exact .inr (.inl ⟨a, b, c, d, h1, h2, h3, h4, f _ _ q⟩)
  · obtain ⟨a, b, c, h1, h2, h3, h4, q⟩ := h
    exact .inr (.inr ⟨a, b, c, h1, h2, h3, h4, f _ _ q⟩)
theorem at_last {xs : List V} {y : V} : atI (xs ++ [y]) (-1) = some y := by
  unfold atI ixN
  rw [List.length_append, List.length_singleton, if_neg (by decide), if_pos (by omega)]
  show (xs ++ [y])[(-1 + ((xs.length + 1 : Nat) : Int)).toNat]? = _
  rw [show (-1 + ((xs.length + 1 : Nat) : Int)).toNat = xs.length by omega, List.getElem?_append_right (Nat.le_refl _), Nat.sub_self]
  rfl
def lenAt (c : Addr) (H : Hp) : Nat := match H c with | some (.lst xs) => xs.length | _ => 0
theorem inc_few {cs ws : List Int} (h : cs.Pairwise (· < ·)) (hin : ∀ u ∈ cs, u ∈ ws) : cs.length ≤ ws.length := length_sub (h.imp fun a => by omega) hin
theorem pure_Pairing_chain (h : sp_Pairing_chain K vs H Q E) : t_Pairing_chain K { nx := fun _ H' => Q .non H', rt := Q } (start N_Pairing_chain vs) H := by
  obtain ⟨x, N, L, U, C, ws, S, v, nf, cl, lo, up, b, rfl, pc, ps, m, hv, hS, hn, k⟩ := h
  obtain ⟨dx, fs, hx, f1, f2, f3, f4, f5⟩ := id ps.po
  obtain ⟨uk, gU, lU, vU⟩ := id ps.hU
  refine ⟨_, rfl, by show (1 : Nat) ≤ sizeLine; decide, fun c nc => ?_⟩
  show tSeq (tWhile _ _) _ _ [some (.ref x), some (.int v), some (.ref c)] _
  refine while_by (fun σ H' => ∃ (cs : List Int) (l : Int), σ = [some (.ref x), some (.int v), some (.ref c)] ∧ Same H H' ∧ H' c = some (.lst ((cs ++ [l]).map V.int)) ∧ (cs ++ [l]).Pairwise (· < ·) ∧ (∀ u ∈ cs ++ [l], u ∈ ws) ∧ (cs ++ [l])[0]? = some v ∧ ∀ i x, cs[i]? = some x → (cs ++ [l])[i + 1]? = up x) (fun _ H' => ws.length - lenAt c H') ⟨[], v, rfl, samNew nc, updS, List.pairwise_singleton _ _, (fun u hu => by rw [List.mem_singleton.mp hu]; exact hv), rfl, fun i x h => by cases h⟩ ?_ ?_
  · rintro σ H1 ⟨cs, l, rfl, s1, hc, inc, hin, hd, nx⟩
    have el : atI ((cs ++ [l]).map V.int) (-1) = some (.int l) := by
      rw [List.map_append, List.map_singleton]
      exact at_last
    refine ⟨_, rfl, _, rfl, ixL hc el ⟨_, rfl, x, _, dx, fs, _, rfl, s1 _ _ hx, pc.cl, pc.n3, f3, U, _, rfl, .inl ⟨_, .inl l, .inl (s1 _ _ gU), rfl, rfl⟩, _, rfl, ?_⟩⟩
    rw [vU l]
    have lc : lenAt c H1 = cs.length + 1 := by
      unfold lenAt
      rw [hc]
      show ((cs ++ [l]).map V.int).length = _
      rw [List.length_map, List.length_append]
      rfl
    cases eu : up l with
    | none =>
      refine iteF ⟨_, rfl, c, _, rfl, .inl ⟨sqL hc, fun r nr => k r (cs ++ [l]) _ (s1.trans (samNew nr)) updS ⟨hd, fun i x hx => ?_⟩⟩⟩
      by_cases hi : i < cs.length
      · rw [List.getElem?_append_left hi] at hx
        exact nx i x hx
      · have hi2 := (List.getElem?_eq_some_iff.mp hx).1
        rw [List.length_append, List.length_singleton] at hi2
        have e0 : i - cs.length = 0 := by omega
        rw [List.getElem?_append_right (by omega), e0] at hx
        cases Option.some.inj hx
        rw [eu, List.getElem?_eq_none_iff, List.length_append, List.length_singleton]
        omega
    | some u =>
      refine iteT ?_
      obtain ⟨uS, lw, lu⟩ := m.dom u l ((m.inv u l).mpr eu)
      have few0 := inc_few inc hin
      rw [List.length_append, List.length_singleton] at few0
      refine ⟨_, rfl, .inl ⟨rfl, _, sqL hc⟩, _, rfl, x, _, dx, fs, _, rfl, s1 _ _ hx, pc.cl, pc.n3, f3, _, rfl, _, rfl, ixL hc el ⟨U, .int u, rfl, .inl ⟨uk, .inl l, .inl (s1 _ _ gU), rfl, by rw [vU l, eu]; rfl⟩, c, _, _, rfl, rfl, hc, ?_, ?_⟩⟩
      · rw [List.length_map, List.length_append]
        exact Nat.lt_of_le_of_lt (show cs.length + 1 ≤ 2000 by omega) (by decide)
      have inc2 : (cs ++ [l] ++ [u]).Pairwise (· < ·) := by
        rw [List.pairwise_append]
        refine ⟨inc, List.pairwise_singleton _ _, fun a ha y hy => ?_⟩
        rw [List.mem_singleton.mp hy]
        rcases List.mem_append.mp ha with ha | ha
        · have := (List.pairwise_append.mp inc).2.2 a ha l (List.mem_singleton.mpr rfl)
          omega
        · rw [List.mem_singleton.mp ha]
          exact lu
      have hin2 : ∀ z ∈ cs ++ [l] ++ [u], z ∈ ws := fun z hz => by
        rcases List.mem_append.mp hz with hz | hz
        · exact hin z hz
        · rw [List.mem_singleton.mp hz]
          exact hS u uS
      have few := inc_few inc2 hin2
      rw [List.length_append, List.length_append, List.length_singleton, List.length_singleton] at few
      have eL : (cs ++ [l]).map V.int ++ [V.int u] = (cs ++ [l] ++ [u]).map V.int := by rw [List.map_append (l₁ := cs ++ [l])]; rfl
      rw [eL]
      have nx2 : ∀ i x, (cs ++ [l])[i]? = some x → (cs ++ [l] ++ [u])[i + 1]? = up x := fun i x hx => by
        by_cases hi : i < cs.length
        · rw [List.getElem?_append_left hi] at hx
          rw [← nx i x hx, List.getElem?_append_left (by rw [List.length_append, List.length_singleton]; omega)]
        · have hi2 := (List.getElem?_eq_some_iff.mp hx).1
          rw [List.length_append, List.length_singleton] at hi2
          have e0 : i - cs.length = 0 := by omega
          rw [List.getElem?_append_right (by omega), e0] at hx
          cases Option.some.inj hx
          have e1 : i + 1 - (cs ++ [l]).length = 0 := by rw [List.length_append, List.length_singleton]; omega
          rw [eu, List.getElem?_append_right (by rw [List.length_append, List.length_singleton]; omega), e1]
          rfl
      have hd2 : (cs ++ [l] ++ [u])[0]? = some v := by rw [List.getElem?_append_left (by rw [List.length_append, List.length_singleton]; omega)]; exact hd
      refine ⟨⟨cs ++ [l], u, rfl, Same.updF s1 nc, updS, inc2, hin2, hd2, nx2⟩, ?_⟩
      show ws.length - lenAt c _ < ws.length - lenAt c H1
      rw [lc]
      have : lenAt c (upd H1 c (.lst ((cs ++ [l] ++ [u]).map V.int))) = cs.length + 2 := by
        unfold lenAt
        rw [updS]
        show ((cs ++ [l] ++ [u]).map V.int).length = _
        rw [List.length_map, List.length_append, List.length_append]
        rfl
      rw [this]
      omega
  · intro σ H Q Q' f h
    obtain ⟨v, e, w, e2, h⟩ := h
    refine ⟨v, e, w, e2, ix_mono (fun y H1 q => ?_) h⟩
    obtain ⟨v2, e3, a, C, dx, fs, w2, e4, q1, q2, q3, q4, a2, o, q5, q6, b2, q7, q8⟩ := q
    exact ⟨v2, e3, a, C, dx, fs, w2, e4, q1, q2, q3, q4, a2, o, q5, q6, b2, q7, f _ _ q8⟩
theorem pure_Pairing_stands_apart (h : sp_Pairing_stands_apart K vs H Q E) : t_Pairing_stands_apart K { nx := fun _ H' => Q .non H', rt := Q } (start N_Pairing_stands_apart vs) H := by
  obtain ⟨x, N, L, U, C, ws, v, nf, cl, lo, up, b, rfl, pc, ps, k⟩ := h
  obtain ⟨dx, fs, hx, f1, f2, f3, f4, f5⟩ := id ps.po
  obtain ⟨lk, gL, lL, vL⟩ := id ps.hL
  obtain ⟨ck, gC, lC, vC⟩ := id ps.hC
  refine ⟨_, rfl, _, rfl, x, _, dx, fs, _, rfl, hx, pc.cl, pc.n4, f4, C, _, rfl, .inl ⟨_, .inl v, .inl gC, rfl, rfl⟩, _, rfl, ?_⟩
  rw [vC v]
  unfold apB at k
  cases ec : cl v with
  | true =>
    rw [ec] at k
    exact iteT k
  | false =>
  rw [ec] at k
  refine iteF ?_
  refine ⟨_, rfl, _, rfl, x, _, dx, fs, _, rfl, hx, pc.cl, pc.n2, f2, L, _, rfl, .inl ⟨_, .inl v, .inl gL, rfl, rfl⟩, _, rfl, ?_⟩
  rw [vL v]
  cases q : lo v with
  | none =>
    rw [q] at k
    exact iteT k
  | some l =>
    rw [q] at k
    refine iteF ⟨_, rfl, x, _, dx, fs, _, rfl, hx, pc.cl, pc.n2, f2, _, rfl, L, .int l, rfl, .inl ⟨_, .inl v, .inl gL, rfl, by rw [vL v, q]; rfl⟩, ?_⟩
    refine ⟨_, rfl, x, _, dx, fs, _, rfl, hx, pc.cl, pc.n4, f4, C, _, rfl, .inl ⟨_, .inl l, .inl gC, rfl, rfl⟩, ?_⟩
    rw [vC l]
    exact k
theorem filt_snoc {p : Int → Bool} {l : List Int} {i : Nat} {w : Int} (h : l[i]? = some w) : (l.take (i + 1)).filter p = (l.take i).filter p ++ if p w = true then [w] else [] := by
  rw [take_snoc h, List.filter_append]
  cases e : p w with
  | true => rw [List.filter_cons, if_pos e]; rfl
  | false => rw [List.filter_cons, if_neg (by rw [e]; exact Bool.false_ne_true)]; rfl
/-- the chains of those among the first that have none below them -/
structure Chs (H : Hp) (A : Addr) (ca : List Addr) (cs : List (List Int)) (up : Int → Option Int) (fs : List Int) : Prop where
  hA : H A = some (.lst (ca.map V.ref))
  lc : ca.length = cs.length
  lf : cs.length = fs.length
  pt : ∀ (i : Nat) (a : Addr) (c : List Int), ca[i]? = some a → cs[i]? = some c → H a = some (.tup (c.map V.int))
  ch : ∀ (i : Nat) (f : Int) (c : List Int), fs[i]? = some f → cs[i]? = some c → ChainOf up f c
theorem snoc_get {α : Type} {l : List α} {x y : α} {i : Nat} (h : (l ++ [x])[i]? = some y) : (i < l.length ∧ l[i]? = some y) ∨ (i = l.length ∧ x = y) := by
  by_cases hi : i < l.length
  · rw [List.getElem?_append_left hi] at h
    exact .inl ⟨hi, h⟩
  · have hi2 := (List.getElem?_eq_some_iff.mp h).1
    rw [List.length_append, List.length_singleton] at hi2
    have e0 : i - l.length = 0 := by omega
    rw [List.getElem?_append_right (by omega), e0] at h
    exact .inr ⟨by omega, Option.some.inj h⟩
theorem Chs.snoc {H H' : Hp} {A r : Addr} {ca : List Addr} {cs : List (List Int)} {up : Int → Option Int} {fs c : List Int} {w : Int} (h : Chs H A ca cs up fs) (s : Same H H') (hr : H' r = some (.tup (c.map V.int))) (hc : ChainOf up w c) : Chs (upd H' A (.lst (ca.map V.ref ++ [.ref r]))) A (ca ++ [r]) (cs ++ [c]) up (fs ++ [w]) := by
  have hA := s _ _ h.hA
  refine ⟨by rw [updS, List.map_append]; rfl, by rw [List.length_append, List.length_append, h.lc]; rfl, by rw [List.length_append, List.length_append, h.lf]; rfl, fun i a d h1 h2 => ?_, fun i f d h1 h2 => ?_⟩
  · rcases snoc_get h1 with ⟨hi, h1⟩ | ⟨hi, rfl⟩
    · rcases snoc_get h2 with ⟨_, h2⟩ | ⟨hj, _⟩
      · have q := s _ _ (h.pt i a d h1 h2)
        exact updN (ne_of q hA (by intro z; cases z)) q
      · rw [hj, ← h.lc] at hi
        exact absurd hi (Nat.lt_irrefl _)
    · rcases snoc_get h2 with ⟨hj, _⟩ | ⟨_, rfl⟩
      · rw [hi, h.lc] at hj
        exact absurd hj (Nat.lt_irrefl _)
      · exact updN (ne_of hr hA (by intro z; cases z)) hr
  · rcases snoc_get h1 with ⟨hi, h1⟩ | ⟨hi, rfl⟩
    · rcases snoc_get h2 with ⟨_, h2⟩ | ⟨hj, _⟩
      · exact h.ch i f d h1 h2
      · rw [hj, h.lf] at hi
        exact absurd hi (Nat.lt_irrefl _)
    · rcases snoc_get h2 with ⟨hj, _⟩ | ⟨_, rfl⟩
      · rw [hi, h.lf] at hj
        exact absurd hj (Nat.lt_irrefl _)
      · exact hc
theorem pure_cover (h : sp_cover K vs H Q E) : t_cover K { nx := fun _ H' => Q .non H', rt := Q } (start N_cover vs) H := by
  obtain ⟨p, ws, ls, rfl, pc, sh, g, hw, hl, k⟩ := h
  have nd : ws.Nodup := rising_nodup g.inc
  refine ⟨_, rfl, p, ws, ls, rfl, sh, g, by omega, hl, fun Un as f H1 s1 nU nas ua hf fnd => ?_⟩
  intro x dx nx ndx nxd
  have s2 : Same H1 (upd (upd H1 dx (.own x)) x (.ins (He.ga K "Pairing") dx [])) := (samNew ndx).trans (samNew (by rw [upd_ne (fun z => nxd z.symm)]; exact nx))
  have ua2 : UAt (upd (upd H1 dx (.own x)) x (.ins (He.ga K "Pairing") dx [])) Un ws as f := ⟨ua.len, ua.nd, ua.out, s2 _ _ ua.top, fun i a w h1 h2 => s2 _ _ (ua.row i a w h1 h2)⟩
  have fok : ∀ w u, u ∈ f w → u ∈ ws ∧ u < w := fun w u hu => by
    obtain ⟨l, hl1, hd⟩ := (hf w u).mp hu
    obtain ⟨_, m2, m3⟩ := g.mem _ hl1
    have m3 : l < w := m3
    have := Dn.le g hd
    exact ⟨Dn.mem g hd m2, by omega⟩
  refine ⟨x, dx, Un, ws, as, f, rfl, pc, updS, ua2, nd, by omega, fnd, fok, g.inc, fun N L U C H3 keep fr ps => ⟨rfl, ?_⟩⟩
  have nfo : NfOk ws ls (nearF ws f) := ⟨fun w u => (mem_nearF fun q => (fok w u q).1).trans (hf w u), f, rfl⟩
  have nxH : ∀ b o, H1 b = some o → b ≠ x := fun b o e => ne_of_none e nx
  have s3 : Same H1 H3 := fun b o e => keep b o (s2 b o e) (nxH b o e)
  have s13 : Same H H3 := s1.trans s3
  have free : ∀ b o, H1 b = some o → b ≠ L ∧ b ≠ U ∧ b ≠ C := fun b o e => ⟨ne_of_none (s2 b o e) fr.1, ne_of_none (s2 b o e) fr.2.1, ne_of_none (s2 b o e) fr.2.2⟩
  clear s2 ua2 keep fr
  generalize nearF ws f = nf at ps nfo
  show t_cover_loop K { nx := fun _ H' => Q .non H', rt := Q } [some (.ref p), some (.ref x), none, none, none] H3
  have sh1 : ShapeAt H1 p ws ls := sh.mono fun a xs e => s1 _ _ e
  obtain ⟨a0, r0, rs, hp, ha0, hr0, lk⟩ := sh1
  have intw : ∀ {i : Nat} {y : V}, (ws.map V.int)[i]? = some y → ∃ w, y = .int w ∧ ws[i]? = some w := fun {i y} hx => by
    rw [List.getElem?_map] at hx
    cases e : ws[i]? with
    | none => rw [e] at hx; cases hx
    | some w => rw [e] at hx; exact ⟨w, (Option.some.inj hx).symm, rfl⟩
  refine ⟨_, rfl, ixT (s3 _ _ hp) rfl ⟨a0, rfl, ⟨_, sqT (s3 _ _ ha0)⟩, ?_⟩⟩
  refine for_tup (K := K) (a := a0) (xs := ws.map V.int) (fun i σ H' => Same H1 H' ∧ (∃ lo up cl, PS K H' x N L U C ws nf lo up cl (401 * i) ∧ Mt ws (ws.take i) lo up ∧ Runs nf (ws.take i) lo up cl) ∧ ∃ z2, σ = [some (.ref p), some (.ref x), z2, none, none]) ⟨s3, ⟨_, _, _, ps, ⟨fun u l => ⟨(fun e => by cases e), fun e => by cases e⟩, fun u l e => by cases e⟩, .nil⟩, none, rfl⟩ (fun i σ H' _ q => sqT (q.1 _ _ ha0)) ?_ ?_
  · rintro i y σ H4 hy ⟨s4, ⟨lo, up, cl, p4, m4, r4⟩, z2, rfl⟩
    obtain ⟨w, rfl, ew⟩ := intw hy
    obtain ⟨hi, ei⟩ := List.getElem?_eq_some_iff.mp ew
    obtain ⟨dx4, fs4, hx4, f1, f2, f3, f4, f5, f6, f7, f8⟩ := id p4.po
    refine ⟨_, rfl, x, dx4, fs4, rfl, hx4, f5, _, rfl, x, N, L, U, C, ws, ws.take i, w, nf, cl, lo, up, 401 * i, rfl, pc, p4, m4, List.mem_of_getElem? ew, fun hm => ?_, fun u hu => List.mem_of_mem_take hu, by omega, by omega, fun lo' up' cl' H5 k5 p5 m5 pr => ?_⟩
    · obtain ⟨j, hj, e⟩ := List.getElem_of_mem hm
      rw [List.length_take] at hj
      rw [List.getElem_take] at e
      have : j = i := (List.getElem_inj nd).mp (e.trans ei.symm)
      omega
    · refine ⟨fun b o e => k5 b o (s4 b o e) (free b o e).1 (free b o e).2.1 (free b o e).2.2, ⟨lo', up', cl', p5.le (by omega), ?_, ?_⟩, _, rfl⟩
      · rw [take_snoc ew]
        exact m5
      · rw [take_snoc ew]
        exact .snoc r4 pr
  · rintro σ H4 ⟨s4, ⟨lo, up, cl, p4, m4, r4⟩, z2, rfl⟩
    rw [List.length_map] at p4
    rw [List.length_map, List.take_length] at m4 r4
    show t_cover_chains K { nx := fun _ H' => Q .non H', rt := Q } [some (.ref p), some (.ref x), z2, none, none] H4
    have hp4 := s4 _ _ hp
    have ha4 := s4 _ _ ha0
    -- chains
    refine ⟨_, rfl, ixT hp4 rfl ⟨a0, rfl, ⟨_, sqT ha4⟩, fun A nA => ?_⟩⟩
    refine lc_it (walk_tup (xs := ws.map V.int)) (fun i H' => Same H4 H' ∧ ∃ ca cs, Chs H' A ca cs up ((ws.take i).filter (freeB lo))) ⟨samNew nA, [], [], updS, rfl, rfl, (fun i a c h => by cases h), fun i a c h => by cases h⟩ (fun i H' _ q => sqT (q.1 _ _ ha4)) ?_ ?_
    · rintro i y H5 H6 hi ⟨s5, ca, cs, ch5⟩ ⟨rfl, hy⟩
      obtain ⟨w, rfl, ew⟩ := intw hy
      have p5 := p4.same s5
      obtain ⟨dx5, fs5, hx5, f1, f2, f3, f4, f5, f6, f7, f8⟩ := id p5.po
      obtain ⟨lk5, gL, _, vL⟩ := id p5.hL
      refine ⟨rfl, _, rfl, _, rfl, x, _, dx5, fs5, _, rfl, hx5, pc.cl, pc.n2, f2, L, _, rfl, .inl ⟨_, .inl w, .inl gL, rfl, rfl⟩, _, rfl, ?_⟩
      rw [vL w, filt_snoc ew]
      cases el : lo w with
      | some l =>
        refine iteF ⟨s5, ca, cs, ?_⟩
        rw [if_neg (by unfold freeB; rw [el]; exact Bool.false_ne_true), List.append_nil]
        exact ch5
      | none =>
      refine iteT ?_
      rw [if_pos (by unfold freeB; rw [el]; rfl)]
      refine ⟨_, rfl, x, dx5, fs5, rfl, hx5, f7, _, rfl, x, N, L, U, C, ws, ws, w, nf, cl, lo, up, _, rfl, pc, p5, m4, List.mem_of_getElem? ew, fun u hu => hu, by omega, fun r c H7 s7 hr hc => ?_⟩
      refine ⟨_, s7 _ _ ch5.hA, ?_, Same.updF (s5.trans s7) nA, _, _, ch5.snoc s7 hr hc⟩
      rw [List.length_map, ch5.lc, ch5.lf]
      have := List.length_filter_le (freeB lo) (ws.take i)
      rw [List.length_take] at this
      exact Nat.lt_of_le_of_lt (show ((ws.take i).filter (freeB lo)).length ≤ 1000 by omega) (by decide)
    rintro H5 ⟨s5, ca, cs, ch5⟩
    rw [List.length_map, List.take_length] at ch5
    show t_cover_apart K { nx := fun _ H' => Q .non H', rt := Q } [some (.ref p), some (.ref x), z2, some (.ref A), none] H5
    have ha5 := s5 _ _ ha4
    have p5 := p4.same s5
    refine ⟨_, rfl, ixT (s5 _ _ hp4) rfl ⟨a0, rfl, ⟨_, sqT ha5⟩, fun B nB => ?_⟩⟩
    refine lc_it (walk_tup (xs := ws.map V.int)) (fun i H' => Same H5 H' ∧ H' B = some (.lst (((ws.take i).filter (apB lo cl)).map V.int))) ⟨samNew nB, updS⟩ (fun i H' _ q => sqT (q.1 _ _ ha5)) ?_ ?_
    · rintro i y H6 H7 hi ⟨s6, hB6⟩ ⟨rfl, hy⟩
      obtain ⟨w, rfl, ew⟩ := intw hy
      have p6 := p5.same s6
      obtain ⟨dx6, fs6, hx6, f1, f2, f3, f4, f5, f6, f7, f8⟩ := id p6.po
      refine ⟨rfl, _, rfl, x, dx6, fs6, rfl, hx6, f8, _, rfl, x, N, L, U, C, ws, w, nf, cl, lo, up, _, rfl, pc, p6, _, rfl, ?_⟩
      rw [filt_snoc ew]
      refine ite2 (fun ea => ?_) fun ea => ?_
      · rw [if_pos ea]
        refine ⟨_, rfl, _, hB6, ?_, Same.updF s6 nB, ?_⟩
        · rw [List.length_map]
          have := List.length_filter_le (apB lo cl) (ws.take i)
          rw [List.length_take] at this
          exact Nat.lt_of_le_of_lt (show ((ws.take i).filter (apB lo cl)).length ≤ 1000 by omega) (by decide)
        · rw [updS, List.map_append]
          rfl
      · rw [if_neg ea, List.append_nil]
        exact ⟨s6, hB6⟩
    rintro H6 ⟨s6, hB6⟩
    rw [List.length_map, List.take_length] at hB6
    refine ⟨_, rfl, A, _, rfl, .inl ⟨sqL (s6 _ _ ch5.hA), fun ta nta => ⟨_, rfl, B, _, rfl, .inl ⟨sqL (samNew nta _ _ hB6), fun tb ntb => ⟨by show (2 : Nat) ≤ sizeLine; decide, fun r nr => k r _ cs _ nf lo up cl ?_ ⟨ta, tb, ca, updS, ?_, ?_, ch5.lc, fun i a c h1 h2 => ?_⟩ ⟨nfo, r4, m4, ⟨ch5.lf, ch5.ch⟩, rfl⟩⟩⟩⟩⟩⟩
    · exact ((((s1.trans s4).trans s5).trans s6).trans ((samNew nta).trans (samNew ntb))).trans (samNew nr)
    · exact samNew nr _ _ (samNew ntb _ _ updS)
    · exact samNew nr _ _ updS
    · exact samNew nr _ _ (samNew ntb _ _ (samNew nta _ _ (s6 _ _ (ch5.pt i a c h1 h2))))
end
end Fw

set_option Elab.async false
set_option linter.all false
set_option maxRecDepth 100000
set_option maxHeartbeats 4000000
namespace Fw
open PySem L2 RZ RT
section
variable {ws : List Int} {ls : List (Int × Int)} {nf : Int → List Int} {lo up : Int → Option Int} {cl : Int → Bool}
theorem chains_ok {cs : List (List Int)} {ap : List Int} (g : Good ws ls) (n : NfOk ws ls nf) (m : Mt ws ws lo up) (c3 : ∀ u l, lo u = some l → l ∈ nf u) (hchs : ChsOf lo up ws cs) (alen : (ws.filter (freeB lo)).length = ap.length) (aapm : ∀ x ∈ ap, x ∈ ws) (aapi : ap.Pairwise (· < ·)) (aapd : ∀ x ∈ ap, ∀ y ∈ ap, x ≠ y → ¬ Dn ls x y) : CovOk ws ls cs ap := by
  have nd := rising_nodup g.inc
  have ndf : (ws.filter (freeB lo)).Nodup := nd.sublist List.filter_sublist
  have incf : (ws.filter (freeB lo)).Pairwise (· < ·) := g.inc.sublist List.filter_sublist
  have free : ∀ {f : Int}, f ∈ ws.filter (freeB lo) → f ∈ ws ∧ lo f = none := fun {f} hf => by
    rw [List.mem_filter] at hf
    refine ⟨hf.1, ?_⟩
    have := hf.2
    unfold freeB at this
    exact Option.isNone_iff_eq_none.mp this
  have of : ∀ {i : Nat} {c : List Int}, cs[i]? = some c → ∃ f, (ws.filter (freeB lo))[i]? = some f ∧ ChainOf up f c := fun {i c} hc => by
    have hi : i < (ws.filter (freeB lo)).length := by rw [← hchs.1]; exact (List.getElem?_eq_some_iff.mp hc).1
    exact ⟨_, List.getElem?_eq_getElem hi, hchs.2 i _ c (List.getElem?_eq_getElem hi) hc⟩
  have ofm : ∀ {c : List Int}, c ∈ cs → ∃ f, f ∈ ws ∧ lo f = none ∧ ChainOf up f c := fun {c} hc => by
    obtain ⟨i, hi, e⟩ := List.getElem_of_mem hc
    obtain ⟨f, h1, h2⟩ := of (List.getElem?_eq_some_iff.mpr ⟨hi, e⟩)
    obtain ⟨a, b⟩ := free (List.mem_of_getElem? h1)
    exact ⟨f, a, b, h2⟩
  have next : ∀ {c : List Int}, c ∈ cs → ∀ (i : Nat) (x y : Int), c[i]? = some x → c[i + 1]? = some y → lo y = some x := fun {c} hc i x y h1 h2 => by
    obtain ⟨f, _, _, q⟩ := ofm hc
    rw [q.2 i x h1] at h2
    exact (m.inv y x).mpr h2
  have upc : ∀ c ∈ cs, c.Pairwise (· < ·) := fun c hc => by
    rw [List.pairwise_iff_getElem]
    intro i j hi hj hij
    have : ∀ d i (hi : i < c.length) (hj : i + d + 1 < c.length), c[i] < c[i + d + 1] := fun d => by
      induction d with
      | zero =>
        intro i hi hj
        have := (m.dom _ _ (next hc i _ _ (List.getElem?_eq_getElem hi) (List.getElem?_eq_getElem hj))).2.2
        exact this
      | succ d ih =>
        intro i hi hj
        have a := ih i hi (by omega)
        have b := (m.dom _ _ (next hc (i + d + 1) _ _ (List.getElem?_eq_getElem (by omega)) (List.getElem?_eq_getElem hj))).2.2
        have b : c[i + d + 1] < c[i + (d + 1) + 1] := b
        omega
    have q := this (j - i - 1) i hi (by omega)
    have e : i + (j - i - 1) + 1 = j := by omega
    simp only [e] at q
    exact q
  have memc : ∀ c ∈ cs, ∀ x ∈ c, x ∈ ws := fun c hc x hx => by
    obtain ⟨f, hf, _, q⟩ := ofm hc
    obtain ⟨i, hi, e⟩ := List.getElem_of_mem hx
    cases i with
    | zero =>
      have := q.1
      rw [List.getElem?_eq_getElem hi, e] at this
      rw [Option.some.inj this]
      exact hf
    | succ i =>
      have := next hc i _ x (List.getElem?_eq_getElem (by omega)) (List.getElem?_eq_some_iff.mpr ⟨hi, e⟩)
      exact (m.dom _ _ this).1
  have all : ∀ (i : Nat) (x : Int), ws[i]? = some x → ∃ c ∈ cs, x ∈ c := fun i => by
    induction i using Nat.strongRecOn with
    | ind i ih =>
      intro x hx
      have hxw : x ∈ ws := List.mem_of_getElem? hx
      cases e : lo x with
      | none =>
        have hf : x ∈ ws.filter (freeB lo) := List.mem_filter.mpr ⟨hxw, by unfold freeB; rw [e]; rfl⟩
        obtain ⟨j, hj, ej⟩ := List.getElem_of_mem hf
        have hc := List.getElem?_eq_getElem (l := cs) (i := j) (by rw [hchs.1]; exact hj)
        have q := hchs.2 j x _ (List.getElem?_eq_some_iff.mpr ⟨hj, ej⟩) hc
        exact ⟨_, List.mem_of_getElem? hc, List.mem_of_getElem? q.1⟩
      | some l =>
        obtain ⟨_, lw, lx⟩ := m.dom x l e
        obtain ⟨j, hj, ej⟩ := List.getElem_of_mem lw
        obtain ⟨hi, ei⟩ := List.getElem?_eq_some_iff.mp hx
        have hji : j < i := by
          rcases Nat.lt_trichotomy j i with q | q | q
          · exact q
          · subst q
            rw [ej] at ei
            omega
          · have := List.pairwise_iff_getElem.mp g.inc i j hi hj q
            rw [ej, ei] at this
            omega
        obtain ⟨c, hc, lc⟩ := ih j hji l (List.getElem?_eq_some_iff.mpr ⟨hj, ej⟩)
        obtain ⟨f, _, _, q⟩ := ofm hc
        exact ⟨c, hc, in_chain m q lc e⟩
  refine ⟨?_, fun x => ⟨fun hx => ?_, fun hx => ?_⟩, fun c hc e => ?_, upc, fun c hc i x y h1 h2 => near_iff n (c3 y x (next hc i x y h1 h2)), ?_, ?_, ?_, ?_, ?_⟩
  · rw [List.Nodup, List.pairwise_flatten]
    refine ⟨fun c hc => rising_nodup (upc c hc), ?_⟩
    rw [List.pairwise_iff_getElem]
    intro i j hi hj hij x hx y hy e
    subst e
    obtain ⟨f, f1, f2⟩ := of (List.getElem?_eq_getElem hi)
    obtain ⟨f', f1', f2'⟩ := of (List.getElem?_eq_getElem hj)
    obtain ⟨a, ha, ea⟩ := List.getElem_of_mem hx
    obtain ⟨b, hb, eb⟩ := List.getElem_of_mem hy
    have e := chain_root m.inv f2 f2' (free (List.mem_of_getElem? f1)).2 (free (List.mem_of_getElem? f1')).2 a b x (List.getElem?_eq_some_iff.mpr ⟨ha, ea⟩) (List.getElem?_eq_some_iff.mpr ⟨hb, eb⟩)
    subst e
    obtain ⟨p1, p2⟩ := List.getElem?_eq_some_iff.mp f1
    obtain ⟨q1, q2⟩ := List.getElem?_eq_some_iff.mp f1'
    have := (List.getElem_inj ndf).mp (p2.trans q2.symm)
    omega
  · obtain ⟨c, hc, hx⟩ := List.mem_flatten.mp hx
    exact memc c hc x hx
  · obtain ⟨i, hi, e⟩ := List.getElem_of_mem hx
    obtain ⟨c, hc, h2⟩ := all i x (List.getElem?_eq_some_iff.mpr ⟨hi, e⟩)
    exact List.mem_flatten.mpr ⟨c, hc, h2⟩
  · obtain ⟨f, _, _, q⟩ := ofm hc
    have := q.1
    rw [e] at this
    cases this
  · intro i j c d x y hij hc hd h1 h2
    obtain ⟨f, f1, f2⟩ := of hc
    obtain ⟨f', f1', f2'⟩ := of hd
    rw [f2.1] at h1
    rw [f2'.1] at h2
    cases Option.some.inj h1
    cases Option.some.inj h2
    obtain ⟨p1, p2⟩ := List.getElem?_eq_some_iff.mp f1
    obtain ⟨q1, q2⟩ := List.getElem?_eq_some_iff.mp f1'
    have := List.pairwise_iff_getElem.mp incf i j p1 q1 hij
    rw [p2, q2] at this
    exact this
  · rw [hchs.1]
    exact alen
  · exact aapm
  · exact aapi
  · exact aapd
/-- those apart from above: Kn with what is reached from the ends -/
theorem high_ok {cs : List (List Int)} (g : Good ws ls) (n : NfOk ws ls nf) (m : Mt ws ws lo up) (k : Kn nf ws lo up cl) (hchs : ChsOf lo up ws cs) : CovOk ws ls cs (ws.filter (apB lo cl)) :=
  chains_ok g n m k.c3 hchs (few_apart g n m k) (fun x hx => (List.mem_filter.mp hx).1) (g.inc.sublist List.filter_sublist) fun x hx y hy ne => by
    rw [List.mem_filter] at hx hy
    exact apart_none g n m k hx.1 hx.2 hy.2 ne
/-- what is reached from below -/
structure Kd (nf : Int → List Int) (ws : List Int) (lo up : Int → Option Int) (lf : Int → Bool) : Prop where
  d1 : ∀ u, lf u = true → u ∈ ws ∧ ∃ l, lo u = some l
  d2 : ∀ u ∈ ws, ∀ l, l ∈ nf u → (up l = none ∨ ∃ w, up l = some w ∧ lf w = true) → lf u = true
  d3 : ∀ u, lf u = true → ∃ l, l ∈ nf u ∧ (up l = none ∨ ∃ w, up l = some w ∧ lf w = true)
def dpB (up : Int → Option Int) (lf : Int → Bool) (v : Int) : Bool := !lf v && (match up v with | none => true | some u => lf u)
def upL (up : Int → Option Int) (lf : Int → Bool) (v : Int) : Bool := match up v with
  | none => false
  | some u => lf u
theorem in_right {v : Int} : (match up v with | none => true | some u => cl u) = true ↔ (up v = none ∨ ∃ w, up v = some w ∧ cl w = true) := by
  cases e : up v with
  | none => exact ⟨fun _ => .inl rfl, fun _ => rfl⟩
  | some u =>
    refine ⟨fun h => .inr ⟨u, rfl, h⟩, fun h => ?_⟩
    rcases h with h | ⟨w, h1, h2⟩
    · cases h
    · cases Option.some.inj h1
      exact h2
theorem free_eq (g : Good ws ls) (m : Mt ws ws lo up) : (ws.filter (freeB lo)).length = (ws.filter (freeB up)).length := by
  have nd := rising_nodup g.inc
  have c4 := count_four (p := freeB lo) (q := fun v => (lo v).isSome) (r := freeB up) (s := fun v => (up v).isSome) (ws := ws) fun v hv => by
    unfold freeB
    cases lo v <;> cases up v <;> rfl
  have e : (ws.filter fun v => (lo v).isSome).length = (ws.filter fun v => (up v).isSome).length := by
    refine Nat.le_antisymm (len_map_sub (f := fun v => (lo v).getD 0) (nd.sublist List.filter_sublist) (fun a ha b hb e => ?_) fun a ha => ?_) (len_map_sub (f := fun v => (up v).getD 0) (nd.sublist List.filter_sublist) (fun a ha b hb e => ?_) fun a ha => ?_)
    · obtain ⟨l, h1⟩ := Option.isSome_iff_exists.mp (List.mem_filter.mp ha).2
      obtain ⟨l2, h2⟩ := Option.isSome_iff_exists.mp (List.mem_filter.mp hb).2
      have e : (lo a).getD 0 = (lo b).getD 0 := e
      rw [h1, h2] at e
      have e : l = l2 := e
      have z1 := (m.inv a l).mp h1
      rw [e, (m.inv b l2).mp h2] at z1
      exact (Option.some.inj z1).symm
    · obtain ⟨l, h1⟩ := Option.isSome_iff_exists.mp (List.mem_filter.mp ha).2
      show (lo a).getD 0 ∈ ws.filter fun v => (up v).isSome
      rw [h1]
      refine List.mem_filter.mpr ⟨(m.dom a l h1).2.1, ?_⟩
      show (up l).isSome = true
      rw [(m.inv a l).mp h1]
      rfl
    · obtain ⟨l, h1⟩ := Option.isSome_iff_exists.mp (List.mem_filter.mp ha).2
      obtain ⟨l2, h2⟩ := Option.isSome_iff_exists.mp (List.mem_filter.mp hb).2
      have e : (up a).getD 0 = (up b).getD 0 := e
      rw [h1, h2] at e
      have e : l = l2 := e
      have z1 := (m.inv l a).mpr h1
      rw [e, (m.inv l2 b).mpr h2] at z1
      exact (Option.some.inj z1).symm
    · obtain ⟨l, h1⟩ := Option.isSome_iff_exists.mp (List.mem_filter.mp ha).2
      have z := (m.inv l a).mpr h1
      show (up a).getD 0 ∈ ws.filter fun v => (lo v).isSome
      rw [h1]
      refine List.mem_filter.mpr ⟨(m.dom l a z).1, ?_⟩
      show (lo l).isSome = true
      rw [z]
      rfl
  omega
theorem low_ok {cs : List (List Int)} {lf : Int → Bool} (g : Good ws ls) (n : NfOk ws ls nf) (m : Mt ws ws lo up) (c3 : ∀ u l, lo u = some l → l ∈ nf u) (k : Kd nf ws lo up lf) (hchs : ChsOf lo up ws cs) : CovOk ws ls cs (ws.filter (dpB up lf)) := by
  have nd := rising_nodup g.inc
  refine chains_ok g n m c3 hchs ?_ (fun x hx => (List.mem_filter.mp hx).1) (g.inc.sublist List.filter_sublist) fun x hx y hy ne d => ?_
  · rw [free_eq g m]
    have c4 := count_four (p := dpB up lf) (q := lf) (r := freeB up) (s := upL up lf) (ws := ws) fun v hv => by
      unfold dpB freeB upL
      cases ec : lf v with
      | false =>
        cases e : up v with
        | none => rfl
        | some u => show b2n (lf u) + 0 = 0 + b2n (lf u); omega
      | true =>
        cases e : up v with
        | none => rfl
        | some u =>
          obtain ⟨l, h1, h2⟩ := k.d3 v ec
          have hu := (m.inv u v).mpr e
          have : lf u = true := k.d2 u (m.dom u v hu).1 l (near_tr n (c3 u v hu) h1) h2
          show 0 + 1 = 0 + b2n (lf u)
          rw [this]
          rfl
    have e : (ws.filter lf).length = (ws.filter (upL up lf)).length := by
      refine Nat.le_antisymm (len_map_sub (f := fun u => (lo u).getD 0) (nd.sublist List.filter_sublist) (fun a ha b hb e => ?_) fun a ha => ?_) (len_map_sub (f := fun v => (up v).getD 0) (nd.sublist List.filter_sublist) (fun a ha b hb e => ?_) fun a ha => ?_)
      · obtain ⟨_, l, h1⟩ := k.d1 a (List.mem_filter.mp ha).2
        obtain ⟨_, l2, h2⟩ := k.d1 b (List.mem_filter.mp hb).2
        have e : (lo a).getD 0 = (lo b).getD 0 := e
        rw [h1, h2] at e
        have e : l = l2 := e
        have z1 := (m.inv a l).mp h1
        rw [e, (m.inv b l2).mp h2] at z1
        exact (Option.some.inj z1).symm
      · obtain ⟨_, l, h1⟩ := k.d1 a (List.mem_filter.mp ha).2
        show (lo a).getD 0 ∈ ws.filter (upL up lf)
        rw [h1]
        refine List.mem_filter.mpr ⟨(m.dom a l h1).2.1, ?_⟩
        show upL up lf l = true
        unfold upL
        rw [(m.inv a l).mp h1]
        exact (List.mem_filter.mp ha).2
      · obtain ⟨_, ha⟩ := List.mem_filter.mp ha
        obtain ⟨_, hb⟩ := List.mem_filter.mp hb
        unfold upL at ha hb
        cases q1 : up a with
        | none => rw [q1] at ha; cases ha
        | some u =>
          cases q2 : up b with
          | none => rw [q2] at hb; cases hb
          | some u2 =>
            have e : (up a).getD 0 = (up b).getD 0 := e
            rw [q1, q2] at e
            have e : u = u2 := e
            have z1 := (m.inv u a).mpr q1
            rw [e, (m.inv u2 b).mpr q2] at z1
            exact (Option.some.inj z1).symm
      · obtain ⟨_, ha⟩ := List.mem_filter.mp ha
        unfold upL at ha
        show (up a).getD 0 ∈ ws.filter lf
        cases q1 : up a with
        | none => rw [q1] at ha; cases ha
        | some u =>
          rw [q1] at ha
          exact List.mem_filter.mpr ⟨(m.dom u a ((m.inv u a).mpr q1)).1, ha⟩
    omega
  · obtain ⟨hx1, hx2⟩ := List.mem_filter.mp hx
    obtain ⟨hy1, hy2⟩ := List.mem_filter.mp hy
    unfold dpB at hx2 hy2
    rw [Bool.and_eq_true, in_right] at hx2 hy2
    have := k.d2 x hx1 y (near_of n d ne) hy2.2
    rw [this] at hx2
    cases hx2.1
/-! ### giving way, nothing closed being touched -/
theorem gw_closed {S : List Int} {v l u : Int} {cf : List (Int × Int)} {lo0 up0 : Int → Option Int} {i : Nat} (m0 : Mt ws S lo0 up0) (k0 : ∀ l, cl l = true → ∃ u, up0 l = some u ∧ ∀ z ∈ nf u, cl z = true) (hcf : ∀ e ∈ cf, e.1 ∈ nf e.2) (g : Gw ws S v cf lo0 lo up i l) (hu : cf[i]? = some (l, u)) (hl : cl l = false) (c : Cf ws v lo0 cf) (hv : lo0 v = none) {l' : Int} (e : lo u = some l') : cl l' = false := by
  cases q : cl l' with
  | false => rfl
  | true =>
    exfalso
    have same : lo0 u = some l' := by
      obtain ⟨_, _, _, h⟩ := c.ok i l u hu
      rcases g.old u with e2 | ⟨j, l2, u2, e1, e2, e3⟩
      · rw [← e2]
        exact e
      · rcases h with h | ⟨j2, l3, u3, h1, h2, h3⟩
        · rw [h, hv] at e1
          cases e1
        · rw [h3] at e1
          cases Option.some.inj e1
          have := cf_inj c.nd h2 e2
          omega
    obtain ⟨w, h1, h2⟩ := k0 l' q
    rw [(m0.inv u l').mp same] at h1
    cases Option.some.inj h1
    have := h2 l (hcf _ (List.mem_of_getElem? hu))
    rw [hl] at this
    cases this
end
end Fw

set_option Elab.async false
set_option linter.all false
set_option maxRecDepth 100000
set_option maxHeartbeats 4000000
namespace Fw
open PySem L2 RZ RT
theorem RowsAt.mono {H H' : Hp} {R : Addr} {ws ds : List Int} {ls : List (Int × Int)} {as : List Addr} (h : RowsAt H R ws ls ds as) (s : ∀ b o, H b = some o → (b = R ∨ b ∈ as) → H' b = some o) : RowsAt H' R ws ls ds as :=
  ⟨h.1, s _ _ h.2.1 (.inl rfl), fun i v a h1 h2 => s _ _ (h.2.2 i v a h1 h2) (.inr (List.mem_of_getElem? h2))⟩
end Fw

set_option Elab.async false
set_option linter.all false
set_option maxRecDepth 100000
set_option maxHeartbeats 4000000
namespace Fw
open PySem L2 RZ RT
/-! ### what is strictly below, by the law's rows -/
def nfB (ws : List Int) (ls : List (Int × Int)) : Int → List Int := fun w => (ws.filter fun u => ((belowL ws ls w).filter fun z => decide (z ≠ w)).contains u).reverse
theorem mem_nfB {ws : List Int} {ls : List (Int × Int)} {w u : Int} : u ∈ nfB ws ls w ↔ u ∈ belowL ws ls w ∧ u ≠ w := by
  unfold nfB
  rw [List.mem_reverse, List.mem_filter, List.contains_iff_mem, List.mem_filter, decide_eq_true_eq]
  refine ⟨fun h => h.2, fun h => ⟨?_, h⟩⟩
  have := h.1
  unfold belowL at this
  exact (List.mem_filter.mp this).1
theorem nfB_dn {ws : List Int} {ls : List (Int × Int)} (g : Good ws ls) {w u : Int} (hw : w ∈ ws) : u ∈ nfB ws ls w ↔ Dn ls w u ∧ u ≠ w := by
  rw [mem_nfB, mem_belowL g hw]
theorem nfB_ok {ws : List Int} {ls : List (Int × Int)} (g : Good ws ls) : NfOk ws ls (nfB ws ls) := by
  refine ⟨fun w u => ?_, fun w => (belowL ws ls w).filter fun z => decide (z ≠ w), rfl⟩
  by_cases hw : w ∈ ws
  · rw [nfB_dn g hw]
    refine ⟨fun ⟨h, ne⟩ => ?_, fun ⟨l, h1, h2⟩ => ⟨.step h1 h2, fun e => ?_⟩⟩
    · cases h with
      | refl => exact absurd rfl ne
      | step h1 h2 => exact ⟨_, h1, h2⟩
    · have a : l < w := (g.mem _ h1).2.2
      have b := Dn.le g h2
      omega
  · refine ⟨fun h => ?_, fun ⟨l, h1, _⟩ => absurd (g.mem _ h1).1 hw⟩
    obtain ⟨h1, h2⟩ := mem_nfB.mp h
    unfold belowL at h1
    obtain ⟨h3, h4⟩ := List.mem_filter.mp h1
    rw [List.contains_iff_mem] at h4
    obtain ⟨s, hs, d⟩ := (mem_lower g).mp h4
    rw [List.mem_singleton.mp hs] at d
    cases d with
    | refl => exact absurd rfl h2
    | step q _ => exact absurd (g.mem _ q).1 hw
/-- the last of a row is the version itself -/
theorem row_split {ws : List Int} {ls : List (Int × Int)} (g : Good ws ls) {w : Int} (hw : w ∈ ws) : (∀ x, x ∈ (belowL ws ls w).dropLast ↔ x ∈ nfB ws ls w) ∧ (belowL ws ls w).dropLast.length ≤ ws.length ∧ (belowL ws ls w).dropLast.Nodup := by
  have inc : (belowL ws ls w).Pairwise (· < ·) := by
    unfold belowL
    exact g.inc.sublist List.filter_sublist
  have hm : w ∈ belowL ws ls w := (mem_belowL g hw).mpr (.refl w)
  have ne : belowL ws ls w ≠ [] := fun e => by rw [e] at hm; cases hm
  have sp := List.dropLast_concat_getLast ne
  have hl : (belowL ws ls w).getLast ne = w := by
    have h1 : (belowL ws ls w).getLast ne ≤ w := Dn.le g ((mem_belowL g hw).mp (List.getLast_mem ne))
    rw [← sp] at hm
    rcases List.mem_append.mp hm with q | q
    · rw [← sp] at inc
      have := (List.pairwise_append.mp inc).2.2 w q _ (List.mem_singleton.mpr rfl)
      omega
    · exact (List.mem_singleton.mp q).symm
  rw [hl] at sp
  have nd := rising_nodup inc
  rw [← sp] at nd
  obtain ⟨n1, _, n2⟩ := List.nodup_append.mp nd
  refine ⟨fun x => ?_, ?_, n1⟩
  · rw [mem_nfB, ← sp, List.dropLast_concat, List.mem_append, List.mem_singleton]
    refine ⟨fun h => ⟨.inl h, fun e => n2 x h w (List.mem_singleton.mpr rfl) e⟩, fun ⟨h, q⟩ => h.resolve_right q⟩
  · have h1 : (belowL ws ls w).length ≤ ws.length := by
      unfold belowL
      exact List.length_filter_le _ _
    rw [List.length_dropLast]
    omega
theorem cut_last (ns : List Int) : cutV (ns.map V.int) none (some (-1)) = (ns.dropLast).map V.int := by
  unfold cutV
  rw [HT.sIx_none]
  have e : HT.sIx (ns.map V.int).length (ns.map V.int).length (some (-1)) = (ns.map V.int).length - 1 := by
    unfold HT.sIx
    simp
    omega
  rw [e, Nat.sub_zero, List.drop_zero, ← List.dropLast_eq_take, List.map_dropLast]
/-- all but the deck and the two dicts stands -/
def K3 (D U L : Addr) (H H' : Hp) : Prop := ∀ b o, H b = some o → b ≠ D → b ≠ U → b ≠ L → H' b = some o
/-- the two dicts -/
structure PD (H : Hp) (U L : Addr) (lo up : Int → Option Int) (b : Nat) : Prop where
  hL : ∃ lk, H L = some (.dK lk) ∧ lk.length ≤ b ∧ ∀ k, valV lk (.inl k) = (lo k).map V.int
  hU : ∃ uk, H U = some (.dK uk) ∧ uk.length ≤ b ∧ ∀ k, valV uk (.inl k) = (up k).map V.int
theorem PD.le {H : Hp} {U L : Addr} {lo up : Int → Option Int} {b b' : Nat} (p : PD H U L lo up b) (h : b ≤ b') : PD H U L lo up b' := by
  obtain ⟨⟨lk, h1, h2, h3⟩, ⟨uk, h4, h5, h6⟩⟩ := p
  exact ⟨⟨lk, h1, by omega, h3⟩, ⟨uk, h4, by omega, h6⟩⟩
/-- where all stands apart -/
structure Ap3 (H : Hp) (D U L R : Addr) : Prop where
  uD : U ≠ D
  lD : L ≠ D
  uL : U ≠ L
  rD : R ≠ D
  rU : R ≠ U
  rL : R ≠ L
def sp_l_pair_up (_ : PySem.W.Frag) : Sp := fun vs H Q _ => ∃ (c D R U L : Addr) (ns : List Int) (t : Nat) (ws : List Int) (ls : List (Int × Int)) (ra : List Addr) (S : List Int) (v : Int) (lo up : Int → Option Int) (cl : Int → Bool) (b : Nat), vs = [.ref D, .ref R, .ref U, .ref L, .int v] ∧ Dk c D ns t H ∧ RowsAt H R ws ls ws ra ∧ (∀ a ∈ ra, a ≠ D) ∧ Ap3 H D U L R ∧ Good ws ls ∧ Mt ws S lo up ∧ Kn (nfB ws ls) S lo up cl ∧ v ∈ ws ∧ v ∉ S ∧ (∀ u ∈ S, u ∈ ws) ∧ ws.length ≤ 60 ∧ PD H U L lo up b ∧ b < 100000 ∧ t + 100 < 1000000 ∧
  ∀ (lo' up' : Int → Option Int) (cl' : Int → Bool) (H' : Hp), K3 D U L H H' → Dk c D ns (t + 61) H' → PD H' U L lo' up' (b + 61) → Mt ws (S ++ [v]) lo' up' → Kn (nfB ws ls) (S ++ [v]) lo' up' cl' → Q .non H'
abbrev N_l_pair_up : List Str := ["_law_deck_here", "_law_rows", "_law_ups", "_law_downs", "_law_one", "_law_came", "_law_wait", "_law_end", "_law_up", "_law_lows", "_law_low", "_law_before"]
def t_l_pair_up_new (K : PySem.W.Frag) : TS := (tSeq (sDPut (tVar 5) (tVar 10) (tVar 8))
    (tIfS (tB (tDIn (tVar 10) (tVar 2))) (tDrop (tBM K "list" rAppend (tVar 6) (tCons (tDGet (tVar 2) (tVar 10)) tNil))) (tAsg (tVar 10) (gName 7))))
def t_l_pair_up_for (K : PySem.W.Frag) : TS := (tFor (iList K (tVar 9)) (gName 10) (tIfS (tAnd (tB (tDNotIn (tVar 10) (tVar 5))) (tTest (tOp fIsN (tVar 7) (tC .non)))) (t_l_pair_up_new K) tNext))
def t_l_pair_up_body (K : PySem.W.Frag) : TS := (tSeq (tAsg (tBM0 K "list" rPop (tVar 6)) (gName 8))
    (tSeq (tAsg (tSl (rSlL K) (tDGet (tVar 1) (tVar 8)) tNoPart (tPart (tUn rNegI (tC (.int 1))))) (gName 9))
    (tSeq (tIfS (tTest (tOp rEq (tCall (sp_l_draw K) [] E0 (tCons (tVar 0) (tCons (tC (.int 2)) tNil))) (tC (.int 0)))) (tAsg (tRevL K (tVar 9)) (gName 9)) tNext)
    (t_l_pair_up_for K))))
def t_l_pair_up_way (K : PySem.W.Frag) : TS := (tSeq (tAsg (tDGet (tVar 5) (tVar 7)) (gName 8))
    (tSeq (tAsg (tDGet1 (tVar 3) (tVar 8)) (gName 11))
    (tSeq (sDPut (tVar 2) (tVar 7) (tVar 8))
    (tSeq (sDPut (tVar 3) (tVar 8) (tVar 7))
    (tAsg (tVar 11) (gName 7))))))
def t_l_pair_up_give (K : PySem.W.Frag) : TS := (tWhile (tTest (tOp fNotN (tVar 7) (tC .non))) (t_l_pair_up_way K))
def t_l_pair_up (K : PySem.W.Frag) : TS := (tSeq (tAsg tDNewK (gName 5))
    (tSeq (tAsg (tLst (tCons (tVar 4) tNil)) (gName 6))
    (tSeq (tAsg (tC .non) (gName 7))
    (tSeq (tWhile (tAnd (tTest (tOp rGtI (tCB (fLen K) (tCons (tVar 6) tNil)) (tC (.int 0)))) (tTest (tOp fIsN (tVar 7) (tC .non)))) (t_l_pair_up_body K))
    (t_l_pair_up_give K)))))
theorem len_l_pair_up {K : PySem.W.Frag} {vs : List V} {H : Hp} {Q : VK} {E : XK} (h : sp_l_pair_up K vs H Q E) : vs.length = 5 := by
  obtain ⟨_, _, _, _, _, _, _, _, _, _, _, _, _, _, _, _, rfl, _⟩ := h
  rfl
/-- the search -/
structure Sr (H : Hp) (c D cA W : Addr) (ns : List Int) (t : Nat) (ws : List Int) (nf : Int → List Int) (v : Int) (lo : Int → Option Int) (cf : List (Int × Int)) (wt : List Int) (it : Nat) (H' : Hp) : Prop where
  k : Kp D H H'
  dk : Dk c D ns (t + it) H'
  hA : H' cA = some (.dK (kvOf cf))
  hW : H' W = some (.lst (wt.map V.int))
  cc : Cf ws v lo cf
  nr : ∀ e ∈ cf, e.1 ∈ nf e.2
  n : it + wt.length ≤ cf.length + 1
  w : ∀ u ∈ wt, u ∈ ws ∧ (u = v ∨ ∃ (j : Nat) (l' u' : Int), cf[j]? = some (l', u') ∧ lo u = some l')
/-- not ended yet: all are paired; those gone into have all their lower ones come to -/
def Op (nf : Int → List Int) (up : Int → Option Int) (v : Int) (cf : List (Int × Int)) (wt : List Int) (cur : Int → Prop) : Prop := (∀ e ∈ cf, up e.1 ≠ none) ∧ ∀ u, (u = v ∨ ∃ e ∈ cf, up e.1 = some u) → u ∈ wt ∨ cur u ∨ ∀ z ∈ nf u, inK cf z = true
def Fd (up : Int → Option Int) (cf : List (Int × Int)) (y : V) : Prop := ∃ (i : Nat) (l u : Int), y = .int l ∧ cf[i]? = some (l, u) ∧ up l = none
section
variable {K : PySem.W.Frag} {vs : List V} {H : Hp} {Q : VK} {E : XK}
theorem pure_l_pair_up (h : sp_l_pair_up K vs H Q E) : t_l_pair_up K { nx := fun _ H' => Q .non H', rt := Q } (start N_l_pair_up vs) H := by
  obtain ⟨c, D, R, U, L, ns, t, ws, ls, ra, S, v, lo, up, cl, b, rfl, dk, ⟨hal, hR, hrow⟩, raD, ap, g, m, kn, hvw, hvS, hS, hn, pd, hb, ht, k⟩ := h
  obtain ⟨lk, gL, lL, vL⟩ := id pd.hL
  obtain ⟨uk, gU, lU, vU⟩ := id pd.hU
  have nfo := nfB_ok g
  have hv : lo v = none := by
    cases e : lo v with
    | none => rfl
    | some l => exact absurd (m.dom v l e).1 hvS
  have rowOf : ∀ (u : Int), u ∈ ws → ∃ a, valV (rowsKV ws ra) (.inl u) = some (.ref a) ∧ H a = some (.lst ((belowL ws ls u).map V.int)) ∧ a ≠ D := fun u hu => by
    obtain ⟨i, hi, e⟩ := List.getElem_of_mem hu
    have e2 : ws[i]? = some u := List.getElem?_eq_some_iff.mpr ⟨hi, e⟩
    have ea : ra[i]? = some ra[i] := List.getElem?_eq_getElem (by omega)
    exact ⟨ra[i], rows_val (rising_nodup g.inc) e2 ea, hrow i u _ e2 ea, raD _ (List.getElem_mem _)⟩
  intro cA nA
  refine ⟨_, rfl, by show (1 : Nat) ≤ sizeLine; decide, fun W nW => ?_⟩
  have nWA : cA ≠ W := ne_of_none updS nW
  have nW0 : H W = none := by
    rw [upd_ne (fun z => nWA z.symm)] at nW
    exact nW
  have aD : cA ≠ D := dk.neD nA
  have wD : W ≠ D := dk.neD nW0
  have aC : cA ≠ c := dk.neC nA
  have wC : W ≠ c := dk.neC nW0
  have aU : cA ≠ U := (ne_of_none gU nA).symm
  have aL : cA ≠ L := (ne_of_none gL nA).symm
  have s0 : Sr H c D cA W ns t ws (nfB ws ls) v lo [] [v] 0 (upd (upd H cA (.dK [])) W (.lst [.int v])) := ⟨(Kp.new nA).trans (Kp.new nW), (dk.upd aC aD).upd wC wD, updN nWA updS, updS, ⟨.nil, fun i l u e => by cases e⟩, (fun e he => by cases he), Nat.le_refl _, fun u hu => ⟨by rw [List.mem_singleton.mp hu]; exact hvw, .inl (List.mem_singleton.mp hu)⟩⟩
  have uA : ∀ {H1 : Hp} {cf : List (Int × Int)} {wt : List Int} {it : Nat}, Sr H c D cA W ns t ws (nfB ws ls) v lo cf wt it H1 → it ≤ 61 := fun {H1 cf wt it} s => by
    have := s.cc.few
    have := s.n
    omega
  -- the end: nothing found, or giving way
  have fin : ∀ {cf : List (Int × Int)} {wt : List Int} {it : Nat} {y : V} {z8 z9 z10 : Option V} {H1 : Hp}, Sr H c D cA W ns t ws (nfB ws ls) v lo cf wt it H1 → ((y = .non ∧ wt = [] ∧ Op (nfB ws ls) up v cf wt fun _ => False) ∨ Fd up cf y) → t_l_pair_up_give K { nx := fun _ H' => Q .non H', rt := Q } [some (.ref D), some (.ref R), some (.ref U), some (.ref L), some (.int v), some (.ref cA), some (.ref W), some y, z8, z9, z10, none] H1 := by
    intro cf wt it y z8 z9 z10 H1 s st
    have few := s.cc.few
    have hit := uA s
    have gL1 := s.k _ _ gL ap.lD
    have gU1 := s.k _ _ gU ap.uD
    rcases st with ⟨rfl, rfl, op⟩ | ⟨i0, l0, u0, rfl, hl0, hul0⟩
    · refine while_by (fun σ H' => H' = H1 ∧ σ = [some (.ref D), some (.ref R), some (.ref U), some (.ref L), some (.int v), some (.ref cA), some (.ref W), some .non, z8, z9, z10, none]) (fun _ _ => 0) ⟨rfl, rfl⟩ ?_ ?_
      · rintro σ H2 ⟨rfl, rfl⟩
        refine ⟨_, rfl, rfl, _, rfl, iteF ?_⟩
        refine k lo up (fun z => cl z || inK cf z) _ (fun b o h h1 _ _ => s.k b o h h1) (s.dk.le (by omega)) (PD.le ⟨⟨lk, gL1, lL, vL⟩, ⟨uk, gU1, lU, vU⟩⟩ (by omega)) ⟨m.inv, fun u l e => by obtain ⟨q1, q2, q3⟩ := m.dom u l e; exact ⟨List.mem_append_left _ q1, q2, q3⟩⟩ ?_
        have out : ∀ {u z : Int}, (u = v ∨ ∃ e ∈ cf, up e.1 = some u) → z ∈ nfB ws ls u → (cl z || inK cf z) = true := fun {u z} hu hz => by
          rcases op.2 u hu with q | q | q
          · cases q
          · exact q.elim
          · rw [q z hz, Bool.or_true]
        refine ⟨fun z hz => ?_, fun x hx hn z hz => ?_, kn.c3⟩
        · have hz : (cl z || inK cf z) = true := hz
          rw [Bool.or_eq_true] at hz
          rcases hz with hz | hz
          · obtain ⟨w, h1, h2⟩ := kn.c1 z hz
            exact ⟨w, h1, fun y hy => by show (cl y || inK cf y) = true; rw [h2 y hy]; rfl⟩
          · obtain ⟨y, hy⟩ := inK_iff.mp hz
            cases e : up z with
            | none => exact absurd e (op.1 _ hy)
            | some w => exact ⟨w, rfl, fun y' hy' => out (.inr ⟨_, hy, e⟩) hy'⟩
        · rcases List.mem_append.mp hx with hx | hx
          · show (cl z || inK cf z) = true
            rw [kn.c2 x hx hn z hz]
            rfl
          · rw [List.mem_singleton.mp hx] at hz
            exact out (.inl rfl) hz
      · intro σ H Q Q' f h
        obtain ⟨v, e, r, b, e3, q⟩ := h
        exact ⟨v, e, r, b, e3, f _ _ q⟩
    · have cl0 : cl l0 = false := by
        cases q : cl l0 with
        | false => rfl
        | true =>
          obtain ⟨w, h1, _⟩ := kn.c1 l0 q
          rw [hul0] at h1
          cases h1
      have hi0 : i0 < cf.length := (List.getElem?_eq_some_iff.mp hl0).1
      refine while_by (fun σ H' => ∃ (y : V) (z8 z11 : Option V) (i : Nat) (lo1 up1 : Int → Option Int), σ = [some (.ref D), some (.ref R), some (.ref U), some (.ref L), some (.int v), some (.ref cA), some (.ref W), some y, z8, z9, z10, z11] ∧ K3 D U L H H' ∧ Dk c D ns (t + it) H' ∧ H' cA = some (.dK (kvOf cf)) ∧ i ≤ i0 ∧ (∀ y, cl y = true → up1 y = up y) ∧ (∀ x l, lo1 x = some l → l ∈ nfB ws ls x) ∧ (∀ x, lo1 x = none → lo x = none) ∧
          ((∃ l, y = .int l ∧ PD H' U L lo1 up1 (b + (i0 - i)) ∧ Gw ws S v cf lo lo1 up1 i l ∧ cl l = false) ∨ (y = .non ∧ PD H' U L lo1 up1 (b + i0 + 1) ∧ Mt ws (S ++ [v]) lo1 up1 ∧ lo1 v ≠ none)))
        (fun σ _ => ixOf cf (slotV 7 σ)) ⟨_, z8, none, i0, lo, up, rfl, (fun b o h h1 _ _ => s.k b o h h1), s.dk, s.hA, Nat.le_refl _, (fun _ _ => rfl), kn.c3, (fun _ h => h), .inl ⟨l0, rfl, PD.le ⟨⟨lk, gL1, lL, vL⟩, ⟨uk, gU1, lU, vU⟩⟩ (by omega), Gw.start m hl0 hul0, cl0⟩⟩ ?_ ?_
      · rintro σ H2 ⟨y, z8, z11, i, lo1, up1, rfl, k3, dk2, hA2, hi, hcl, hnr, hnn, st⟩
        rcases st with ⟨l, rfl, pd2, gw, cll⟩ | ⟨rfl, pd2, mt, lv⟩
        · obtain ⟨u, hu⟩ := gw.at_
          refine ⟨_, rfl, rfl, _, rfl, iteT ?_⟩
          refine ⟨_, rfl, _, rfl, cA, .int u, rfl, .inl ⟨_, _, .inl hA2, rfl, (kv_val s.cc.nd hu).symm⟩, ?_⟩
          obtain ⟨lk2, gL2, lL2, vL2⟩ := pd2.hL
          obtain ⟨uk2, gU2, lU2, vU2⟩ := pd2.hU
          refine ⟨_, rfl, L, rfl, .inl ⟨_, .inl gL2⟩, _, rfl, _, .inl ⟨_, .inl u, .inl gL2, rfl, rfl⟩, ?_⟩
          rw [vL2 u]
          refine ⟨_, rfl, _, rfl, _, rfl, U, _, rfl, .inl ⟨_, .inl l, gU2, rfl, Nat.lt_of_le_of_lt (show uk2.length ≤ 200000 by omega) (by decide), rfl⟩, ?_⟩
          have gL3 : upd H2 U (.dK (putK uk2 (.inl l) (.int u))) L = some (.dK lk2) := updN ap.uL.symm gL2
          refine ⟨_, rfl, _, rfl, _, rfl, L, _, rfl, .inl ⟨_, .inl u, gL3, rfl, Nat.lt_of_le_of_lt (show lk2.length ≤ 200000 by omega) (by decide), rfl⟩, ?_⟩
          have k3' : K3 D U L H (upd (upd H2 U (.dK (putK uk2 (.inl l) (.int u)))) L (.dK (putK lk2 (.inl u) (.int l)))) := fun b o h h1 h2 h3 => updN h3 (updN h2 (k3 b o h h1 h2 h3))
          have dk3 : Dk c D ns (t + it) (upd (upd H2 U (.dK (putK uk2 (.inl l) (.int u)))) L (.dK (putK lk2 (.inl u) (.int l)))) := (dk2.upd (ne_of gU2 dk2.2.1 (by intro z; cases z)) ap.uD).upd (ne_of gL2 dk2.2.1 (by intro z; cases z)) ap.lD
          have hA3 : upd (upd H2 U (.dK (putK uk2 (.inl l) (.int u)))) L (.dK (putK lk2 (.inl u) (.int l))) cA = some (.dK (kvOf cf)) := updN aL (updN aU hA2)
          have pd3 : PD (upd (upd H2 U (.dK (putK uk2 (.inl l) (.int u)))) L (.dK (putK lk2 (.inl u) (.int l)))) U L (setM lo1 u l) (setM up1 l u) (b + (i0 - i) + 1) := by
            refine ⟨⟨_, updS, ?_, map_setM vL2⟩, ⟨_, updN ap.uL updS, ?_, map_setM vU2⟩⟩
            · have := length_putK lk2 (.inl u : Key) (.int l)
              omega
            · have := length_putK uk2 (.inl l : Key) (.int u)
              omega
          generalize upd (upd H2 U (.dK (putK uk2 (.inl l) (.int u)))) L (.dK (putK lk2 (.inl u) (.int l))) = H3 at k3' dk3 hA3 pd3
          have mu : ixOf cf (.int l) = i + 1 := ix_at s.cc.nd hu
          have hcl' : ∀ y, cl y = true → setM up1 l u y = up y := fun y hy => by
            rw [setM_ne (fun z => by rw [z, cll] at hy; cases hy)]
            exact hcl y hy
          have hnr' : ∀ x z, setM lo1 u l x = some z → z ∈ nfB ws ls x := fun x z hz => by
            by_cases q : x = u
            · subst q
              rw [setM_eq] at hz
              cases Option.some.inj hz
              exact s.nr _ (List.mem_of_getElem? hu)
            · rw [setM_ne q] at hz
              exact hnr x z hz
          have hnn' : ∀ x, setM lo1 u l x = none → lo x = none := fun x hx => by
            by_cases q : x = u
            · subst q
              rw [setM_eq] at hx
              cases hx
            · rw [setM_ne q] at hx
              exact hnn x hx
          refine ⟨_, rfl, ?_⟩
          rcases gw.step2 m s.cc hv hu with ⟨hnu, mt, euv⟩ | ⟨j, l', hj, hs, g'⟩
          · rw [hnu]
            refine ⟨⟨_, _, _, i, _, _, rfl, k3', dk3, hA3, hi, hcl', hnr', hnn', .inr ⟨rfl, pd3.le (by omega), mt, by rw [euv, setM_eq]; exact fun z => nomatch z⟩⟩, ?_⟩
            show (0 : Nat) < ixOf cf (.int l)
            omega
          · have cl' := gw_closed (nf := nfB ws ls) m kn.c1 s.nr gw hu cll s.cc hv hs
            rw [hs]
            obtain ⟨u', hu'⟩ := g'.at_
            refine ⟨⟨_, _, _, j, _, _, rfl, k3', dk3, hA3, by omega, hcl', hnr', hnn', .inl ⟨l', rfl, pd3.le (by omega), g', cl'⟩⟩, ?_⟩
            show ixOf cf (.int l') < ixOf cf (.int l)
            rw [ix_at s.cc.nd hu', mu]
            omega
        · refine ⟨_, rfl, rfl, _, rfl, iteF ?_⟩
          refine k lo1 up1 cl H2 k3 (dk2.le (by omega)) (pd2.le (by omega)) mt ⟨fun z hz => ?_, fun x hx hx2 => ?_, hnr⟩
          · obtain ⟨w, h1, h2⟩ := kn.c1 z hz
            exact ⟨w, by rw [hcl z hz]; exact h1, h2⟩
          · rcases List.mem_append.mp hx with q | q
            · exact kn.c2 x q (hnn x hx2)
            · rw [List.mem_singleton.mp q] at hx2
              exact absurd hx2 lv
      · intro σ H Q Q' f h
        obtain ⟨v, e, r, b, e3, q⟩ := h
        exact ⟨v, e, r, b, e3, f _ _ q⟩
  show tSeq (tWhile _ (t_l_pair_up_body K)) (t_l_pair_up_give K) _ [some (.ref D), some (.ref R), some (.ref U), some (.ref L), some (.int v), some (.ref cA), some (.ref W), some .non, none, none, none, none] _
  refine while_by (fun σ H' => ∃ (cf : List (Int × Int)) (wt : List Int) (it : Nat) (y : V) (z8 z9 z10 : Option V), σ = [some (.ref D), some (.ref R), some (.ref U), some (.ref L), some (.int v), some (.ref cA), some (.ref W), some y, z8, z9, z10, none] ∧ Sr H c D cA W ns t ws (nfB ws ls) v lo cf wt it H' ∧ ((y = .non ∧ Op (nfB ws ls) up v cf wt fun _ => False) ∨ Fd up cf y)) (fun _ H' => muP ws.length cA W H') ⟨[], [v], 0, .non, none, none, none, rfl, s0, .inl ⟨rfl, (fun e he => by cases he), fun u hu => .inl (hu.elim (fun e => by rw [e]; exact List.mem_singleton.mpr rfl) fun ⟨e, he, _⟩ => by cases he)⟩⟩ ?_ ?_
  · rintro σ H1 ⟨cf, wt, it, y, z8, z9, z10, rfl, s, st⟩
    refine ⟨_, rfl, lenL s.hW ⟨_, _, rfl, rfl, _, rfl, ite2 (fun e => ?_) fun e => ?_⟩⟩
    · refine ⟨_, rfl, rfl, _, rfl, ?_⟩
      rcases st with ⟨rfl, op⟩ | fd
      · refine iteT ?_
        -- up = wait.pop()
        obtain ⟨wt', up1, rfl⟩ : ∃ wt' up1, wt = wt' ++ [up1] := by
          cases wt with
          | nil => cases e
          | cons w0 wr => exact ⟨(w0 :: wr).dropLast, (w0 :: wr).getLast (by simp), (List.dropLast_concat_getLast (by simp)).symm⟩
        clear e
        refine ⟨_, rfl, .inl ⟨rfl, _, sqL s.hW⟩, W, _, .int up1, rfl, rfl, s.hW, ?_, ?_⟩
        · rw [List.map_append, List.length_append]
          show (wt'.map V.int ++ [V.int up1])[(wt'.map V.int).length + 1 - 1]? = _
          rw [Nat.add_sub_cancel, List.getElem?_append_right (Nat.le_refl _), Nat.sub_self]
          rfl
        have edl : ((wt' ++ [up1]).map V.int).dropLast = wt'.map V.int := by rw [List.map_append, List.map_singleton, List.dropLast_concat]
        rw [edl]
        obtain ⟨uw, uok⟩ := s.w up1 (List.mem_append_right _ (List.mem_singleton.mpr rfl))
        obtain ⟨la, v1, v2, laD⟩ := rowOf up1 uw
        obtain ⟨rs1, rs2, rs3⟩ := row_split g uw
        have mu0 := mu_eq (n := ws.length) s.hA s.hW
        have nsz := s.n
        rw [List.length_append, List.length_singleton] at nsz
        have few0 := s.cc.few
        have k1 : Kp D H (upd H1 W (.lst (wt'.map V.int))) := fun b o h nb => updN (ne_of_none h nW0) (s.k b o h nb)
        have d1 : Dk c D ns (t + it) (upd H1 W (.lst (wt'.map V.int))) := s.dk.upd wC wD
        have hA1 : upd H1 W (.lst (wt'.map V.int)) cA = some (.dK (kvOf cf)) := updN nWA s.hA
        have hW1 : upd H1 W (.lst (wt'.map V.int)) W = some (.lst (wt'.map V.int)) := updS
        generalize upd H1 W (.lst (wt'.map V.int)) = H2 at k1 d1 hA1 hW1
        -- the walk over the lower ones, whichever way about
        have walk : ∀ (lq : Addr) (lows : List Int) (z10 : Option V) (H5 : Hp), Kp D H2 H5 → Dk c D ns (t + it + 1) H5 → H5 cA = some (.dK (kvOf cf)) → H5 W = some (.lst (wt'.map V.int)) → H5 lq = some (.lst (lows.map V.int)) → lq ≠ D → lq ≠ cA → lq ≠ W → (∀ x, x ∈ lows ↔ x ∈ nfB ws ls up1) →
            t_l_pair_up_for K { nx := fun σ' H' => (∃ (cf : List (Int × Int)) (wt : List Int) (it : Nat) (y : V) (z8 z9 z10 : Option V), σ' = [some (.ref D), some (.ref R), some (.ref U), some (.ref L), some (.int v), some (.ref cA), some (.ref W), some y, z8, z9, z10, none] ∧ Sr H c D cA W ns t ws (nfB ws ls) v lo cf wt it H' ∧ ((y = .non ∧ Op (nfB ws ls) up v cf wt fun _ => False) ∨ Fd up cf y)) ∧ muP ws.length cA W H' < muP ws.length cA W H1, rt := Q, bk := t_l_pair_up_give K { nx := fun _ H' => Q .non H', rt := Q }, ct := fun σ' H' => (∃ (cf : List (Int × Int)) (wt : List Int) (it : Nat) (y : V) (z8 z9 z10 : Option V), σ' = [some (.ref D), some (.ref R), some (.ref U), some (.ref L), some (.int v), some (.ref cA), some (.ref W), some y, z8, z9, z10, none] ∧ Sr H c D cA W ns t ws (nfB ws ls) v lo cf wt it H' ∧ ((y = .non ∧ Op (nfB ws ls) up v cf wt fun _ => False) ∨ Fd up cf y)) ∧ muP ws.length cA W H' < muP ws.length cA W H1 } [some (.ref D), some (.ref R), some (.ref U), some (.ref L), some (.int v), some (.ref cA), some (.ref W), some .non, some (.int up1), some (.ref lq), z10, none] H5 := by
          intro lq lows z10 H5 k5 d5 hA5 hW5 hq5 lqD lqA lqW lm
          refine ⟨_, rfl, lq, rfl, ⟨_, sqL hq5⟩, ?_⟩
          refine for_list (K := K) (a := lq) (xs := lows.map V.int) (fun i σ H' => ∃ (cf' : List (Int × Int)) (wt2 : List Int) (y : V) (z10 : Option V), σ = [some (.ref D), some (.ref R), some (.ref U), some (.ref L), some (.int v), some (.ref cA), some (.ref W), some y, some (.int up1), some (.ref lq), z10, none] ∧ Sr H c D cA W ns t ws (nfB ws ls) v lo cf' wt2 (it + 1) H' ∧ H' lq = some (.lst (lows.map V.int)) ∧ cf.length ≤ cf'.length ∧ wt2.length + cf.length ≤ wt'.length + cf'.length ∧ (up1 = v ∨ ∃ (j : Nat) (l' u' : Int), cf'[j]? = some (l', u') ∧ lo up1 = some l') ∧ ((y = .non ∧ Op (nfB ws ls) up v cf' wt2 fun u => u = up1 ∧ ∀ z ∈ nfB ws ls up1, z ∈ lows.drop i ∨ inK cf' z = true) ∨ Fd up cf' y)) ?_ ?_ ?_ ?_
          · refine ⟨cf, wt', .non, z10, rfl, ⟨k1.trans k5, d5, hA5, hW5, s.cc, s.nr, by omega, fun u hu => s.w u (List.mem_append_left _ hu)⟩, hq5, Nat.le_refl _, Nat.le_refl _, uok, .inl ⟨rfl, op.1, fun u hu => ?_⟩⟩
            rcases op.2 u hu with q | q | q
            · rcases List.mem_append.mp q with q | q
              · exact .inl q
              · exact .inr (.inl ⟨List.mem_singleton.mp q, fun z hz => .inl ((lm z).mpr hz)⟩)
            · exact q.elim
            · exact .inr (.inr q)
          · rintro i σ H' _ ⟨_, _, _, _, _, _, q, _⟩
            exact sqL q
          · rintro i x σ H6 hx ⟨cf2, wt2, y, z10, rfl, s6, hq6, c1, c2, uok2, st⟩
            rw [List.getElem?_map] at hx
            cases en : lows[i]? with
            | none => rw [en] at hx; cases hx
            | some l =>
              rw [en] at hx
              cases Option.some.inj hx
              have lnf : l ∈ nfB ws ls up1 := (lm l).mp (List.mem_of_getElem? en)
              obtain ⟨ldn, lne⟩ := (nfB_dn g uw).mp lnf
              have lw : l ∈ ws := ldn.mem g uw
              have llt : l < up1 := by have := ldn.le g; omega
              have edr : lows.drop i = l :: lows.drop (i + 1) := by
                obtain ⟨hi, ei⟩ := List.getElem?_eq_some_iff.mp en
                rw [List.drop_eq_getElem_cons hi, ei]
              refine ⟨_, rfl, _, rfl, cA, _, rfl, .inl ⟨_, .inl l, .inl s6.hA, rfl, rfl⟩, _, rfl, ?_⟩
              cases ec : valV (kvOf cf2) (.inl l) with
              | some _ =>
                refine iteF (iteF ⟨cf2, wt2, y, _, rfl, s6, hq6, c1, c2, uok2, ?_⟩)
                rcases st with ⟨rfl, op2⟩ | fd
                · refine .inl ⟨rfl, op2.1, fun u hu => ?_⟩
                  rcases op2.2 u hu with q | ⟨q1, q2⟩ | q
                  · exact .inl q
                  · refine .inr (.inl ⟨q1, fun z hz => ?_⟩)
                    rcases q2 z hz with q | q
                    · rw [edr] at q
                      rcases List.mem_cons.mp q with rfl | q
                      · exact .inr (by rw [← kv_some, ec]; rfl)
                      · exact .inl q
                    · exact .inr q
                  · exact .inr (.inr q)
                · exact .inr fd
              | none =>
              refine iteT ⟨_, rfl, rfl, _, rfl, ?_⟩
              rcases st with ⟨rfl, op2⟩ | ⟨i1, l1, u1, rfl, f1, f2⟩
              · refine iteT ?_
                -- a new one
                have cn : Cf ws v lo (cf2 ++ [(l, up1)]) := s6.cc.snoc lw uw llt (kv_none ec) uok2
                have few := cn.few
                rw [List.length_append] at few
                have few : cf2.length + 1 ≤ ws.length := few
                refine ⟨_, rfl, _, rfl, _, rfl, cA, _, rfl, .inl ⟨_, .inl l, s6.hA, rfl, ?_, rfl⟩, ?_⟩
                · rw [kv_len]
                  exact Nat.lt_of_le_of_lt (show cf2.length ≤ 2000 by omega) (by decide)
                rw [kv_put ec]
                have last : (cf2 ++ [(l, up1)])[cf2.length]? = some (l, up1) := by rw [List.getElem?_append_right (Nat.le_refl _), Nat.sub_self]; rfl
                have lift : ∀ {j : Nat} {z : Int × Int}, cf2[j]? = some z → (cf2 ++ [(l, up1)])[j]? = some z := fun {j z} q => by
                  rw [List.getElem?_append_left (List.getElem?_eq_some_iff.mp q).1]
                  exact q
                have nr' : ∀ e ∈ cf2 ++ [(l, up1)], e.1 ∈ nfB ws ls e.2 := fun e he => by
                  rcases List.mem_append.mp he with he | he
                  · exact s6.nr e he
                  · rw [List.mem_singleton.mp he]
                    exact lnf
                have k7 : Kp D H (upd H6 cA (.dK (kvOf (cf2 ++ [(l, up1)])))) := fun b o h nb => updN (ne_of_none h nA) (s6.k b o h nb)
                have d7 : Dk c D ns (t + (it + 1)) (upd H6 cA (.dK (kvOf (cf2 ++ [(l, up1)])))) := s6.dk.upd aC aD
                have hA7 : upd H6 cA (.dK (kvOf (cf2 ++ [(l, up1)]))) cA = some (.dK (kvOf (cf2 ++ [(l, up1)]))) := updS
                have hW7 : upd H6 cA (.dK (kvOf (cf2 ++ [(l, up1)]))) W = some (.lst (wt2.map V.int)) := updN nWA.symm s6.hW
                have hq7 : upd H6 cA (.dK (kvOf (cf2 ++ [(l, up1)]))) lq = some (.lst (lows.map V.int)) := updN lqA hq6
                generalize upd H6 cA (.dK (kvOf (cf2 ++ [(l, up1)]))) = H7 at k7 d7 hA7 hW7 hq7
                have gU7 := k7 _ _ gU ap.uD
                have uok3 : up1 = v ∨ ∃ (j : Nat) (l' u' : Int), (cf2 ++ [(l, up1)])[j]? = some (l', u') ∧ lo up1 = some l' := by
                  rcases uok2 with q | ⟨j, l', u', q3, q4⟩
                  · exact .inl q
                  · exact .inr ⟨j, l', u', lift q3, q4⟩
                have wok : ∀ u ∈ wt2, u ∈ ws ∧ (u = v ∨ ∃ (j : Nat) (l' u' : Int), (cf2 ++ [(l, up1)])[j]? = some (l', u') ∧ lo u = some l') := fun u hu => by
                  obtain ⟨q1, q2⟩ := s6.w u hu
                  refine ⟨q1, ?_⟩
                  rcases q2 with q2 | ⟨j, l', u', q3, q4⟩
                  · exact .inl q2
                  · exact .inr ⟨j, l', u', lift q3, q4⟩
                have n7 := s6.n
                refine ⟨_, rfl, _, rfl, U, _, rfl, .inl ⟨_, .inl l, .inl gU7, rfl, rfl⟩, _, rfl, ?_⟩
                rw [vU l]
                cases eu : up l with
                | none =>
                  refine iteF ?_
                  refine ⟨_, rfl, cf2 ++ [(l, up1)], wt2, .int l, _, rfl, ⟨k7, d7, hA7, hW7, cn, nr', by rw [List.length_append, List.length_singleton]; omega, wok⟩, hq7, by rw [List.length_append, List.length_singleton]; omega, by rw [List.length_append, List.length_singleton]; omega, uok3, .inr ⟨cf2.length, l, up1, rfl, last, eu⟩⟩
                | some u2 =>
                  refine iteT ?_
                  have hlo := (m.inv u2 l).mpr eu
                  obtain ⟨u2S, _, _⟩ := m.dom u2 l hlo
                  refine ⟨_, rfl, .inl ⟨rfl, _, sqL hW7⟩, _, rfl, _, rfl, U, .int u2, rfl, .inl ⟨uk, .inl l, .inl gU7, rfl, by rw [vU l, eu]; rfl⟩, W, _, _, rfl, rfl, hW7, ?_, ?_⟩
                  · rw [List.length_map]
                    exact Nat.lt_of_le_of_lt (show wt2.length ≤ 100000 by omega) (by decide)
                  refine ⟨cf2 ++ [(l, up1)], wt2 ++ [u2], .non, _, rfl, ⟨fun b o h nb => updN (ne_of_none h nW0) (k7 b o h nb), d7.upd wC wD, updN nWA hA7, by rw [updS, List.map_append]; rfl, cn, nr', by rw [List.length_append, List.length_append, List.length_singleton, List.length_singleton]; omega, fun u hu => ?_⟩, updN lqW hq7, by rw [List.length_append, List.length_singleton]; omega, by rw [List.length_append, List.length_append, List.length_singleton, List.length_singleton]; omega, uok3, .inl ⟨rfl, fun e he => ?_, fun u hu => ?_⟩⟩
                  · rcases List.mem_append.mp hu with hu | hu
                    · exact wok u hu
                    · rw [List.mem_singleton.mp hu]
                      exact ⟨hS u2 u2S, .inr ⟨cf2.length, l, up1, last, hlo⟩⟩
                  · rcases List.mem_append.mp he with he | he
                    · exact op2.1 e he
                    · rw [List.mem_singleton.mp he]
                      show up l ≠ none
                      rw [eu]
                      exact fun z => nomatch z
                  · have old : (u = v ∨ ∃ e ∈ cf2, up e.1 = some u) → u ∈ wt2 ++ [u2] ∨ (u = up1 ∧ ∀ z ∈ nfB ws ls up1, z ∈ lows.drop (i + 1) ∨ inK (cf2 ++ [(l, up1)]) z = true) ∨ ∀ z ∈ nfB ws ls u, inK (cf2 ++ [(l, up1)]) z = true := fun h => by
                      rcases op2.2 u h with q | ⟨q1, q2⟩ | q
                      · exact .inl (List.mem_append_left _ q)
                      · refine .inr (.inl ⟨q1, fun z hz => ?_⟩)
                        rcases q2 z hz with q | q
                        · rw [edr] at q
                          rcases List.mem_cons.mp q with rfl | q
                          · exact .inr (inK_iff.mpr ⟨up1, List.mem_append_right _ (List.mem_singleton.mpr rfl)⟩)
                          · exact .inl q
                        · exact .inr (inK_left q)
                      · exact .inr (.inr fun z hz => inK_left (q z hz))
                    rcases hu with h | ⟨e, he, h⟩
                    · exact old (.inl h)
                    · rcases List.mem_append.mp he with he | he
                      · exact old (.inr ⟨e, he, h⟩)
                      · rw [List.mem_singleton.mp he] at h
                        have h : up l = some u := h
                        rw [eu] at h
                        cases Option.some.inj h
                        exact .inl (List.mem_append_right _ (List.mem_singleton.mpr rfl))
              · refine iteF ⟨cf2, wt2, _, _, rfl, s6, hq6, c1, c2, uok2, .inr ⟨i1, l1, u1, rfl, f1, f2⟩⟩
          · rintro σ H6 ⟨cf2, wt2, y, z10, rfl, s6, hq6, c1, c2, _, st⟩
            refine ⟨⟨cf2, wt2, it + 1, y, _, _, z10, rfl, s6, ?_⟩, ?_⟩
            · rcases st with ⟨rfl, op2⟩ | fd
              · refine .inl ⟨rfl, op2.1, fun u hu => ?_⟩
                rcases op2.2 u hu with q | ⟨q1, q2⟩ | q
                · exact .inl q
                · refine .inr (.inr fun z hz => ?_)
                  rw [q1] at hz
                  rcases q2 z hz with q | q
                  · rw [List.length_map, List.drop_length] at q
                    cases q
                  · exact q
                · exact .inr (.inr q)
              · exact .inr fd
            · have few := s6.cc.few
              rw [mu0, mu_eq s6.hA s6.hW, List.length_append, List.length_singleton]
              omega
        -- lows = rows[up][:-1]
        have hR2 := k1 _ _ hR ap.rD
        have la2 := k1 _ _ v2 laD
        refine ⟨_, rfl, _, rfl, R, .ref la, rfl, .inl ⟨_, Sum.inl up1, .inl hR2, rfl, v1.symm⟩, ?_⟩
        dsimp only [tNoPart]
        refine ⟨_, rfl, _, rfl, la, _, rfl, sqL la2, fun q nq => ?_⟩
        rw [cut_last]
        have qD : q ≠ D := d1.neD nq
        have qC : q ≠ c := d1.neC nq
        have qA : q ≠ cA := (ne_of_none hA1 nq).symm
        have qW : q ≠ W := (ne_of_none hW1 nq).symm
        have k3 : Kp D H2 (upd H2 q (.lst (((belowL ws ls up1).dropLast).map V.int))) := .new nq
        have d3 : Dk c D ns (t + it) (upd H2 q (.lst (((belowL ws ls up1).dropLast).map V.int))) := d1.upd qC qD
        have hq3 : upd H2 q (.lst (((belowL ws ls up1).dropLast).map V.int)) q = some (.lst (((belowL ws ls up1).dropLast).map V.int)) := updS
        generalize upd H2 q (.lst (((belowL ws ls up1).dropLast).map V.int)) = H3 at k3 d3 hq3
        refine ⟨_, rfl, c, D, ns, t + it, 2, rfl, d3, by omega, by decide, by decide, fun yy H4 y0 y1 d4 fr4 => ⟨rfl, _, rfl, ?_⟩⟩
        have k4 : Kp D H2 H4 := k3.trans (.fr fr4)
        have hq4 := (Kp.fr fr4) _ _ hq3 qD
        have hA4 := k4 _ _ hA1 aD
        have hW4 := k4 _ _ hW1 wD
        refine ite2 (fun _ => ?_) fun _ => walk q _ _ H4 k4 d4 hA4 hW4 hq4 qD qA qW rs1
        refine ⟨_, rfl, q, _, rfl, sqL hq4, fun q2 nq2 => ?_⟩
        rw [← List.map_reverse]
        exact walk q2 _ _ _ (k4.trans (.new nq2)) (d4.upd (d4.neC nq2) (d4.neD nq2)) (updN (ne_of_none hA4 nq2) hA4) (updN (ne_of_none hW4 nq2) hW4) updS (d4.neD nq2) (ne_of_none hA4 nq2).symm (ne_of_none hW4 nq2).symm (fun x => by rw [List.mem_reverse]; exact rs1 x)
      · obtain ⟨i, l, u, rfl, hl, hul⟩ := fd
        exact iteF (fin s (.inr ⟨i, l, u, rfl, hl, hul⟩))
    · refine iteF ?_
      have wn : wt = [] := by
        cases wt with
        | nil => rfl
        | cons w0 wr => exact absurd (decide_eq_true (show (0 : Int) < (((w0 :: wr).map V.int).length : Nat) by rw [List.length_map, List.length_cons]; omega)) e
      exact fin s (st.imp (fun ⟨q1, q2⟩ => ⟨q1, wn, q2⟩) id)
  · intro σ H Q Q' f h
    obtain ⟨v, e, x, n, e2, h2, i, j, e3, e4, b, e5, q⟩ := h
    refine ⟨v, e, x, n, e2, h2, i, j, e3, e4, b, e5, ?_⟩
    cases b with
    | false => exact f _ _ q
    | true =>
      obtain ⟨w, e6, e7, b2, e8, q⟩ := q
      exact ⟨w, e6, e7, b2, e8, f _ _ q⟩
end
end Fw

set_option Elab.async false
set_option linter.all false
set_option maxRecDepth 100000
set_option maxHeartbeats 4000000
namespace Fw
open PySem L2 RZ RT
/-- those of a locked dict's keys that a test keeps -/
theorem tLc_keys {σ : L2.St} {r s : Nat} {tt : TT} {p : Int → Bool} {R : Addr} {od : Obj} {ws : List Int} {ra : List Addr} {H : Hp} {Q : VK} (hr : σ[r]? = some (some (.ref R))) (hs : s < σ.length) (hR : H R = some (.frz od (.dK (rowsKV ws ra)))) (hl : ra.length = ws.length) (hz : ws.length ≤ 1000)
    (ht : ∀ (w : Int) (H' : Hp) (Y : Bool → Hp → Prop), w ∈ ws → Same H H' → Y (p w) H' → tt ((σ.set s none).set s (some (.int w))) H' Y)
    (hd : ∀ D H', H D = none → Same H H' → H' D = some (.lst ((ws.filter p).map V.int)) → Q (.ref D) H') : tLc (iKeys (tVar r)) (gName s) tt (tVar s) [s] σ H Q := by
  refine ⟨_, hr, R, od, rfl, .inl ⟨_, hR, fun D nD => ?_⟩⟩
  refine lc_it walk_keys (fun i H' => Same H H' ∧ H' D = some (.lst (((ws.take i).filter p).map V.int))) ⟨samNew nD, updS⟩ (fun i H' _ q => q.1 _ _ hR) ?_ ?_
  · rintro i y H2 H3 hi ⟨s2, hD⟩ ⟨rfl, key, val, hkv, rfl⟩
    rw [rowsKV_length hl] at hi
    have ew : ws[i]? = some ws[i] := List.getElem?_eq_getElem hi
    have hai : i < ra.length := by omega
    have ekv : (rowsKV ws ra)[i]? = some (.inl ws[i], .ref ra[i]) := by
      unfold rowsKV
      rw [List.getElem?_zipWith, ew, List.getElem?_eq_getElem hai]
    rw [ekv] at hkv
    cases Option.some.inj hkv
    refine ⟨?_, ht ws[i] _ _ (List.getElem_mem hi) s2 ?_⟩
    · show (((σ.set s none).set s _).set s none) = σ.set s none
      rw [List.set_set, List.set_set]
    rw [filt_snoc ew]
    refine ite2 (fun e => ?_) fun e => ?_
    · rw [if_pos e]
      refine ⟨.int ws[i], ?_, _, hD, ?_, Same.updF s2 nD, ?_⟩
      · exact List.getElem?_set_self (show s < (σ.set s none).length by rw [List.length_set]; exact hs)
      · rw [List.length_map]
        have := List.length_filter_le p (ws.take i)
        rw [List.length_take] at this
        exact Nat.lt_of_le_of_lt (show ((ws.take i).filter p).length ≤ 1000 by omega) (by decide)
      · rw [updS, List.map_append]
        rfl
    · rw [if_neg e, List.append_nil]
      exact ⟨s2, hD⟩
  · rintro H2 ⟨s2, hD⟩
    rw [rowsKV_length hl, List.take_length] at hD
    exact hd D H2 nD s2 hD
theorem unlock {H H' : Hp} {d : Addr} {u : HO} {od : Obj} (hd : H d = some u) (s : Same (upd H d (.frz od u)) H') : Same H (upd H' d u) := fun b o e => by
  by_cases q : b = d
  · subst q
    rw [hd] at e
    cases Option.some.inj e
    exact updS
  · exact updN q (s b o (updN q e))
def sp_l_high_apart (_ : PySem.W.Frag) : Sp := fun vs H Q _ => ∃ (R U L : Addr) (ws : List Int) (ls : List (Int × Int)) (ra : List Addr) (lo up : Int → Option Int) (cl : Int → Bool) (b : Nat), vs = [.ref R, .ref U, .ref L] ∧ RowsAt H R ws ls ws ra ∧ U ≠ R ∧ L ≠ R ∧ Good ws ls ∧ PD H U L lo up b ∧ Mt ws ws lo up ∧ Kn (nfB ws ls) ws lo up cl ∧ ws.length ≤ 60 ∧
  ∀ (r : Addr) (cl' : Int → Bool) (H' : Hp), Same H H' → H' r = some (.tup ((ws.filter (apB lo cl')).map V.int)) → Kn (nfB ws ls) ws lo up cl' → Q (.ref r) H'
def sp_l_low_apart (_ : PySem.W.Frag) : Sp := fun vs H Q _ => ∃ (R U L : Addr) (ws : List Int) (ls : List (Int × Int)) (ra : List Addr) (lo up : Int → Option Int) (cl : Int → Bool) (b : Nat), vs = [.ref R, .ref U, .ref L] ∧ RowsAt H R ws ls ws ra ∧ U ≠ R ∧ L ≠ R ∧ Good ws ls ∧ PD H U L lo up b ∧ Mt ws ws lo up ∧ Kn (nfB ws ls) ws lo up cl ∧ ws.length ≤ 60 ∧
  ∀ (r : Addr) (lf : Int → Bool) (H' : Hp), Same H H' → H' r = some (.tup ((ws.filter (dpB up lf)).map V.int)) → Kd (nfB ws ls) ws lo up lf → Q (.ref r) H'
abbrev N_l_high_apart : List Str := ["_law_rows", "_law_ups", "_law_downs", "_law_wait", "_law_one", "_law_left", "_law_right", "_law_low"]
def t_l_high_apart_one (K : PySem.W.Frag) : TS := (tIfS (tTest (tOp (rIn K true) (tVar 7) (tVar 6))) (tSeq (tDrop (tBM K "list" rAppend (tVar 6) (tCons (tVar 7) tNil)))
    (tIfS (tTest (tOp (rIn K true) (tDGet (tVar 1) (tVar 7)) (tVar 5))) (tSeq (tDrop (tBM K "list" rAppend (tVar 5) (tCons (tDGet (tVar 1) (tVar 7)) tNil)))
    (tDrop (tBM K "list" rAppend (tVar 3) (tCons (tDGet (tVar 1) (tVar 7)) tNil)))) tNext)) tNext)
def t_l_high_apart_for (K : PySem.W.Frag) : TS := (tFor (iList K (tSl (rSlL K) (tDGet (tVar 0) (tBM0 K "list" rPop (tVar 3))) tNoPart (tPart (tUn rNegI (tC (.int 1)))))) (gName 7) (t_l_high_apart_one K))
def t_l_high_apart_end (K : PySem.W.Frag) : TS := (tRet (tCB (fTupleOf K) (tCons (tLockE (tLc (iKeys (tVar 0)) (gName 4) (tAnd (tTest (tOp (rIn K false) (tVar 4) (tVar 5))) (tTest (tOp (rIn K true) (tVar 4) (tVar 6)))) (tVar 4) [4])) tNil)))
def t_l_high_apart_loop (K : PySem.W.Frag) : TS := (tSeq (tWhile (tTest (tOp rGtI (tCB (fLen K) (tCons (tVar 3) tNil)) (tC (.int 0)))) (t_l_high_apart_for K))
    (t_l_high_apart_end K))
def t_l_high_apart_b (K : PySem.W.Frag) : TS := (tSeq (tAsg (tCB (fListOf K) (tCons (tVar 3) tNil)) (gName 5))
    (tSeq (tAsg (tLst tNil) (gName 6))
    (t_l_high_apart_loop K)))
def t_l_high_apart (K : PySem.W.Frag) : TS := (tSeq (tLock (tAsg (tLc (iKeys (tVar 0)) (gName 4) (tB (tDNotIn (tVar 4) (tVar 2))) (tVar 4) [4]) (gName 3)))
    (t_l_high_apart_b K))
abbrev N_l_low_apart : List Str := ["_law_rows", "_law_ups", "_law_downs", "_law_wait", "_law_one", "_law_right", "_law_left", "_law_low", "_law_up"]
def t_l_low_apart_one (K : PySem.W.Frag) : TS := (tIfS (tAnd (tTest (tOp rNe (tVar 8) (tVar 7))) (tAnd (tTest (tOp (rIn K false) (tVar 7) (tDGet (tVar 0) (tVar 8)))) (tTest (tOp (rIn K true) (tVar 8) (tVar 6))))) (tSeq (tDrop (tBM K "list" rAppend (tVar 6) (tCons (tVar 8) tNil)))
    (tIfS (tTest (tOp (rIn K true) (tDGet (tVar 2) (tVar 8)) (tVar 5))) (tSeq (tDrop (tBM K "list" rAppend (tVar 5) (tCons (tDGet (tVar 2) (tVar 8)) tNil)))
    (tDrop (tBM K "list" rAppend (tVar 3) (tCons (tDGet (tVar 2) (tVar 8)) tNil)))) tNext)) tNext)
def t_l_low_apart_for (K : PySem.W.Frag) : TS := (tLock (tFor (iKeys (tVar 0)) (gName 8) (t_l_low_apart_one K)))
def t_l_low_apart_end (K : PySem.W.Frag) : TS := (tRet (tCB (fTupleOf K) (tCons (tLockE (tLc (iKeys (tVar 0)) (gName 4) (tAnd (tTest (tOp (rIn K false) (tVar 4) (tVar 5))) (tTest (tOp (rIn K true) (tVar 4) (tVar 6)))) (tVar 4) [4])) tNil)))
def t_l_low_apart_loop (K : PySem.W.Frag) : TS := (tSeq (tWhile (tTest (tOp rGtI (tCB (fLen K) (tCons (tVar 3) tNil)) (tC (.int 0)))) (tSeq (tAsg (tBM0 K "list" rPop (tVar 3)) (gName 7))
    (t_l_low_apart_for K)))
    (t_l_low_apart_end K))
def t_l_low_apart_b (K : PySem.W.Frag) : TS := (tSeq (tAsg (tCB (fListOf K) (tCons (tVar 3) tNil)) (gName 5))
    (tSeq (tAsg (tLst tNil) (gName 6))
    (t_l_low_apart_loop K)))
def t_l_low_apart (K : PySem.W.Frag) : TS := (tSeq (tLock (tAsg (tLc (iKeys (tVar 0)) (gName 4) (tB (tDNotIn (tVar 4) (tVar 1))) (tVar 4) [4]) (gName 3)))
    (t_l_low_apart_b K))
theorem len_l_high_apart {K : PySem.W.Frag} {vs : List V} {H : Hp} {Q : VK} {E : XK} (h : sp_l_high_apart K vs H Q E) : vs.length = 3 := by
  obtain ⟨_, _, _, _, _, _, _, _, _, _, rfl, _⟩ := h
  rfl
theorem len_l_low_apart {K : PySem.W.Frag} {vs : List V} {H : Hp} {Q : VK} {E : XK} (h : sp_l_low_apart K vs H Q E) : vs.length = 3 := by
  obtain ⟨_, _, _, _, _, _, _, _, _, _, rfl, _⟩ := h
  rfl
/-- going up and down from those that have none below them -/
structure Hs (H : Hp) (W A B : Addr) (ws : List Int) (nf : Int → List Int) (lo up : Int → Option Int) (cl : Int → Bool) (wt lf rt : List Int) (cur : Int → Prop) (H' : Hp) : Prop where
  s : Same H H'
  hW : H' W = some (.lst (wt.map V.int))
  hA : H' A = some (.lst (lf.map V.int))
  hB : H' B = some (.lst (rt.map V.int))
  nd : rt.Nodup
  rc : ∀ l ∈ rt, cl l = true
  lm : ∀ u, u ∈ lf ↔ (u ∈ ws ∧ lo u = none) ∨ ∃ l ∈ rt, up l = some u
  wl : ∀ u ∈ wt, u ∈ lf
  op : ∀ u ∈ lf, u ∈ wt ∨ cur u ∨ ∀ z ∈ nf u, z ∈ rt
  n1 : wt.length ≤ ws.length + rt.length
  n2 : lf.length ≤ ws.length + rt.length
def mu2 (n : Nat) (W B : Addr) (H : Hp) : Nat := 2 * (n - lenAt B H) + lenAt W H
theorem lenAt_eq {H : Hp} {c : Addr} {xs : List Int} (h : H c = some (.lst (xs.map V.int))) : lenAt c H = xs.length := by
  unfold lenAt
  rw [h]
  exact List.length_map ..
theorem last_at {wt : List Int} {u : Int} : ((wt ++ [u]).map V.int)[((wt ++ [u]).map V.int).length - 1]? = some (V.int u) := by
  rw [List.map_append, List.length_append]
  show (wt.map V.int ++ [V.int u])[(wt.map V.int).length + 1 - 1]? = _
  rw [Nat.add_sub_cancel, List.getElem?_append_right (Nat.le_refl _), Nat.sub_self]
  rfl
theorem drop_last {wt : List Int} {u : Int} : ((wt ++ [u]).map V.int).dropLast = wt.map V.int := by rw [List.map_append, List.map_singleton, List.dropLast_concat]
theorem ne_nil_last {wt : List Int} (h : (0 : Int) < ((wt.map V.int).length : Nat)) : ∃ wt' u, wt = wt' ++ [u] := by
  cases wt with
  | nil => exact absurd h (by decide)
  | cons w0 wr => exact ⟨(w0 :: wr).dropLast, (w0 :: wr).getLast (by simp), (List.dropLast_concat_getLast (by simp)).symm⟩
theorem row_of {H : Hp} {R : Addr} {ws : List Int} {ls : List (Int × Int)} {ra : List Addr} (h : RowsAt H R ws ls ws ra) (nd : ws.Nodup) {u : Int} (hu : u ∈ ws) : ∃ a, valV (rowsKV ws ra) (.inl u) = some (.ref a) ∧ H a = some (.lst ((belowL ws ls u).map V.int)) := by
  obtain ⟨hal, hR, hrow⟩ := h
  obtain ⟨i, hi, e⟩ := List.getElem_of_mem hu
  have e2 : ws[i]? = some u := List.getElem?_eq_some_iff.mpr ⟨hi, e⟩
  have ea : ra[i]? = some ra[i] := List.getElem?_eq_getElem (by omega)
  exact ⟨ra[i], rows_val nd e2 ea, hrow i u _ e2 ea⟩
theorem contains_not {l : List Int} {x : Int} (h : x ∉ l) : l.contains x = false := by
  rw [Bool.eq_false_iff]
  exact fun e => h (List.contains_iff_mem.mp e)
section
variable {K : PySem.W.Frag} {vs : List V} {H : Hp} {Q : VK} {E : XK}
theorem pure_l_high_apart (h : sp_l_high_apart K vs H Q E) : t_l_high_apart K { nx := fun _ H' => Q .non H', rt := Q } (start N_l_high_apart vs) H := by
  obtain ⟨R, U, L, ws, ls, ra, lo, up, cl, b, rfl, rows, uR, lR, g, pd, m, kn, hn, k⟩ := h
  obtain ⟨lk, gL, lL, vL⟩ := id pd.hL
  obtain ⟨uk, gU, lU, vU⟩ := id pd.hU
  have nd := rising_nodup g.inc
  have hR := rows.2.1
  have clw : ∀ l, cl l = true → l ∈ ws ∧ ∃ u, up l = some u ∧ u ∈ ws ∧ lo u = some l ∧ ∀ z ∈ nfB ws ls u, cl z = true := fun l hl => by
    obtain ⟨u, h1, h2⟩ := kn.c1 l hl
    have h3 := (m.inv u l).mpr h1
    obtain ⟨q1, q2, _⟩ := m.dom u l h3
    exact ⟨q2, u, h1, q1, h3, h2⟩
  refine ⟨R, _, hR, True.intro, fun od => ?_⟩
  refine tLc_keys (R := R) (p := freeB lo) rfl (by show (4 : Nat) < 8; decide) updS rows.1 (by omega) (fun w H' Y _ s y => ?_) fun W H1 nW s1 hW => ?_
  · refine ⟨_, rfl, _, rfl, L, _, rfl, .inl ⟨_, .inl w, .inl (s _ _ (updN lR gL)), rfl, rfl⟩, _, rfl, ?_⟩
    rw [vL w]
    unfold freeB at y
    cases e : lo w <;> (rw [e] at y; exact y)
  have sU := unlock hR s1
  have nWR : W ≠ R := fun z => by rw [z, updS] at nW; cases nW
  refine ⟨s1 _ _ updS, ?_⟩
  have hW2 : upd H1 R (.dK (rowsKV ws ra)) W = some (.lst ((ws.filter (freeB lo)).map V.int)) := updN nWR hW
  have nW0 : H W = none := by
    rw [upd_ne nWR] at nW
    exact nW
  generalize upd H1 R (.dK (rowsKV ws ra)) = H2 at sU hW2
  clear hW s1 nW H1
  refine ⟨_, rfl, W, _, rfl, .inl (sqL hW2), fun A nA => ?_⟩
  refine ⟨by show (0 : Nat) ≤ sizeLine; decide, fun B nB => ?_⟩
  have nA2 : H A = none := sU.free nA
  have nAB : A ≠ B := ne_of_none updS nB
  have nWA : W ≠ A := ne_of_none hW2 nA
  have nB2 : H2 B = none := by
    rw [upd_ne (fun z => nAB z.symm)] at nB
    exact nB
  have nWB : W ≠ B := ne_of_none hW2 nB2
  have nB0 : H B = none := sU.free nB2
  show t_l_high_apart_loop K { nx := fun _ H' => Q .non H', rt := Q } [some (.ref R), some (.ref U), some (.ref L), some (.ref W), none, some (.ref A), some (.ref B), none] _
  have fl : (ws.filter (freeB lo)).length ≤ ws.length := List.length_filter_le _ _
  have st0 : Hs H W A B ws (nfB ws ls) lo up cl (ws.filter (freeB lo)) (ws.filter (freeB lo)) [] (fun _ => False) (upd (upd H2 A (.lst ((ws.filter (freeB lo)).map V.int))) B (.lst [])) := by
    refine ⟨(sU.trans (samNew nA)).trans (samNew nB), updN nWB (updN nWA hW2), updN nAB updS, updS, List.nodup_nil, (fun l hl => by cases hl), fun u => ?_, fun u hu => hu, fun u hu => .inl hu, by rw [List.length_nil]; omega, by rw [List.length_nil]; omega⟩
    rw [List.mem_filter]
    refine ⟨fun h => .inl ⟨h.1, ?_⟩, fun h => ?_⟩
    · have := h.2
      unfold freeB at this
      exact Option.isNone_iff_eq_none.mp this
    · rcases h with h | ⟨l, hl, _⟩
      · exact ⟨h.1, by unfold freeB; rw [h.2]; rfl⟩
      · cases hl
  refine while_by (fun σ H' => ∃ (wt lf rt : List Int) (z7 : Option V), σ = [some (.ref R), some (.ref U), some (.ref L), some (.ref W), none, some (.ref A), some (.ref B), z7] ∧ Hs H W A B ws (nfB ws ls) lo up cl wt lf rt (fun _ => False) H') (fun _ H' => mu2 ws.length W B H') ⟨_, _, _, _, rfl, st0⟩ ?_ ?_
  · rintro σ H3 ⟨wt, lf, rt, z7, rfl, st⟩
    refine ⟨_, rfl, lenL st.hW ⟨_, _, rfl, rfl, _, rfl, ite2 (fun e => ?_) fun e => ?_⟩⟩
    · obtain ⟨wt', u1, rfl⟩ := ne_nil_last (of_decide_eq_true e)
      clear e
      have u1l := st.wl u1 (List.mem_append_right _ (List.mem_singleton.mpr rfl))
      have u1w : u1 ∈ ws := by
        rcases (st.lm u1).mp u1l with h | ⟨l, hl, h⟩
        · exact h.1
        · exact (m.dom u1 l ((m.inv u1 l).mpr h)).1
      have u1c : ∀ z ∈ nfB ws ls u1, cl z = true := fun z hz => by
        rcases (st.lm u1).mp u1l with h | ⟨l, hl, h⟩
        · exact kn.c2 u1 h.1 h.2 z hz
        · obtain ⟨u, h1, h2⟩ := kn.c1 l (st.rc l hl)
          rw [h] at h1
          cases Option.some.inj h1
          exact h2 z hz
      have mu0 : mu2 ws.length W B H3 = 2 * (ws.length - rt.length) + (wt'.length + 1) := by
        unfold mu2
        rw [lenAt_eq st.hW, lenAt_eq st.hB, List.length_append, List.length_singleton]
      obtain ⟨la, v1, v2⟩ := row_of rows nd u1w
      obtain ⟨rs1, rs2, rs3⟩ := row_split g u1w
      suffices hh : ∀ D : Ends, (∀ σ' H', ((∃ (wt lf rt : List Int) (z7 : Option V), σ' = [some (.ref R), some (.ref U), some (.ref L), some (.ref W), none, some (.ref A), some (.ref B), z7] ∧ Hs H W A B ws (nfB ws ls) lo up cl wt lf rt (fun _ => False) H') ∧ mu2 ws.length W B H' < mu2 ws.length W B H3) → D.nx σ' H') → t_l_high_apart_for K D [some (.ref R), some (.ref U), some (.ref L), some (.ref W), none, some (.ref A), some (.ref B), z7] H3 from hh _ fun _ _ h => h
      intro DD kD
      refine ⟨_, rfl, _, rfl, .inl ⟨rfl, _, sqL st.hW⟩, W, _, .int u1, rfl, rfl, st.hW, last_at, ?_⟩
      rw [drop_last]
      have sp : Same H (upd H3 W (.lst (wt'.map V.int))) := Same.updF st.s nW0
      have hA3 : upd H3 W (.lst (wt'.map V.int)) A = some (.lst (lf.map V.int)) := updN nWA.symm st.hA
      have hB3 : upd H3 W (.lst (wt'.map V.int)) B = some (.lst (rt.map V.int)) := updN nWB.symm st.hB
      have hW3 : upd H3 W (.lst (wt'.map V.int)) W = some (.lst (wt'.map V.int)) := updS
      generalize upd H3 W (.lst (wt'.map V.int)) = H4 at sp hA3 hB3 hW3
      refine ⟨R, .ref la, rfl, .inl ⟨_, .inl u1, .inl (sp _ _ hR), rfl, v1.symm⟩, ?_⟩
      dsimp only [tNoPart]
      refine ⟨_, rfl, _, rfl, la, _, rfl, sqL (sp _ _ v2), fun q nq => ?_⟩
      rw [cut_last]
      have n1 := st.n1
      rw [List.length_append, List.length_singleton] at n1
      have qW : W ≠ q := ne_of_none hW3 nq
      have qA : A ≠ q := ne_of_none hA3 nq
      have qB : B ≠ q := ne_of_none hB3 nq
      have q0 : H q = none := sp.free nq
      refine ⟨q, rfl, ⟨_, sqL updS⟩, ?_⟩
      refine for_list (K := K) (a := q) (xs := ((belowL ws ls u1).dropLast).map V.int) (fun i σ H' => ∃ (wt2 lf2 rt2 : List Int) (z7 : Option V), σ = [some (.ref R), some (.ref U), some (.ref L), some (.ref W), none, some (.ref A), some (.ref B), z7] ∧ Hs H W A B ws (nfB ws ls) lo up cl wt2 lf2 rt2 (fun u => u = u1 ∧ ∀ z ∈ nfB ws ls u1, z ∈ ((belowL ws ls u1).dropLast).drop i ∨ z ∈ rt2) H' ∧ H' q = some (.lst (((belowL ws ls u1).dropLast).map V.int)) ∧ rt.length ≤ rt2.length ∧ wt2.length + rt.length ≤ wt'.length + rt2.length) ?_ ?_ ?_ ?_
      · refine ⟨wt', lf, rt, z7, rfl, ⟨sp.trans (samNew nq), updN qW hW3, updN qA hA3, updN qB hB3, st.nd, st.rc, st.lm, fun u hu => st.wl u (List.mem_append_left _ hu), fun u hu => ?_, by omega, st.n2⟩, updS, Nat.le_refl _, Nat.le_refl _⟩
        rcases st.op u hu with h | h | h
        · rcases List.mem_append.mp h with h | h
          · exact .inl h
          · exact .inr (.inl ⟨List.mem_singleton.mp h, fun z hz => .inl ((rs1 z).mpr hz)⟩)
        · exact h.elim
        · exact .inr (.inr h)
      · rintro i σ H' _ ⟨_, _, _, _, _, _, hq, _⟩
        exact sqL hq
      · rintro i x σ H5 hx ⟨wt2, lf2, rt2, z7, rfl, s5, hq, c1, c2⟩
        rw [List.getElem?_map] at hx
        cases en : ((belowL ws ls u1).dropLast)[i]? with
        | none => rw [en] at hx; cases hx
        | some l =>
          rw [en] at hx
          cases Option.some.inj hx
          have lnf : l ∈ nfB ws ls u1 := (rs1 l).mp (List.mem_of_getElem? en)
          have edr : ((belowL ws ls u1).dropLast).drop i = l :: ((belowL ws ls u1).dropLast).drop (i + 1) := by
            obtain ⟨hi, ei⟩ := List.getElem?_eq_some_iff.mp en
            rw [List.drop_eq_getElem_cons hi, ei]
          refine ⟨_, rfl, _, rfl, B, _, rfl, .inl (sqL s5.hB), rfl, flat_ints _, _, rfl, ?_⟩
          rw [inV_ints]
          by_cases hin : l ∈ rt2
          · rw [List.contains_iff_mem.mpr hin]
            refine iteF ⟨wt2, lf2, rt2, _, rfl, ⟨s5.s, s5.hW, s5.hA, s5.hB, s5.nd, s5.rc, s5.lm, s5.wl, fun u hu => ?_, s5.n1, s5.n2⟩, hq, c1, c2⟩
            rcases s5.op u hu with h | ⟨h1, h2⟩ | h
            · exact .inl h
            · refine .inr (.inl ⟨h1, fun z hz => ?_⟩)
              rcases h2 z hz with h | h
              · rw [edr] at h
                rcases List.mem_cons.mp h with rfl | h
                · exact .inr hin
                · exact .inl h
              · exact .inr h
            · exact .inr (.inr h)
          · rw [contains_not hin]
            refine iteT ?_
            obtain ⟨lw, w, hw1, hw2, hw3, hw4⟩ := clw l (u1c l lnf)
            have few : (rt2 ++ [l]).length ≤ ws.length := length_sub (by
              rw [List.nodup_append]
              exact ⟨s5.nd, List.pairwise_singleton _ _, fun a ha y hy => by rw [List.mem_singleton.mp hy]; exact fun z => hin (z ▸ ha)⟩) fun x hx => by
                rcases List.mem_append.mp hx with hx | hx
                · exact (clw x (s5.rc x hx)).1
                · rw [List.mem_singleton.mp hx]; exact lw
            rw [List.length_append, List.length_singleton] at few
            have z1 := s5.n1
            have z2 := s5.n2
            refine ⟨_, rfl, .inl ⟨rfl, _, sqL s5.hB⟩, _, rfl, B, _, _, rfl, rfl, s5.hB, ?_, ?_⟩
            · rw [List.length_map]
              exact Nat.lt_of_le_of_lt (show rt2.length ≤ 1000 by omega) (by decide)
            have eB : rt2.map V.int ++ [V.int l] = (rt2 ++ [l]).map V.int := by rw [List.map_append]; rfl
            rw [eB]
            have s6 : Same H (upd H5 B (.lst ((rt2 ++ [l]).map V.int))) := Same.updF s5.s nB0
            have hA6 : upd H5 B (.lst ((rt2 ++ [l]).map V.int)) A = some (.lst (lf2.map V.int)) := updN nAB s5.hA
            have hW6 : upd H5 B (.lst ((rt2 ++ [l]).map V.int)) W = some (.lst (wt2.map V.int)) := updN nWB s5.hW
            have hB6 : upd H5 B (.lst ((rt2 ++ [l]).map V.int)) B = some (.lst ((rt2 ++ [l]).map V.int)) := updS
            have hq6 : upd H5 B (.lst ((rt2 ++ [l]).map V.int)) q = some (.lst (((belowL ws ls u1).dropLast).map V.int)) := updN qB.symm hq
            generalize upd H5 B (.lst ((rt2 ++ [l]).map V.int)) = H6 at s6 hA6 hW6 hB6 hq6
            have nwl : w ∉ lf2 := fun hm => by
              rcases (s5.lm w).mp hm with h | ⟨l', hl', h⟩
              · rw [hw3] at h
                cases h.2
              · have := (m.inv w l').mpr h
                rw [hw3] at this
                cases Option.some.inj this
                exact hin hl'
            refine ⟨_, rfl, _, rfl, U, .int w, rfl, .inl ⟨uk, .inl l, .inl (s6 _ _ gU), rfl, by rw [vU l, hw1]; rfl⟩, _, rfl, A, _, rfl, .inl (sqL hA6), rfl, flat_ints _, _, rfl, ?_⟩
            rw [inV_ints, contains_not nwl]
            refine iteT ?_
            refine ⟨_, rfl, .inl ⟨rfl, _, sqL hA6⟩, _, rfl, _, rfl, U, .int w, rfl, .inl ⟨uk, .inl l, .inl (s6 _ _ gU), rfl, by rw [vU l, hw1]; rfl⟩, A, _, _, rfl, rfl, hA6, ?_, ?_⟩
            · rw [List.length_map]
              exact Nat.lt_of_le_of_lt (show lf2.length ≤ 1000 by omega) (by decide)
            have eA : lf2.map V.int ++ [V.int w] = (lf2 ++ [w]).map V.int := by rw [List.map_append]; rfl
            rw [eA]
            have s7 : Same H (upd H6 A (.lst ((lf2 ++ [w]).map V.int))) := Same.updF s6 nA2
            have hA7 : upd H6 A (.lst ((lf2 ++ [w]).map V.int)) A = some (.lst ((lf2 ++ [w]).map V.int)) := updS
            have hW7 : upd H6 A (.lst ((lf2 ++ [w]).map V.int)) W = some (.lst (wt2.map V.int)) := updN nWA hW6
            have hB7 : upd H6 A (.lst ((lf2 ++ [w]).map V.int)) B = some (.lst ((rt2 ++ [l]).map V.int)) := updN nAB.symm hB6
            have hq7 : upd H6 A (.lst ((lf2 ++ [w]).map V.int)) q = some (.lst (((belowL ws ls u1).dropLast).map V.int)) := updN qA.symm hq6
            generalize upd H6 A (.lst ((lf2 ++ [w]).map V.int)) = H7 at s7 hA7 hW7 hB7 hq7
            refine ⟨_, rfl, .inl ⟨rfl, _, sqL hW7⟩, _, rfl, _, rfl, U, .int w, rfl, .inl ⟨uk, .inl l, .inl (s7 _ _ gU), rfl, by rw [vU l, hw1]; rfl⟩, W, _, _, rfl, rfl, hW7, ?_, ?_⟩
            · rw [List.length_map]
              exact Nat.lt_of_le_of_lt (show wt2.length ≤ 1000 by omega) (by decide)
            refine ⟨wt2 ++ [w], lf2 ++ [w], rt2 ++ [l], _, rfl, ⟨Same.updF s7 nW0, by rw [updS, List.map_append]; rfl, updN nWA.symm hA7, updN nWB.symm hB7, ?_, fun x hx => ?_, fun u => ?_, fun u hu => ?_, fun u hu => ?_, ?_, ?_⟩, updN qW.symm hq7, ?_, ?_⟩
            · rw [List.nodup_append]
              exact ⟨s5.nd, List.pairwise_singleton _ _, fun a ha y hy => by rw [List.mem_singleton.mp hy]; exact fun z => hin (z ▸ ha)⟩
            · rcases List.mem_append.mp hx with hx | hx
              · exact s5.rc x hx
              · rw [List.mem_singleton.mp hx]
                exact u1c l lnf
            · rw [List.mem_append, List.mem_singleton, s5.lm]
              refine ⟨fun h => ?_, fun h => ?_⟩
              · rcases h with (h | ⟨l', h1, h2⟩) | h
                · exact .inl h
                · exact .inr ⟨l', List.mem_append_left _ h1, h2⟩
                · exact .inr ⟨l, List.mem_append_right _ (List.mem_singleton.mpr rfl), by rw [h]; exact hw1⟩
              · rcases h with h | ⟨l', h1, h2⟩
                · exact .inl (.inl h)
                · rcases List.mem_append.mp h1 with h1 | h1
                  · exact .inl (.inr ⟨l', h1, h2⟩)
                  · rw [List.mem_singleton.mp h1, hw1] at h2
                    exact .inr (Option.some.inj h2).symm
            · rcases List.mem_append.mp hu with hu | hu
              · exact List.mem_append_left _ (s5.wl u hu)
              · exact List.mem_append_right _ hu
            · rcases List.mem_append.mp hu with hu | hu
              · rcases s5.op u hu with h | ⟨h1, h2⟩ | h
                · exact .inl (List.mem_append_left _ h)
                · refine .inr (.inl ⟨h1, fun z hz => ?_⟩)
                  rcases h2 z hz with h | h
                  · rw [edr] at h
                    rcases List.mem_cons.mp h with rfl | h
                    · exact .inr (List.mem_append_right _ (List.mem_singleton.mpr rfl))
                    · exact .inl h
                  · exact .inr (List.mem_append_left _ h)
                · exact .inr (.inr fun z hz => List.mem_append_left _ (h z hz))
              · exact .inl (List.mem_append_right _ hu)
            · rw [List.length_append, List.length_append, List.length_singleton, List.length_singleton]
              omega
            · rw [List.length_append, List.length_append, List.length_singleton, List.length_singleton]
              omega
            · rw [List.length_append, List.length_singleton]
              omega
            · rw [List.length_append, List.length_append, List.length_singleton, List.length_singleton]
              omega
      · rintro σ H5 ⟨wt2, lf2, rt2, z7, rfl, s5, hq, c1, c2⟩
        have few : rt2.length ≤ ws.length := length_sub s5.nd fun x hx => (clw x (s5.rc x hx)).1
        refine kD _ _ ⟨⟨wt2, lf2, rt2, _, rfl, ⟨s5.s, s5.hW, s5.hA, s5.hB, s5.nd, s5.rc, s5.lm, s5.wl, fun u hu => ?_, s5.n1, s5.n2⟩⟩, ?_⟩
        · rcases s5.op u hu with h | ⟨h1, h2⟩ | h
          · exact .inl h
          · refine .inr (.inr fun z hz => ?_)
            rw [h1] at hz
            rcases h2 z hz with h | h
            · rw [List.length_map, List.drop_length] at h
              cases h
            · exact h
          · exact .inr (.inr h)
        · show mu2 ws.length W B H5 < mu2 ws.length W B H3
          rw [mu0]
          unfold mu2
          rw [lenAt_eq s5.hW, lenAt_eq s5.hB]
          omega
    · have wn : wt = [] := by
        cases wt with
        | nil => rfl
        | cons w0 wr => exact absurd (decide_eq_true (show (0 : Int) < (((w0 :: wr).map V.int).length : Nat) by rw [List.length_map, List.length_cons]; omega)) e
      subst wn
      -- the end
      have hR3 := st.s _ _ hR
      have nAR : A ≠ R := ne_of st.hA hR3 (by intro z; cases z)
      have nBR : B ≠ R := ne_of st.hB hR3 (by intro z; cases z)
      refine ⟨R, _, hR3, True.intro, fun od => ?_⟩
      refine tLc_keys (R := R) (p := fun w => lf.contains w && !rt.contains w) rfl (by show (4 : Nat) < 8; decide) updS rows.1 (by omega) (fun w H' Y _ s y => ?_) fun D H6 nD s6 hD => ?_
      · have y : Y (lf.contains w && !rt.contains w) H' := y
        refine ⟨_, rfl, _, rfl, A, _, rfl, .inl (sqL (s _ _ (updN nAR st.hA))), rfl, flat_ints _, _, rfl, ?_⟩
        have ein : (if false = true then !inV (.int w) (lf.map V.int) else inV (.int w) (lf.map V.int)) = lf.contains w := by rw [if_neg (by decide), inV_ints]
        rw [ein]
        cases e1 : lf.contains w with
        | false =>
          rw [e1] at y
          exact iteF y
        | true =>
          rw [e1] at y
          refine iteT ⟨_, rfl, _, rfl, B, _, rfl, .inl (sqL (s _ _ (updN nBR st.hB))), rfl, flat_ints _, _, rfl, ?_⟩
          rw [inV_ints]
          exact y
      have sU2 := unlock hR3 s6
      have nDR : D ≠ R := fun z => by rw [z, updS] at nD; cases nD
      refine ⟨s6 _ _ updS, D, _, rfl, .inl ⟨sqL (updN nDR hD), fun r nr => ?_⟩⟩
      have e2 : (ws.filter fun w => lf.contains w && !rt.contains w) = ws.filter (apB lo rt.contains) := List.filter_congr fun w hw => by
        unfold apB
        cases er : rt.contains w with
        | true => rw [Bool.not_true, Bool.and_false]; rfl
        | false =>
          rw [Bool.not_false, Bool.and_true, Bool.true_and]
          cases el : lo w with
          | none => exact List.contains_iff_mem.mpr ((st.lm w).mpr (.inl ⟨hw, el⟩))
          | some l =>
            show lf.contains w = rt.contains l
            rw [Bool.eq_iff_iff, List.contains_iff_mem, List.contains_iff_mem, st.lm]
            refine ⟨fun h => ?_, fun h => .inr ⟨l, h, (m.inv w l).mp el⟩⟩
            rcases h with h | ⟨l', h1, h2⟩
            · rw [el] at h
              cases h.2
            · have := (m.inv w l').mpr h2
              rw [el] at this
              rw [Option.some.inj this]
              exact h1
      rw [e2] at hD ⊢
      refine k r rt.contains _ ((st.s.trans sU2).trans (samNew nr)) updS ⟨fun l hl => ?_, fun v hv hn z hz => ?_, kn.c3⟩
      · have hl := List.contains_iff_mem.mp hl
        obtain ⟨_, u, h1, h2, h3, _⟩ := clw l (st.rc l hl)
        refine ⟨u, h1, fun z hz => List.contains_iff_mem.mpr ?_⟩
        rcases st.op u ((st.lm u).mpr (.inr ⟨l, hl, h1⟩)) with h | h | h
        · cases h
        · exact h.elim
        · exact h z hz
      · rcases st.op v ((st.lm v).mpr (.inl ⟨hv, hn⟩)) with h | h | h
        · cases h
        · exact h.elim
        · exact List.contains_iff_mem.mpr (h z hz)
  · intro σ H Q Q' f h
    obtain ⟨v, e, x, n, e2, h2, i, j, e3, e4, b, e5, q⟩ := h
    exact ⟨v, e, x, n, e2, h2, i, j, e3, e4, b, e5, f _ _ q⟩
end
end Fw

set_option Elab.async false
set_option linter.all false
set_option maxRecDepth 100000
set_option maxHeartbeats 4000000
namespace Fw
open PySem L2 RZ RT
/-- going down and up from those that have none above them -/
structure Lw (H : Hp) (R W A B : Addr) (ws : List Int) (nf : Int → List Int) (lo up : Int → Option Int) (cl : Int → Bool) (wt rt lf : List Int) (cur : Int → Prop) (H' : Hp) : Prop where
  s : ∀ b o, H b = some o → b ≠ R → H' b = some o
  hW : H' W = some (.lst (wt.map V.int))
  hA : H' A = some (.lst (rt.map V.int))
  hB : H' B = some (.lst (lf.map V.int))
  nd : lf.Nodup
  rc : ∀ l ∈ rt, cl l = false
  rm : ∀ l, l ∈ rt ↔ (l ∈ ws ∧ up l = none) ∨ ∃ u ∈ lf, lo u = some l
  lm : ∀ u ∈ lf, u ∈ ws ∧ (∃ l, lo u = some l) ∧ ∃ l ∈ nf u, l ∈ rt
  wl : ∀ u ∈ wt, u ∈ rt
  op : ∀ l ∈ rt, l ∈ wt ∨ cur l ∨ ∀ u ∈ ws, l ∈ nf u → u ∈ lf
  n1 : wt.length ≤ ws.length + lf.length
  n2 : rt.length ≤ ws.length + lf.length
theorem Lw.set {H : Hp} {R W A B : Addr} {ws : List Int} {nf : Int → List Int} {lo up : Int → Option Int} {cl : Int → Bool} {wt rt lf : List Int} {cur : Int → Prop} {H' : Hp} (h : Lw H R W A B ws nf lo up cl wt rt lf cur H') {x : HO} (w : W ≠ R) (a : A ≠ R) (b : B ≠ R) : Lw H R W A B ws nf lo up cl wt rt lf cur (upd H' R x) :=
  ⟨fun c o e n => updN n (h.s c o e n), updN w h.hW, updN a h.hA, updN b h.hB, h.nd, h.rc, h.rm, h.lm, h.wl, h.op, h.n1, h.n2⟩
section
variable {K : PySem.W.Frag} {vs : List V} {H : Hp} {Q : VK} {E : XK}
theorem pure_l_low_apart (h : sp_l_low_apart K vs H Q E) : t_l_low_apart K { nx := fun _ H' => Q .non H', rt := Q } (start N_l_low_apart vs) H := by
  obtain ⟨R, U, L, ws, ls, ra, lo, up, cl, b, rfl, rows, uR, lR, g, pd, m, kn, hn, k⟩ := h
  obtain ⟨lk, gL, lL, vL⟩ := id pd.hL
  obtain ⟨uk, gU, lU, vU⟩ := id pd.hU
  have nd := rising_nodup g.inc
  have hR := rows.2.1
  have lrow : (rowsKV ws ra).length = ws.length := rowsKV_length rows.1
  -- what is come to from below is not closed, and has one below it
  have dn : ∀ u ∈ ws, ∀ l ∈ nfB ws ls u, cl l = false → ∃ l', lo u = some l' ∧ cl l' = false := fun u hu l hl hc => by
    cases e : lo u with
    | none =>
      rw [kn.c2 u hu e l hl] at hc
      cases hc
    | some l' =>
      refine ⟨l', rfl, ?_⟩
      cases e2 : cl l' with
      | false => rfl
      | true =>
        obtain ⟨w, h1, h2⟩ := kn.c1 l' e2
        rw [(m.inv u l').mp e] at h1
        cases Option.some.inj h1
        rw [h2 l hl] at hc
        cases hc
  refine ⟨R, _, hR, True.intro, fun od => ?_⟩
  refine tLc_keys (R := R) (p := freeB up) rfl (by show (4 : Nat) < 9; decide) updS rows.1 (by omega) (fun w H' Y _ s y => ?_) fun W H1 nW s1 hW => ?_
  · refine ⟨_, rfl, _, rfl, U, _, rfl, .inl ⟨_, .inl w, .inl (s _ _ (updN uR gU)), rfl, rfl⟩, _, rfl, ?_⟩
    rw [vU w]
    unfold freeB at y
    cases e : up w <;> (rw [e] at y; exact y)
  have sU := unlock hR s1
  have nWR : W ≠ R := fun z => by rw [z, updS] at nW; cases nW
  refine ⟨s1 _ _ updS, ?_⟩
  have hW2 : upd H1 R (.dK (rowsKV ws ra)) W = some (.lst ((ws.filter (freeB up)).map V.int)) := updN nWR hW
  have nW0 : H W = none := by
    rw [upd_ne nWR] at nW
    exact nW
  generalize upd H1 R (.dK (rowsKV ws ra)) = H2 at sU hW2
  clear hW s1 nW H1
  refine ⟨_, rfl, W, _, rfl, .inl (sqL hW2), fun A nA => ?_⟩
  refine ⟨by show (0 : Nat) ≤ sizeLine; decide, fun B nB => ?_⟩
  have nA2 : H A = none := sU.free nA
  have nAB : A ≠ B := ne_of_none updS nB
  have nWA : W ≠ A := ne_of_none hW2 nA
  have nB2 : H2 B = none := by
    rw [upd_ne (fun z => nAB z.symm)] at nB
    exact nB
  have nWB : W ≠ B := ne_of_none hW2 nB2
  have nB0 : H B = none := sU.free nB2
  have nAR : A ≠ R := (ne_of_none (sU _ _ hR) nA).symm
  have nBR : B ≠ R := (ne_of_none (sU _ _ hR) nB2).symm
  show t_l_low_apart_loop K { nx := fun _ H' => Q .non H', rt := Q } [some (.ref R), some (.ref U), some (.ref L), some (.ref W), none, some (.ref A), some (.ref B), none, none] _
  have fl : (ws.filter (freeB up)).length ≤ ws.length := List.length_filter_le _ _
  have st0 : Lw H R W A B ws (nfB ws ls) lo up cl (ws.filter (freeB up)) (ws.filter (freeB up)) [] (fun _ => False) (upd (upd H2 A (.lst ((ws.filter (freeB up)).map V.int))) B (.lst [])) := by
    have mf : ∀ u, u ∈ ws.filter (freeB up) ↔ u ∈ ws ∧ up u = none := fun u => by
      rw [List.mem_filter]
      unfold freeB
      rw [Option.isNone_iff_eq_none]
    refine ⟨fun b o e _ => ((sU.trans (samNew nA)).trans (samNew nB)) b o e, updN nWB (updN nWA hW2), updN nAB updS, updS, List.nodup_nil, fun l hl => ?_, fun u => ?_, (fun u hu => by cases hu), fun u hu => hu, fun u hu => .inl hu, by rw [List.length_nil]; omega, by rw [List.length_nil]; omega⟩
    · cases e : cl l with
      | false => rfl
      | true =>
        obtain ⟨w, h1, _⟩ := kn.c1 l e
        rw [((mf l).mp hl).2] at h1
        cases h1
    · rw [mf]
      exact ⟨.inl, fun h => h.elim id fun ⟨l, hl, _⟩ => nomatch hl⟩
  have hR0 : upd (upd H2 A (.lst ((ws.filter (freeB up)).map V.int))) B (.lst []) R = some (.dK (rowsKV ws ra)) := updN nBR.symm (updN nAR.symm (sU _ _ hR))
  refine while_by (fun σ H' => ∃ (wt rt lf : List Int) (z7 z8 : Option V), σ = [some (.ref R), some (.ref U), some (.ref L), some (.ref W), none, some (.ref A), some (.ref B), z7, z8] ∧ Lw H R W A B ws (nfB ws ls) lo up cl wt rt lf (fun _ => False) H' ∧ H' R = some (.dK (rowsKV ws ra))) (fun _ H' => mu2 ws.length W B H') ⟨_, _, _, _, _, rfl, st0, hR0⟩ ?_ ?_
  · rintro σ H3 ⟨wt, rt, lf, z7, z8, rfl, st, hR3⟩
    refine ⟨_, rfl, lenL st.hW ⟨_, _, rfl, rfl, _, rfl, ite2 (fun e => ?_) fun e => ?_⟩⟩
    · obtain ⟨wt', l1, rfl⟩ := ne_nil_last (of_decide_eq_true e)
      clear e
      have l1r := st.wl l1 (List.mem_append_right _ (List.mem_singleton.mpr rfl))
      have mu0 : mu2 ws.length W B H3 = 2 * (ws.length - lf.length) + (wt'.length + 1) := by
        unfold mu2
        rw [lenAt_eq st.hW, lenAt_eq st.hB, List.length_append, List.length_singleton]
      refine ⟨_, rfl, .inl ⟨rfl, _, sqL st.hW⟩, W, _, .int l1, rfl, rfl, st.hW, last_at, ?_⟩
      rw [drop_last]
      suffices hh : ∀ D : Ends, (∀ σ' H', ((∃ (wt rt lf : List Int) (z7 z8 : Option V), σ' = [some (.ref R), some (.ref U), some (.ref L), some (.ref W), none, some (.ref A), some (.ref B), z7, z8] ∧ Lw H R W A B ws (nfB ws ls) lo up cl wt rt lf (fun _ => False) H' ∧ H' R = some (.dK (rowsKV ws ra))) ∧ mu2 ws.length W B H' < mu2 ws.length W B H3) → D.nx σ' H') → t_l_low_apart_for K D [some (.ref R), some (.ref U), some (.ref L), some (.ref W), none, some (.ref A), some (.ref B), some (.int l1), z8] (upd H3 W (.lst (wt'.map V.int))) from hh _ fun _ _ h => h
      intro DD kD
      have sp : ∀ b o, H b = some o → b ≠ R → upd H3 W (.lst (wt'.map V.int)) b = some o := fun b o e n => updN (ne_of_none e nW0) (st.s b o e n)
      have hA3 : upd H3 W (.lst (wt'.map V.int)) A = some (.lst (rt.map V.int)) := updN nWA.symm st.hA
      have hB3 : upd H3 W (.lst (wt'.map V.int)) B = some (.lst (lf.map V.int)) := updN nWB.symm st.hB
      have hW3 : upd H3 W (.lst (wt'.map V.int)) W = some (.lst (wt'.map V.int)) := updS
      have hR4 : upd H3 W (.lst (wt'.map V.int)) R = some (.dK (rowsKV ws ra)) := updN nWR.symm hR3
      generalize upd H3 W (.lst (wt'.map V.int)) = H4 at sp hA3 hB3 hW3 hR4
      have n1 := st.n1
      rw [List.length_append, List.length_singleton] at n1
      refine ⟨R, _, hR4, True.intro, fun od => ?_⟩
      refine ⟨_, rfl, R, od, rfl, .inl ⟨_, updS, ?_⟩⟩
      refine for_it walk_keys (fun i σ H' => ∃ (wt2 rt2 lf2 : List Int) (z8 : Option V), σ = [some (.ref R), some (.ref U), some (.ref L), some (.ref W), none, some (.ref A), some (.ref B), some (.int l1), z8] ∧ Lw H R W A B ws (nfB ws ls) lo up cl wt2 rt2 lf2 (fun l => l = l1 ∧ ∀ u ∈ ws, l1 ∈ nfB ws ls u → u ∈ ws.drop i ∨ u ∈ lf2) H' ∧ H' R = some (.frz od (.dK (rowsKV ws ra))) ∧ l1 ∈ rt2 ∧ lf.length ≤ lf2.length ∧ wt2.length + lf.length ≤ wt'.length + lf2.length) ?_ ?_ ?_ ?_
      · refine ⟨wt', rt, lf, z8, rfl, Lw.set ⟨sp, hW3, hA3, hB3, st.nd, st.rc, st.rm, st.lm, fun u hu => st.wl u (List.mem_append_left _ hu), fun u hu => ?_, by omega, st.n2⟩ nWR nAR nBR, updS, l1r, Nat.le_refl _, Nat.le_refl _⟩
        rcases st.op u hu with h | h | h
        · rcases List.mem_append.mp h with h | h
          · exact .inl h
          · exact .inr (.inl ⟨List.mem_singleton.mp h, fun z hz _ => .inl hz⟩)
        · exact h.elim
        · exact .inr (.inr h)
      · rintro i σ H' _ ⟨_, _, _, _, _, _, hq, _⟩
        exact hq
      · rintro i x σ H5 H5' hi ⟨wt2, rt2, lf2, z8, rfl, s5, hR5, l1r2, c1, c2⟩ ⟨rfl, key, val, hkv, rfl⟩
        rw [lrow] at hi
        have hai : i < ra.length := by rw [rows.1]; exact hi
        have ew : ws[i]? = some ws[i] := List.getElem?_eq_getElem hi
        have ekv : (rowsKV ws ra)[i]? = some (.inl ws[i], .ref ra[i]) := by
          unfold rowsKV
          rw [List.getElem?_zipWith, ew, List.getElem?_eq_getElem hai]
        rw [ekv] at hkv
        cases Option.some.inj hkv
        have edr : ws.drop i = ws[i] :: ws.drop (i + 1) := List.drop_eq_getElem_cons hi
        have vw : ws[i] ∈ ws := List.getElem_mem hi
        generalize ws[i] = u1 at edr vw ew
        clear hkv ekv
        rw [show kV (Sum.inl u1 : Key) = V.int u1 from rfl]
        obtain ⟨la, v1, v2⟩ := row_of rows nd vw
        have v3 : H5' la = some (.lst ((belowL ws ls u1).map V.int)) := s5.s _ _ v2 (ne_of v2 hR (by intro z; cases z))
        have gL5 := s5.s _ _ gL lR
        -- skipping
        have skip : (l1 ∈ nfB ws ls u1 → u1 ∈ lf2) → ∀ z8, ∃ (wt2 rt2 lf2 : List Int) (z8' : Option V), [some (.ref R), some (.ref U), some (.ref L), some (.ref W), none, some (.ref A), some (.ref B), some (.int l1), z8] = [some (.ref R), some (.ref U), some (.ref L), some (.ref W), none, some (.ref A), some (.ref B), some (.int l1), z8'] ∧ Lw H R W A B ws (nfB ws ls) lo up cl wt2 rt2 lf2 (fun l => l = l1 ∧ ∀ u ∈ ws, l1 ∈ nfB ws ls u → u ∈ ws.drop (i + 1) ∨ u ∈ lf2) H5' ∧ H5' R = some (.frz od (.dK (rowsKV ws ra))) ∧ l1 ∈ rt2 ∧ lf.length ≤ lf2.length ∧ wt2.length + lf.length ≤ wt'.length + lf2.length := fun hk z8 => by
          refine ⟨wt2, rt2, lf2, z8, rfl, ⟨s5.s, s5.hW, s5.hA, s5.hB, s5.nd, s5.rc, s5.rm, s5.lm, s5.wl, fun l hl => ?_, s5.n1, s5.n2⟩, hR5, l1r2, c1, c2⟩
          rcases s5.op l hl with h | ⟨h1, h2⟩ | h
          · exact .inl h
          · refine .inr (.inl ⟨h1, fun z hz hz2 => ?_⟩)
            rcases h2 z hz hz2 with h | h
            · rw [edr] at h
              rcases List.mem_cons.mp h with rfl | h
              · exact .inr (hk hz2)
              · exact .inl h
            · exact .inr h
          · exact .inr (.inr h)
        refine ⟨_, rfl, _, rfl, rfl, _, rfl, ?_⟩
        refine ite2 (fun z => ?_) fun z => ?_
        rotate_left
        · have eq : u1 = l1 := Decidable.byContradiction fun h => z (by rw [Bool.not_eq_true', decide_eq_false_iff_not]; exact fun q => h (V.int.inj q))
          exact iteF (skip (fun h => absurd eq.symm (mem_nfB.mp h).2) _)
        have eq : u1 ≠ l1 := fun h => by
          rw [Bool.not_eq_true', decide_eq_false_iff_not] at z
          exact z (by rw [h])
        refine ⟨_, rfl, _, rfl, _, rfl, R, .ref la, rfl, .inl ⟨_, .inl u1, .inr ⟨od, hR5⟩, rfl, v1.symm⟩, la, _, rfl, .inl (sqL v3), rfl, flat_ints _, _, rfl, ?_⟩
        have ein : (if false = true then !inV (.int l1) ((belowL ws ls u1).map V.int) else inV (.int l1) ((belowL ws ls u1).map V.int)) = (belowL ws ls u1).contains l1 := by rw [if_neg (by decide), inV_ints]
        rw [ein]
        by_cases hb : l1 ∈ belowL ws ls u1
        rotate_left
        · rw [contains_not hb]
          exact iteF (iteF (skip (fun h => absurd (mem_nfB.mp h).1 hb) _))
        rw [List.contains_iff_mem.mpr hb]
        have lnf : l1 ∈ nfB ws ls u1 := mem_nfB.mpr ⟨hb, fun z => eq z.symm⟩
        refine iteT ⟨_, rfl, _, rfl, B, _, rfl, .inl (sqL s5.hB), rfl, flat_ints _, _, rfl, ?_⟩
        rw [inV_ints]
        by_cases hin : u1 ∈ lf2
        · rw [List.contains_iff_mem.mpr hin]
          exact iteF (skip (fun _ => hin) _)
        · rw [contains_not hin]
          refine iteT ?_
          obtain ⟨l2, hl2, hc2⟩ := dn u1 vw l1 lnf (s5.rc l1 l1r2)
          have l2w : l2 ∈ ws := (m.dom u1 l2 hl2).2.1
          have ndl : (lf2 ++ [u1]).Nodup := by
            rw [List.nodup_append]
            exact ⟨s5.nd, List.pairwise_singleton _ _, fun a ha y hy => by rw [List.mem_singleton.mp hy]; exact fun z => hin (z ▸ ha)⟩
          have few : (lf2 ++ [u1]).length ≤ ws.length := length_sub ndl fun x hx => by
            rcases List.mem_append.mp hx with hx | hx
            · exact (s5.lm x hx).1
            · rw [List.mem_singleton.mp hx]; exact vw
          rw [List.length_append, List.length_singleton] at few
          have z1 := s5.n1
          have z2 := s5.n2
          refine ⟨_, rfl, .inl ⟨rfl, _, sqL s5.hB⟩, _, rfl, B, _, _, rfl, rfl, s5.hB, ?_, ?_⟩
          · rw [List.length_map]
            exact Nat.lt_of_le_of_lt (show lf2.length ≤ 1000 by omega) (by decide)
          have eB : lf2.map V.int ++ [V.int u1] = (lf2 ++ [u1]).map V.int := by rw [List.map_append]; rfl
          rw [eB]
          have s6 : ∀ b o, H b = some o → b ≠ R → upd H5' B (.lst ((lf2 ++ [u1]).map V.int)) b = some o := fun b o e n => updN (ne_of_none e nB0) (s5.s b o e n)
          have hA6 : upd H5' B (.lst ((lf2 ++ [u1]).map V.int)) A = some (.lst (rt2.map V.int)) := updN nAB s5.hA
          have hW6 : upd H5' B (.lst ((lf2 ++ [u1]).map V.int)) W = some (.lst (wt2.map V.int)) := updN nWB s5.hW
          have hB6 : upd H5' B (.lst ((lf2 ++ [u1]).map V.int)) B = some (.lst ((lf2 ++ [u1]).map V.int)) := updS
          have hR6 : upd H5' B (.lst ((lf2 ++ [u1]).map V.int)) R = some (.frz od (.dK (rowsKV ws ra))) := updN nBR.symm hR5
          generalize upd H5' B (.lst ((lf2 ++ [u1]).map V.int)) = H6 at s6 hA6 hW6 hB6 hR6
          have gL6 := s6 _ _ gL lR
          have nwl : l2 ∉ rt2 := fun hm => by
            rcases (s5.rm l2).mp hm with h | ⟨u', hu', h⟩
            · rw [(m.inv u1 l2).mp hl2] at h
              cases h.2
            · have := (m.inv u' l2).mp h
              rw [(m.inv u1 l2).mp hl2] at this
              cases Option.some.inj this
              exact hin hu'
          refine ⟨_, rfl, _, rfl, L, .int l2, rfl, .inl ⟨lk, .inl u1, .inl gL6, rfl, by rw [vL u1, hl2]; rfl⟩, _, rfl, A, _, rfl, .inl (sqL hA6), rfl, flat_ints _, _, rfl, ?_⟩
          rw [inV_ints, contains_not nwl]
          refine iteT ?_
          refine ⟨_, rfl, .inl ⟨rfl, _, sqL hA6⟩, _, rfl, _, rfl, L, .int l2, rfl, .inl ⟨lk, .inl u1, .inl gL6, rfl, by rw [vL u1, hl2]; rfl⟩, A, _, _, rfl, rfl, hA6, ?_, ?_⟩
          · rw [List.length_map]
            exact Nat.lt_of_le_of_lt (show rt2.length ≤ 1000 by omega) (by decide)
          have eA : rt2.map V.int ++ [V.int l2] = (rt2 ++ [l2]).map V.int := by rw [List.map_append]; rfl
          rw [eA]
          have s7 : ∀ b o, H b = some o → b ≠ R → upd H6 A (.lst ((rt2 ++ [l2]).map V.int)) b = some o := fun b o e n => updN (ne_of_none e nA2) (s6 b o e n)
          have hA7 : upd H6 A (.lst ((rt2 ++ [l2]).map V.int)) A = some (.lst ((rt2 ++ [l2]).map V.int)) := updS
          have hW7 : upd H6 A (.lst ((rt2 ++ [l2]).map V.int)) W = some (.lst (wt2.map V.int)) := updN nWA hW6
          have hB7 : upd H6 A (.lst ((rt2 ++ [l2]).map V.int)) B = some (.lst ((lf2 ++ [u1]).map V.int)) := updN nAB.symm hB6
          have hR7 : upd H6 A (.lst ((rt2 ++ [l2]).map V.int)) R = some (.frz od (.dK (rowsKV ws ra))) := updN nAR.symm hR6
          generalize upd H6 A (.lst ((rt2 ++ [l2]).map V.int)) = H7 at s7 hA7 hW7 hB7 hR7
          have gL7 := s7 _ _ gL lR
          refine ⟨_, rfl, .inl ⟨rfl, _, sqL hW7⟩, _, rfl, _, rfl, L, .int l2, rfl, .inl ⟨lk, .inl u1, .inl gL7, rfl, by rw [vL u1, hl2]; rfl⟩, W, _, _, rfl, rfl, hW7, ?_, ?_⟩
          · rw [List.length_map]
            exact Nat.lt_of_le_of_lt (show wt2.length ≤ 1000 by omega) (by decide)
          refine ⟨wt2 ++ [l2], rt2 ++ [l2], lf2 ++ [u1], _, rfl, ⟨fun b o e n => updN (ne_of_none e nW0) (s7 b o e n), by rw [updS, List.map_append]; rfl, updN nWA.symm hA7, updN nWB.symm hB7, ndl, fun x hx => ?_, fun u => ?_, fun u hu => ?_, fun u hu => ?_, fun u hu => ?_, ?_, ?_⟩, updN nWR.symm hR7, List.mem_append_left _ l1r2, ?_, ?_⟩
          · rcases List.mem_append.mp hx with hx | hx
            · exact s5.rc x hx
            · rw [List.mem_singleton.mp hx]
              exact hc2
          · rw [List.mem_append, List.mem_singleton, s5.rm]
            refine ⟨fun h => ?_, fun h => ?_⟩
            · rcases h with (h | ⟨l', h1, h2⟩) | h
              · exact .inl h
              · exact .inr ⟨l', List.mem_append_left _ h1, h2⟩
              · exact .inr ⟨u1, List.mem_append_right _ (List.mem_singleton.mpr rfl), by rw [h]; exact hl2⟩
            · rcases h with h | ⟨l', h1, h2⟩
              · exact .inl (.inl h)
              · rcases List.mem_append.mp h1 with h1 | h1
                · exact .inl (.inr ⟨l', h1, h2⟩)
                · rw [List.mem_singleton.mp h1, hl2] at h2
                  exact .inr (Option.some.inj h2).symm
          · rcases List.mem_append.mp hu with hu | hu
            · obtain ⟨q1, q2, l', q3, q4⟩ := s5.lm u hu
              exact ⟨q1, q2, l', q3, List.mem_append_left _ q4⟩
            · rw [List.mem_singleton.mp hu]
              exact ⟨vw, ⟨l2, hl2⟩, l1, lnf, List.mem_append_left _ l1r2⟩
          · rcases List.mem_append.mp hu with hu | hu
            · exact List.mem_append_left _ (s5.wl u hu)
            · exact List.mem_append_right _ hu
          · rcases List.mem_append.mp hu with hu | hu
            · rcases s5.op u hu with h | ⟨h1, h2⟩ | h
              · exact .inl (List.mem_append_left _ h)
              · refine .inr (.inl ⟨h1, fun z hz hz2 => ?_⟩)
                rcases h2 z hz hz2 with h | h
                · rw [edr] at h
                  rcases List.mem_cons.mp h with rfl | h
                  · exact .inr (List.mem_append_right _ (List.mem_singleton.mpr rfl))
                  · exact .inl h
                · exact .inr (List.mem_append_left _ h)
              · exact .inr (.inr fun z hz hz2 => List.mem_append_left _ (h z hz hz2))
            · exact .inl (List.mem_append_right _ hu)
          · rw [List.length_append, List.length_append, List.length_singleton, List.length_singleton]
            omega
          · rw [List.length_append, List.length_append, List.length_singleton, List.length_singleton]
            omega
          · rw [List.length_append, List.length_singleton]
            omega
          · rw [List.length_append, List.length_append, List.length_singleton, List.length_singleton]
            omega
      · rintro σ H5 ⟨wt2, rt2, lf2, z8, rfl, s5, hR5, l1r2, c1, c2⟩
        have few : lf2.length ≤ ws.length := length_sub s5.nd fun x hx => (s5.lm x hx).1
        rw [lrow] at s5
        refine ⟨hR5, kD _ _ ⟨⟨wt2, rt2, lf2, _, _, rfl, Lw.set ⟨s5.s, s5.hW, s5.hA, s5.hB, s5.nd, s5.rc, s5.rm, s5.lm, s5.wl, fun u hu => ?_, s5.n1, s5.n2⟩ nWR nAR nBR, updS⟩, ?_⟩⟩
        · rcases s5.op u hu with h | ⟨h1, h2⟩ | h
          · exact .inl h
          · refine .inr (.inr fun z hz hz2 => ?_)
            rw [h1] at hz2
            rcases h2 z hz hz2 with h | h
            · rw [List.drop_length] at h
              cases h
            · exact h
          · exact .inr (.inr h)
        · show mu2 ws.length W B (upd H5 R _) < mu2 ws.length W B H3
          rw [mu0]
          unfold mu2
          rw [lenAt_eq (updN nWR s5.hW), lenAt_eq (updN nBR s5.hB)]
          omega
    · have wn : wt = [] := by
        cases wt with
        | nil => rfl
        | cons w0 wr => exact absurd (decide_eq_true (show (0 : Int) < (((w0 :: wr).map V.int).length : Nat) by rw [List.length_map, List.length_cons]; omega)) e
      subst wn
      -- the end
      have sH3 : Same H H3 := fun b o e => by
        by_cases q : b = R
        · subst q
          rw [hR] at e
          rw [hR3, e]
        · exact st.s b o e q
      refine ⟨R, _, hR3, True.intro, fun od => ?_⟩
      refine tLc_keys (R := R) (p := fun w => rt.contains w && !lf.contains w) rfl (by show (4 : Nat) < 9; decide) updS rows.1 (by omega) (fun w H' Y _ s y => ?_) fun D H6 nD s6 hD => ?_
      · have y : Y (rt.contains w && !lf.contains w) H' := y
        refine ⟨_, rfl, _, rfl, A, _, rfl, .inl (sqL (s _ _ (updN nAR st.hA))), rfl, flat_ints _, _, rfl, ?_⟩
        have ein : (if false = true then !inV (.int w) (rt.map V.int) else inV (.int w) (rt.map V.int)) = rt.contains w := by rw [if_neg (by decide), inV_ints]
        rw [ein]
        cases e1 : rt.contains w with
        | false =>
          rw [e1] at y
          exact iteF y
        | true =>
          rw [e1] at y
          refine iteT ⟨_, rfl, _, rfl, B, _, rfl, .inl (sqL (s _ _ (updN nBR st.hB))), rfl, flat_ints _, _, rfl, ?_⟩
          rw [inV_ints]
          exact y
      have sU2 := unlock hR3 s6
      have nDR : D ≠ R := fun z => by rw [z, updS] at nD; cases nD
      refine ⟨s6 _ _ updS, D, _, rfl, .inl ⟨sqL (updN nDR hD), fun r nr => ?_⟩⟩
      have rin : ∀ w ∈ ws, (w ∈ rt ↔ (up w = none ∨ ∃ u, up w = some u ∧ lf.contains u = true)) := fun w hw => by
        rw [st.rm]
        refine ⟨fun h => ?_, fun h => ?_⟩
        · rcases h with h | ⟨u, h1, h2⟩
          · exact .inl h.2
          · exact .inr ⟨u, (m.inv u w).mp h2, List.contains_iff_mem.mpr h1⟩
        · rcases h with h | ⟨u, h1, h2⟩
          · exact .inl ⟨hw, h⟩
          · exact .inr ⟨u, List.contains_iff_mem.mp h2, (m.inv u w).mpr h1⟩
      have e2 : (ws.filter fun w => rt.contains w && !lf.contains w) = ws.filter (dpB up lf.contains) := List.filter_congr fun w hw => by
        unfold dpB
        cases er : lf.contains w with
        | true => rw [Bool.not_true, Bool.and_false]; rfl
        | false =>
          rw [Bool.not_false, Bool.and_true, Bool.true_and, Bool.eq_iff_iff, List.contains_iff_mem, rin w hw, in_right]
      rw [e2] at hD ⊢
      refine k r lf.contains _ ((sH3.trans sU2).trans (samNew nr)) updS ⟨fun u hu => ?_, fun u hu l hl h => ?_, fun u hu => ?_⟩
      · have := st.lm u (List.contains_iff_mem.mp hu)
        exact ⟨this.1, this.2.1⟩
      · have lw : l ∈ ws := ((nfB_dn g hu).mp hl).1.mem g hu
        rcases st.op l ((rin l lw).mpr h) with h | h | h
        · cases h
        · exact h.elim
        · exact List.contains_iff_mem.mpr (h u hu hl)
      · obtain ⟨q1, _, l, q2, q3⟩ := st.lm u (List.contains_iff_mem.mp hu)
        exact ⟨l, q2, (rin l (((nfB_dn g q1).mp q2).1.mem g q1)).mp q3⟩
  · intro σ H Q Q' f h
    obtain ⟨v, e, x, n, e2, h2, i, j, e3, e4, b, e5, q⟩ := h
    exact ⟨v, e, x, n, e2, h2, i, j, e3, e4, b, e5, f _ _ q⟩
end
end Fw

set_option Elab.async false
set_option linter.all false
set_option maxRecDepth 100000
set_option maxHeartbeats 4000000
namespace Fw
open PySem L2 RZ RT
def sp_l_own_cover (_ : PySem.W.Frag) : Sp := fun vs H Q _ => ∃ (c D R : Addr) (ns : List Int) (t : Nat) (ws : List Int) (ls : List (Int × Int)) (ra : List Addr), vs = [.ref D, .ref R] ∧ Dk c D ns t H ∧ RowsAt H R ws ls ws ra ∧ (∀ a ∈ ra, a ≠ D) ∧ R ≠ D ∧ Good ws ls ∧ ws.length ≤ 60 ∧ t + 5000 < 1000000 ∧
  ∀ (r : Addr) (cs : List (List Int)) (ap : List Int) (H' : Hp), Kp D H H' → Dk c D ns (t + 4000) H' → CovAt H' r cs ap → CovOk ws ls cs ap → Q (.ref r) H'
abbrev N_l_own_cover : List Str := ["_law_deck_here", "_law_rows", "_law_ups", "_law_downs", "_law_rest", "_law_chains", "_law_one", "_law_chain"]
def t_l_own_cover_one (K : PySem.W.Frag) : TS := (tIfS (tB (tDNotIn (tVar 6) (tVar 3))) (tSeq (tAsg (tLst (tCons (tVar 6) tNil)) (gName 7))
    (tSeq (tWhile (tB (tDIn (tOp (rIx K) (tVar 7) (tUn rNegI (tC (.int 1)))) (tVar 2))) (tDrop (tBM K "list" rAppend (tVar 7) (tCons (tDGet (tVar 2) (tOp (rIx K) (tVar 7) (tUn rNegI (tC (.int 1))))) tNil))))
    (tDrop (tBM K "list" rAppend (tVar 5) (tCons (tCB (fTupleOf K) (tCons (tVar 7) tNil)) tNil))))) tNext)
def t_l_own_cover_end (K : PySem.W.Frag) : TS := (tSeq (tIfS (tTest (tOp rEq (tCall (sp_l_draw K) [] E0 (tCons (tVar 0) (tCons (tC (.int 2)) tNil))) (tC (.int 0)))) (tRet (tTup (tCons (tCB (fTupleOf K) (tCons (tVar 5) tNil)) (tCons (tCall (sp_l_high_apart K) [] E0 (tCons (tVar 1) (tCons (tVar 2) (tCons (tVar 3) tNil)))) tNil)))) tNext)
    (tRet (tTup (tCons (tCB (fTupleOf K) (tCons (tVar 5) tNil)) (tCons (tCall (sp_l_low_apart K) [] E0 (tCons (tVar 1) (tCons (tVar 2) (tCons (tVar 3) tNil)))) tNil)))))
def t_l_own_cover_chains (K : PySem.W.Frag) : TS := (tSeq (tAsg (tLst tNil) (gName 5))
    (tSeq (tLock (tFor (iKeys (tVar 1)) (gName 6) (t_l_own_cover_one K)))
    (t_l_own_cover_end K)))
def t_l_own_cover_pairs (K : PySem.W.Frag) : TS := (tSeq (tWhile (tTest (tOp rGtI (tCB (fLen K) (tCons (tVar 4) tNil)) (tC (.int 0)))) (tDrop (tCall (sp_l_pair_up K) [] E0 (tCons (tVar 0) (tCons (tVar 1) (tCons (tVar 2) (tCons (tVar 3) (tCons (tBM K "list" rPopAt (tVar 4) (tCons (tCall (sp_l_draw K) [] E0 (tCons (tVar 0) (tCons (tCB (fLen K) (tCons (tVar 4) tNil)) tNil))) tNil)) tNil))))))))
    (t_l_own_cover_chains K))
def t_l_own_cover (K : PySem.W.Frag) : TS := (tSeq (tAsg tDNewK (gName 2))
    (tSeq (tAsg tDNewK (gName 3))
    (tSeq (tAsg (tCB rListD (tCons (tVar 1) tNil)) (gName 4))
    (t_l_own_cover_pairs K))))
theorem len_l_own_cover {K : PySem.W.Frag} {vs : List V} {H : Hp} {Q : VK} {E : XK} (h : sp_l_own_cover K vs H Q E) : vs.length = 2 := by
  obtain ⟨_, _, _, _, _, _, _, _, rfl, _⟩ := h
  rfl
theorem keys_rows {ws : List Int} {ra : List Addr} (h : ra.length = ws.length) : (rowsKV ws ra).map (fun kv => kV kv.1) = ws.map V.int := by
  refine List.ext_getElem? fun i => ?_
  rw [List.getElem?_map, List.getElem?_map]
  unfold rowsKV
  rw [List.getElem?_zipWith]
  by_cases hi : i < ws.length
  · rw [List.getElem?_eq_getElem hi, List.getElem?_eq_getElem (by omega : i < ra.length)]
    rfl
  · rw [List.getElem?_eq_none_iff.mpr (by omega : ws.length ≤ i)]
    rfl
theorem erase_mem {l : List Int} (nd : l.Nodup) {i : Nat} {x : Int} (h : l[i]? = some x) : (l.eraseIdx i).Nodup ∧ x ∉ l.eraseIdx i ∧ (∀ y, y ∈ l ↔ y = x ∨ y ∈ l.eraseIdx i) ∧ (l.eraseIdx i).length + 1 = l.length := by
  obtain ⟨hi, e⟩ := List.getElem?_eq_some_iff.mp h
  have sp : l = l.take i ++ x :: l.drop (i + 1) := by
    rw [← e, ← List.drop_eq_getElem_cons hi, List.take_append_drop]
  have ee : l.eraseIdx i = l.take i ++ l.drop (i + 1) := List.eraseIdx_eq_take_drop_succ ..
  have pm : l.Perm (x :: l.eraseIdx i) := by
    rw [ee]
    exact (List.Perm.of_eq sp).trans List.perm_middle
  have nd2 := pm.nodup_iff.mp nd
  obtain ⟨n1, n2⟩ := List.nodup_cons.mp nd2
  refine ⟨n2, n1, fun y => ?_, ?_⟩
  · rw [pm.mem_iff, List.mem_cons]
  · have := pm.length_eq
    rw [List.length_cons] at this
    omega
theorem seqIndex_nat {X n : Nat} (h : X < n) : seqIndex? (X : Int) n = some X := by
  unfold seqIndex?
  simp
  omega
section
variable {K : PySem.W.Frag} {vs : List V} {H : Hp} {Q : VK} {E : XK}
theorem Dk.same {c D : Addr} {ns : List Int} {t : Nat} {H H' : Hp} (d : Dk c D ns t H) (s : Same H H') : Dk c D ns t H' := by
  obtain ⟨h1, h2, h3, i, n, u, h4, h5⟩ := d
  exact ⟨h1, s _ _ h2, h3, i, n, u, s _ _ h4, h5⟩
theorem K3.kp {D U L : Addr} {H1 H2 : Hp} (h : K3 D U L H1 H2) {H0 : Hp} (nU : H0 U = none) (nL : H0 L = none) (k : Kp D H0 H1) : Kp D H0 H2 := fun b o e n => h b o (k b o e n) n (ne_of_none e nU) (ne_of_none e nL)
theorem own_end {c D R U L q C : Addr} {ns : List Int} {t : Nat} {ws : List Int} {ls : List (Int × Int)} {ra ca : List Addr} {cs : List (List Int)} {lo up : Int → Option Int} {cl : Int → Bool} {b : Nat} {z6 z7 : Option V} (dk : Dk c D ns t H) (ht : t < 1000000) (rows : RowsAt H R ws ls ws ra) (raD : ∀ a ∈ ra, a ≠ D) (rD : R ≠ D) (uR : U ≠ R) (lR : L ≠ R) (uD : U ≠ D) (lD : L ≠ D) (g : Good ws ls) (pd : PD H U L lo up b) (m : Mt ws ws lo up) (kn : Kn (nfB ws ls) ws lo up cl) (hn : ws.length ≤ 60) (ch : Chs H C ca cs up (ws.filter (freeB lo))) (cD : C ≠ D)
    (k : ∀ (r : Addr) (cs : List (List Int)) (ap : List Int) (H' : Hp), Kp D H H' → Dk c D ns (t + 1) H' → CovAt H' r cs ap → CovOk ws ls cs ap → Q (.ref r) H') : t_l_own_cover_end K { nx := fun _ H' => Q .non H', rt := Q } [some (.ref D), some (.ref R), some (.ref U), some (.ref L), some (.ref q), some (.ref C), z6, z7] H := by
  have chs : ChsOf lo up ws cs := ⟨ch.lf, ch.ch⟩
  refine ⟨_, rfl, c, D, ns, t, 2, rfl, dk, by omega, by decide, by decide, fun yy H1 y0 y1 d1 fr => ⟨rfl, _, rfl, ?_⟩⟩
  have k1 : Kp D H H1 := .fr fr
  have hC1 := k1 _ _ ch.hA cD
  have rows1 : RowsAt H1 R ws ls ws ra := rows.mono fun b o e h => k1 b o e (h.elim (fun h => by rw [h]; exact rD) fun h => raD b h)
  obtain ⟨⟨lk, gL, lL, vL⟩, ⟨uk, gU, lU, vU⟩⟩ := pd
  have gL1 := k1 _ _ gL lD
  have gU1 := k1 _ _ gU uD
  have pt1 : ∀ (i : Nat) (a : Addr) (c : List Int), ca[i]? = some a → cs[i]? = some c → H1 a = some (.tup (c.map V.int)) := fun i a c h1 h2 => k1.tup dk _ _ (ch.pt i a c h1 h2)
  have fin : ∀ {ta r : Addr} {ap : List Int} {H3 : Hp}, H1 ta = none → Same (upd H1 ta (.tup (ca.map V.ref))) H3 → H3 r = some (.tup (ap.map V.int)) → CovOk ws ls cs ap → (∀ p, H3 p = none → Q (.ref p) (upd H3 p (.tup [.ref ta, .ref r]))) := fun {ta r ap H3} nta s3 hr ok p np => by
    have sA : Same H1 (upd H3 p (.tup [.ref ta, .ref r])) := ((samNew nta).trans s3).trans (samNew np)
    refine k p cs ap _ (fun b o e n => sA b o (k1 b o e n)) (d1.same sA) ⟨ta, r, ca, updS, samNew np _ _ (s3 _ _ updS), samNew np _ _ hr, ch.lc, fun i a c h1 h2 => sA _ _ (pt1 i a c h1 h2)⟩ ok
  refine ite2 (fun _ => ?_) fun _ => ?_
  · refine ⟨_, rfl, C, _, rfl, .inl ⟨sqL hC1, fun ta nta => ?_⟩⟩
    have s2 : Same H1 (upd H1 ta (.tup (ca.map V.ref))) := samNew nta
    refine ⟨_, rfl, _, rfl, _, rfl, R, U, L, ws, ls, ra, lo, up, cl, b, rfl, rows1.mono fun b o e _ => s2 b o e, uR, lR, g, ⟨⟨lk, s2 _ _ gL1, lL, vL⟩, ⟨uk, s2 _ _ gU1, lU, vU⟩⟩, m, kn, hn, fun r cl' H3 s3 hr kn' => ?_⟩
    exact ⟨by show (2 : Nat) ≤ sizeLine; decide, fin nta s3 hr (high_ok g (nfB_ok g) m kn' chs)⟩
  · refine ⟨_, rfl, C, _, rfl, .inl ⟨sqL hC1, fun ta nta => ?_⟩⟩
    have s2 : Same H1 (upd H1 ta (.tup (ca.map V.ref))) := samNew nta
    refine ⟨_, rfl, _, rfl, _, rfl, R, U, L, ws, ls, ra, lo, up, cl, b, rfl, rows1.mono fun b o e _ => s2 b o e, uR, lR, g, ⟨⟨lk, s2 _ _ gL1, lL, vL⟩, ⟨uk, s2 _ _ gU1, lU, vU⟩⟩, m, kn, hn, fun r lf H3 s3 hr kd => ?_⟩
    exact ⟨by show (2 : Nat) ≤ sizeLine; decide, fin nta s3 hr (low_ok g (nfB_ok g) m kn.c3 kd chs)⟩
/-- one version that has none below it: its chain -/
theorem own_one {D1 : Ends} {D R U L q C : Addr} {ws : List Int} {ca : List Addr} {cs : List (List Int)} {lo up : Int → Option Int} {b : Nat} {w : Int} {fs : List Int} {z7 : Option V} (pd : PD H U L lo up b) (m : Mt ws ws lo up) (hn : ws.length ≤ 60) (hw : w ∈ ws) (ch : Chs H C ca cs up fs) (hf : fs.length ≤ 100)
    (k1 : lo w = some (((lo w).getD 0)) → ∀ z7, D1.nx [some (.ref D), some (.ref R), some (.ref U), some (.ref L), some (.ref q), some (.ref C), some (.int w), z7] H)
    (k2 : ∀ (r : Addr) (c : List Int) (H' : Hp) (z7 : Option V), lo w = none → (∀ b o, H b = some o → b ≠ C → H' b = some o) → Chs H' C (ca ++ [r]) (cs ++ [c]) up (fs ++ [w]) → D1.nx [some (.ref D), some (.ref R), some (.ref U), some (.ref L), some (.ref q), some (.ref C), some (.int w), z7] H') :
    t_l_own_cover_one K D1 [some (.ref D), some (.ref R), some (.ref U), some (.ref L), some (.ref q), some (.ref C), some (.int w), z7] H := by
  obtain ⟨⟨lk, gL, lL, vL⟩, ⟨uk, gU, lU, vU⟩⟩ := pd
  refine ⟨_, rfl, _, rfl, L, _, rfl, .inl ⟨_, .inl w, .inl gL, rfl, rfl⟩, _, rfl, ?_⟩
  rw [vL w]
  cases el : lo w with
  | some l => exact iteF (k1 (by rw [el]; rfl) _)
  | none =>
  refine iteT ⟨_, rfl, by show (1 : Nat) ≤ sizeLine; decide, fun c nc => ?_⟩
  have k2 := fun r c' H' z7 => k2 r c' H' z7 el
  refine while_by (fun σ H' => ∃ (cs : List Int) (l : Int), σ = [some (.ref D), some (.ref R), some (.ref U), some (.ref L), some (.ref q), some (.ref C), some (.int w), some (.ref c)] ∧ Same H H' ∧ H' c = some (.lst ((cs ++ [l]).map V.int)) ∧ (cs ++ [l]).Pairwise (· < ·) ∧ (∀ u ∈ cs ++ [l], u ∈ ws) ∧ (cs ++ [l])[0]? = some w ∧ ∀ i x, cs[i]? = some x → (cs ++ [l])[i + 1]? = up x) (fun _ H' => ws.length - lenAt c H') ⟨[], w, rfl, samNew nc, updS, List.pairwise_singleton _ _, (fun u hu => by rw [List.mem_singleton.mp hu]; exact hw), rfl, fun i x h => by cases h⟩ ?_ ?_
  · rintro σ H1 ⟨ys, l, rfl, s1, hc, inc, hin, hd, nx⟩
    have el : atI ((ys ++ [l]).map V.int) (-1) = some (.int l) := by
      rw [List.map_append, List.map_singleton]
      exact at_last
    refine ⟨_, rfl, _, rfl, ixL hc el ⟨_, rfl, U, _, rfl, .inl ⟨_, .inl l, .inl (s1 _ _ gU), rfl, rfl⟩, _, rfl, ?_⟩⟩
    rw [vU l]
    have lc : lenAt c H1 = ys.length + 1 := by
      rw [lenAt_eq hc, List.length_append]
      rfl
    cases eu : up l with
    | none =>
      have cof : ChainOf up w (ys ++ [l]) := ⟨hd, fun i x hx => by
        by_cases hi : i < ys.length
        · rw [List.getElem?_append_left hi] at hx
          exact nx i x hx
        · have hi2 := (List.getElem?_eq_some_iff.mp hx).1
          rw [List.length_append, List.length_singleton] at hi2
          have e0 : i - ys.length = 0 := by omega
          rw [List.getElem?_append_right (by omega), e0] at hx
          cases Option.some.inj hx
          rw [eu, List.getElem?_eq_none_iff, List.length_append, List.length_singleton]
          omega⟩
      have hC1 := s1 _ _ ch.hA
      refine iteF ⟨_, rfl, .inl ⟨rfl, _, sqL hC1⟩, _, rfl, c, _, rfl, .inl ⟨sqL hc, fun r nr => ?_⟩⟩
      have s2 : Same H (upd H1 r (.tup ((ys ++ [l]).map V.int))) := s1.trans (samNew nr)
      refine ⟨C, _, _, rfl, rfl, s2 _ _ ch.hA, ?_, k2 r (ys ++ [l]) _ _ (fun b o e n => updN n (s2 b o e)) (ch.snoc s2 updS cof)⟩
      rw [List.length_map, ch.lc, ch.lf]
      exact Nat.lt_of_le_of_lt hf (by decide)
    | some u =>
      refine iteT ?_
      obtain ⟨uS, lw, lu⟩ := m.dom u l ((m.inv u l).mpr eu)
      have few0 := inc_few inc hin
      rw [List.length_append, List.length_singleton] at few0
      refine ⟨_, rfl, .inl ⟨rfl, _, sqL hc⟩, _, rfl, _, rfl, _, rfl, ixL hc el ⟨U, .int u, rfl, .inl ⟨uk, .inl l, .inl (s1 _ _ gU), rfl, by rw [vU l, eu]; rfl⟩, c, _, _, rfl, rfl, hc, ?_, ?_⟩⟩
      · rw [List.length_map, List.length_append]
        exact Nat.lt_of_le_of_lt (show ys.length + 1 ≤ 2000 by omega) (by decide)
      have inc2 : (ys ++ [l] ++ [u]).Pairwise (· < ·) := by
        rw [List.pairwise_append]
        refine ⟨inc, List.pairwise_singleton _ _, fun a ha y hy => ?_⟩
        rw [List.mem_singleton.mp hy]
        rcases List.mem_append.mp ha with ha | ha
        · have := (List.pairwise_append.mp inc).2.2 a ha l (List.mem_singleton.mpr rfl)
          omega
        · rw [List.mem_singleton.mp ha]
          exact lu
      have hin2 : ∀ z ∈ ys ++ [l] ++ [u], z ∈ ws := fun z hz => by
        rcases List.mem_append.mp hz with hz | hz
        · exact hin z hz
        · rw [List.mem_singleton.mp hz]
          exact uS
      have few := inc_few inc2 hin2
      rw [List.length_append, List.length_append, List.length_singleton, List.length_singleton] at few
      have eL : (ys ++ [l]).map V.int ++ [V.int u] = (ys ++ [l] ++ [u]).map V.int := by rw [List.map_append (l₁ := ys ++ [l])]; rfl
      rw [eL]
      have nx2 : ∀ i x, (ys ++ [l])[i]? = some x → (ys ++ [l] ++ [u])[i + 1]? = up x := fun i x hx => by
        by_cases hi : i < ys.length
        · rw [List.getElem?_append_left hi] at hx
          rw [← nx i x hx, List.getElem?_append_left (by rw [List.length_append, List.length_singleton]; omega)]
        · have hi2 := (List.getElem?_eq_some_iff.mp hx).1
          rw [List.length_append, List.length_singleton] at hi2
          have e0 : i - ys.length = 0 := by omega
          rw [List.getElem?_append_right (by omega), e0] at hx
          cases Option.some.inj hx
          have e1 : i + 1 - (ys ++ [l]).length = 0 := by rw [List.length_append, List.length_singleton]; omega
          rw [eu, List.getElem?_append_right (by rw [List.length_append, List.length_singleton]; omega), e1]
          rfl
      have hd2 : (ys ++ [l] ++ [u])[0]? = some w := by rw [List.getElem?_append_left (by rw [List.length_append, List.length_singleton]; omega)]; exact hd
      refine ⟨⟨ys ++ [l], u, rfl, Same.updF s1 nc, updS, inc2, hin2, hd2, nx2⟩, ?_⟩
      show ws.length - lenAt c _ < ws.length - lenAt c H1
      rw [lc, lenAt_eq updS, List.length_append, List.length_append]
      show ws.length - (ys.length + 1 + 1) < _
      omega
  · intro σ H Q Q' f h
    obtain ⟨v, e, w, e2, h⟩ := h
    refine ⟨v, e, w, e2, ix_mono (fun y H1 q => ?_) h⟩
    obtain ⟨v2, e3, a2, o, q5, q6, b2, q7, q8⟩ := q
    exact ⟨v2, e3, a2, o, q5, q6, b2, q7, f _ _ q8⟩
theorem pure_l_own_cover (h : sp_l_own_cover K vs H Q E) : t_l_own_cover K { nx := fun _ H' => Q .non H', rt := Q } (start N_l_own_cover vs) H := by
  obtain ⟨c, D, R, ns, t, ws, ls, ra, rfl, dk, rows, raD, rD, g, hn, ht, k⟩ := h
  have nd := rising_nodup g.inc
  have hR := rows.2.1
  have lrow : (rowsKV ws ra).length = ws.length := rowsKV_length rows.1
  intro U nU L nL
  have nUL : U ≠ L := ne_of_none updS nL
  have nL0 : H L = none := by
    rw [upd_ne (fun z => nUL z.symm)] at nL
    exact nL
  have uD := dk.neD nU
  have lD := dk.neD nL0
  have uR : U ≠ R := (ne_of_none hR nU).symm
  have lR : L ≠ R := (ne_of_none hR nL0).symm
  have s2 : Same H (upd (upd H U (.dK [])) L (.dK [])) := (samNew nU).trans (samNew nL)
  have gU2 : upd (upd H U (.dK [])) L (.dK []) U = some (.dK []) := updN nUL updS
  have gL2 : upd (upd H U (.dK [])) L (.dK []) L = some (.dK []) := updS
  generalize upd (upd H U (.dK [])) L (.dK []) = H2 at s2 gU2 gL2
  refine ⟨_, rfl, R, _, rfl, s2 _ _ hR, fun q nq => ?_⟩
  rw [keys_rows rows.1]
  have nq0 := s2.free nq
  have qD := dk.neD nq0
  have qU : U ≠ q := ne_of_none gU2 nq
  have qL : L ≠ q := ne_of_none gL2 nq
  have s3 : Same H (upd H2 q (.lst (ws.map V.int))) := s2.trans (samNew nq)
  have gU3 : upd H2 q (.lst (ws.map V.int)) U = some (.dK []) := updN qU gU2
  have gL3 : upd H2 q (.lst (ws.map V.int)) L = some (.dK []) := updN qL gL2
  have gq3 : upd H2 q (.lst (ws.map V.int)) q = some (.lst (ws.map V.int)) := updS
  generalize upd H2 q (.lst (ws.map V.int)) = H3 at s3 gU3 gL3 gq3
  show t_l_own_cover_pairs K { nx := fun _ H' => Q .non H', rt := Q } [some (.ref D), some (.ref R), some (.ref U), some (.ref L), some (.ref q), none, none, none] H3
  refine while_by (fun σ H' => σ = [some (.ref D), some (.ref R), some (.ref U), some (.ref L), some (.ref q), none, none, none] ∧ ∃ (S rest : List Int) (lo up : Int → Option Int) (cl : Int → Bool), Kp D H H' ∧ Dk c D ns (t + 62 * S.length) H' ∧ H' q = some (.lst (rest.map V.int)) ∧ PD H' U L lo up (61 * S.length) ∧ Mt ws S lo up ∧ Kn (nfB ws ls) S lo up cl ∧ rest.Nodup ∧ (∀ x, x ∈ ws ↔ x ∈ S ∨ x ∈ rest) ∧ (∀ x ∈ rest, x ∉ S) ∧ S.length + rest.length = ws.length) (fun _ H' => lenAt q H') ⟨rfl, [], ws, fun _ => none, fun _ => none, fun _ => false, .of_same s3, dk.same s3, gq3, ⟨⟨[], gL3, Nat.le_refl _, fun k => rfl⟩, ⟨[], gU3, Nat.le_refl _, fun k => rfl⟩⟩, ⟨fun u l => ⟨(fun e => by cases e), fun e => by cases e⟩, fun u l e => by cases e⟩, ⟨(fun _ h => by cases h), (fun _ h => by cases h), fun _ _ h => by cases h⟩, nd, (fun x => ⟨.inr, fun h => h.elim (fun h => by cases h) id⟩), (fun x _ h => by cases h), by rw [List.length_nil]; omega⟩ ?_ ?_
  · rintro σ H4 ⟨rfl, S, rest, lo, up, cl, k4, d4, hq4, pd4, m4, kn4, ndr, mm, dj, sz⟩
    refine ⟨_, rfl, lenL hq4 ⟨_, _, rfl, rfl, _, rfl, ite2 (fun e => ?_) fun e => ?_⟩⟩
    · have pos : 0 < rest.length := by
        have := of_decide_eq_true e
        rw [List.length_map] at this
        omega
      refine ⟨_, rfl, _, rfl, _, rfl, _, rfl, _, rfl, .inl ⟨rfl, _, sqL hq4⟩, _, rfl, _, rfl, lenL hq4 ⟨c, D, ns, _, _, rfl, d4, by omega, by rw [List.length_map]; omega, small100 (by rw [List.length_map]; omega), fun x H5 x0 x1 d5 f5 => ?_⟩⟩
      rw [List.length_map] at x1
      obtain ⟨X, rfl⟩ := Int.eq_ofNat_of_zero_le x0
      have hX : X < rest.length := by omega
      have k5 : Kp D H4 H5 := .fr f5
      have hq5 := k5 _ _ hq4 qD
      have ev : rest[X]? = some rest[X] := List.getElem?_eq_getElem hX
      obtain ⟨e1, e2, e3, e4⟩ := erase_mem ndr ev
      refine ⟨q, _, _, X, .int rest[X], rfl, rfl, hq5, by omega, by omega, ?_, by rw [List.getElem?_map, ev]; rfl, ?_⟩
      · rw [List.length_map]
        exact seqIndex_nat hX
      have eE : (rest.map V.int).eraseIdx X = (rest.eraseIdx X).map V.int := by rw [List.eraseIdx_eq_take_drop_succ, List.eraseIdx_eq_take_drop_succ, List.map_append, List.map_take, List.map_drop]
      rw [eE]
      have vw : rest[X] ∈ ws := (mm _).mpr (.inr (List.getElem_mem hX))
      have vS : rest[X] ∉ S := dj _ (List.getElem_mem hX)
      generalize rest[X] = v at ev e2 e3 vw vS
      have q4 : ∀ {a : Addr} {o : HO}, H a = some o → a ≠ D → upd H5 q (.lst ((rest.eraseIdx X).map V.int)) a = some o := fun {a o} h n => updN (ne_of_none h nq0) (k5 _ _ (k4 _ _ h n) n)
      obtain ⟨⟨lk, gL, lL, vL⟩, ⟨uk, gU, lU, vU⟩⟩ := pd4
      have d6 : Dk c D ns (t + 62 * S.length + 1) (upd H5 q (.lst ((rest.eraseIdx X).map V.int))) := d5.upd (fun z => by
        have := dk.2.1
        rw [← z, nq0] at this
        cases this) qD
      refine ⟨c, D, R, U, L, ns, _, ws, ls, ra, S, v, lo, up, cl, 61 * S.length, rfl, d6, ⟨rows.1, q4 hR rD, fun i v a h1 h2 => q4 (rows.2.2 i v a h1 h2) (raD a (List.mem_of_getElem? h2))⟩, raD, ⟨uD, lD, nUL, rD, uR.symm, lR.symm⟩, g, m4, kn4, vw, vS, (fun u hu => (mm u).mpr (.inl hu)), hn, ⟨⟨lk, updN qL (k5 _ _ gL lD), lL, vL⟩, ⟨uk, updN qU (k5 _ _ gU uD), lU, vU⟩⟩, by omega, by omega, fun lo' up' cl' H7 k7 d7 pd7 m7 kn7 => ?_⟩
      have hq7 : H7 q = some (.lst ((rest.eraseIdx X).map V.int)) := k7 _ _ updS qD qU.symm qL.symm
      refine ⟨⟨rfl, S ++ [v], rest.eraseIdx X, lo', up', cl', fun b o e n => k7 b o (q4 e n) n (ne_of_none e nU) (ne_of_none e nL0), ?_, hq7, ?_, m7, kn7, e1, fun x => ?_, fun x hx hs => ?_, ?_⟩, ?_⟩
      · rw [List.length_append, List.length_singleton]
        exact d7.le (by omega)
      · rw [List.length_append, List.length_singleton]
        exact pd7.le (by omega)
      · rw [mm, e3, List.mem_append, List.mem_singleton]
        exact ⟨fun h => h.elim (fun h => .inl (.inl h)) fun h => h.elim (fun h => .inl (.inr h)) .inr, fun h => h.elim (fun h => h.elim .inl fun h => .inr (.inl h)) fun h => .inr (.inr h)⟩
      · rcases List.mem_append.mp hs with hs | hs
        · exact dj x ((e3 x).mpr (.inr hx)) hs
        · rw [List.mem_singleton.mp hs] at hx
          exact e2 hx
      · rw [List.length_append, List.length_singleton]
        omega
      · show lenAt q H7 < lenAt q H4
        rw [lenAt_eq hq7, lenAt_eq hq4]
        omega
    · have rn : rest = [] := by
        cases rest with
        | nil => rfl
        | cons w0 wr => exact absurd (decide_eq_true (show (0 : Int) < (((w0 :: wr).map V.int).length : Nat) by rw [List.length_map, List.length_cons]; omega)) e
      subst rn
      have mw : ∀ x, x ∈ ws ↔ x ∈ S := fun x => (mm x).trans ⟨fun h => h.elim id (fun h => by cases h), .inl⟩
      have m : Mt ws ws lo up := ⟨m4.inv, fun u l e => by obtain ⟨a, b, c⟩ := m4.dom u l e; exact ⟨(mw u).mpr a, b, c⟩⟩
      have kn : Kn (nfB ws ls) ws lo up cl := ⟨kn4.c1, fun v hv => kn4.c2 v ((mw v).mp hv), kn4.c3⟩
      rw [List.length_nil] at sz
      -- the chains
      refine ⟨by show (0 : Nat) ≤ sizeLine; decide, fun C nC => ?_⟩
      have cD : C ≠ D := d4.neD nC
      have nCR : C ≠ R := (ne_of_none (k4 _ _ hR rD) nC).symm
      have s5 : Same H4 (upd H4 C (.lst [])) := samNew nC
      have hC5 : upd H4 C (.lst []) C = some (.lst []) := updS
      generalize upd H4 C (.lst []) = H5 at s5 hC5
      have hR5 : H5 R = some (.dK (rowsKV ws ra)) := s5 _ _ (k4 _ _ hR rD)
      refine ⟨R, _, hR5, True.intro, fun od => ?_⟩
      refine ⟨_, rfl, R, od, rfl, .inl ⟨_, updS, ?_⟩⟩
      refine for_it walk_keys (fun i σ H' => ∃ (ca : List Addr) (cs : List (List Int)) (z6 z7 : Option V), σ = [some (.ref D), some (.ref R), some (.ref U), some (.ref L), some (.ref q), some (.ref C), z6, z7] ∧ (∀ b o, H4 b = some o → b ≠ R → H' b = some o) ∧ H' R = some (.frz od (.dK (rowsKV ws ra))) ∧ Chs H' C ca cs up ((ws.take i).filter (freeB lo))) ?_ ?_ ?_ ?_
      · exact ⟨[], [], none, none, rfl, fun b o e n => updN n (s5 b o e), updS, updN nCR hC5, rfl, rfl, (fun i a c h => by cases h), fun i a c h => by cases h⟩
      · rintro i σ H' _ ⟨_, _, _, _, _, _, hq, _⟩
        exact hq
      · rintro i x σ H6 H6' hi ⟨ca, cs, z6, z7, rfl, s6, hR6, ch6⟩ ⟨rfl, key, val, hkv, rfl⟩
        rw [lrow] at hi
        have hai : i < ra.length := by rw [rows.1]; exact hi
        have ew : ws[i]? = some ws[i] := List.getElem?_eq_getElem hi
        have ekv : (rowsKV ws ra)[i]? = some (.inl ws[i], .ref ra[i]) := by
          unfold rowsKV
          rw [List.getElem?_zipWith, ew, List.getElem?_eq_getElem hai]
        rw [ekv] at hkv
        cases Option.some.inj hkv
        have vw : ws[i] ∈ ws := List.getElem_mem hi
        generalize ws[i] = w at vw ew
        clear hkv ekv
        obtain ⟨⟨lk, gL, lL, vL⟩, ⟨uk, gU, lU, vU⟩⟩ := pd4
        have fl : ((ws.take i).filter (freeB lo)).length ≤ 100 := by
          have := List.length_filter_le (freeB lo) (ws.take i)
          rw [List.length_take] at this
          omega
        refine own_one (lo := lo) ⟨⟨lk, s6 _ _ gL lR, lL, vL⟩, ⟨uk, s6 _ _ gU uR, lU, vU⟩⟩ m hn vw ch6 fl (fun h z7 => ⟨ca, cs, _, z7, rfl, s6, hR6, ?_⟩) fun r c' H7 z7 hl s7 ch7 => ⟨ca ++ [r], cs ++ [c'], _, z7, rfl, fun b o e n => s7 b o (s6 b o e n) (ne_of_none e nC), s7 _ _ hR6 nCR.symm, ?_⟩
        · rw [filt_snoc ew, if_neg (by unfold freeB; rw [h]; exact Bool.false_ne_true), List.append_nil]
          exact ch6
        · rw [filt_snoc ew, if_pos (by unfold freeB; rw [hl]; rfl)]
          exact ch7
      · rintro σ H6 ⟨ca, cs, z6, z7, rfl, s6, hR6, ch6⟩
        rw [lrow, List.take_length] at ch6
        refine ⟨hR6, ?_⟩
        have sA : Same H4 (upd H6 R (.dK (rowsKV ws ra))) := fun b o e => by
          by_cases z : b = R
          · subst z
            rw [k4 _ _ hR rD] at e
            cases Option.some.inj e
            exact updS
          · exact updN z (s6 b o e z)
        have ch7 : Chs (upd H6 R (.dK (rowsKV ws ra))) C ca cs up (ws.filter (freeB lo)) := ⟨updN nCR ch6.hA, ch6.lc, ch6.lf, fun i a c h1 h2 => by
          have := ch6.pt i a c h1 h2
          exact updN (fun z => by rw [z, hR6] at this; cases this) this, ch6.ch⟩
        generalize upd H6 R (.dK (rowsKV ws ra)) = H7 at sA ch7
        obtain ⟨⟨lk, gL, lL, vL⟩, ⟨uk, gU, lU, vU⟩⟩ := pd4
        refine own_end (b := 61 * S.length) (d4.same sA) (by omega) (rows.mono fun b o e h => sA b o (k4 b o e (h.elim (fun h => by rw [h]; exact rD) fun h => raD b h))) raD rD uR lR uD lD g ⟨⟨lk, sA _ _ gL, lL, vL⟩, ⟨uk, sA _ _ gU, lU, vU⟩⟩ m kn hn ch7 cD fun r cs' ap H8 k8 d8 ca8 ok => k r cs' ap H8 (fun b o e n => k8 b o (sA b o (k4 b o e n)) n) (d8.le (by omega)) ca8 ok
  · intro σ H Q Q' f h
    obtain ⟨v, e, x, n, e2, h2, i, j, e3, e4, b, e5, q⟩ := h
    exact ⟨v, e, x, n, e2, h2, i, j, e3, e4, b, e5, f _ _ q⟩
end
end Fw

set_option Elab.async false
set_option linter.all false
set_option maxRecDepth 100000
set_option maxHeartbeats 4000000
namespace Fw
open PySem L2 RZ RT
def fInsert : V → List V → Hp → VK → Prop := fun x vs H Q => ∃ (l : Addr) (xs : List V) (i : Int) (y : V), x = .ref l ∧ vs = [.int i, y] ∧ H l = some (.lst xs) ∧ xs.length < sizeLine ∧ 0 ≤ i ∧ i < 2 ^ 63 ∧ Q .non (upd H l (.lst (xs.take i.toNat ++ [y] ++ xs.drop i.toNat)))
/-- a for over the keys of a locked dict -/
theorem for_keysK {d : Addr} {o : Obj} {kvs : List (Key × V)} {g : TG} {tb : TS} {D : Ends} {σ : L2.St} {H : Hp} (Pv : Nat → L2.St → Hp → Prop) (h0 : Pv 0 σ H) (hl : ∀ i σ H, Pv i σ H → H d = some (.frz o (.dK kvs)))
    (hs : ∀ (i : Nat) (k : Key) (v : V) (σ : L2.St) (H : Hp), kvs[i]? = some (k, v) → Pv i σ H → g (kV k) σ H fun σ2 H2 => tb { D with nx := Pv (i + 1), ct := Pv (i + 1), bk := D.nx } σ2 H2) (hd : ∀ σ H, Pv kvs.length σ H → D.nx σ H) :
    ∃ W : Nat → Nat → L2.St → Hp → Prop, (∃ m, W 0 m σ H) ∧ ∀ i m σ H, W i m σ H →
      ((Itk d o kvs).stop i H ∧ D.nx σ H) ∨ ((Itk d o kvs).go i H ∧ ∃ N : L2.St → Hp → Prop, (∀ σ' H', N σ' H' → ∃ m', m' < m ∧ W (i + 1) m' σ' H') ∧ ∀ x H', (Itk d o kvs).yld i H x H' → g x σ H' fun σ2 H2 => tb { D with nx := N, ct := N, bk := D.nx } σ2 H2) := by
  refine ⟨fun i m σ H => m = kvs.length - i ∧ i ≤ kvs.length ∧ Pv i σ H, ⟨kvs.length, by simp, Nat.zero_le _, h0⟩, ?_⟩
  rintro i m σ H ⟨rfl, hi, p⟩
  have q := hl i σ H p
  by_cases hlt : i < kvs.length
  · refine .inr ⟨⟨q, hlt⟩, Pv (i + 1), fun σ' H' p' => ⟨kvs.length - (i + 1), by omega, rfl, hlt, p'⟩, fun x H' y => ?_⟩
    obtain ⟨e, k, v, e2, e3⟩ := y
    subst e e3
    exact hs i k v σ _ e2 p
  · have e : i = kvs.length := by omega
    subst e
    exact .inl ⟨⟨q, Nat.le_refl _⟩, hd σ H p⟩
theorem rows_get {ws : List Int} {as : List Addr} {i : Nat} {k : Key} {v : V} (hl : as.length = ws.length) (h : (rowsKV ws as)[i]? = some (k, v)) : ∃ w a, ws[i]? = some w ∧ as[i]? = some a ∧ k = Sum.inl w ∧ v = .ref a := by
  unfold rowsKV at h
  rw [List.getElem?_zipWith] at h
  cases e1 : ws[i]? with
  | none => rw [e1] at h; cases h
  | some w =>
    cases e2 : as[i]? with
    | none => rw [e1, e2] at h; cases h
    | some a =>
      rw [e1, e2] at h
      have := Prod.mk.inj (Option.some.inj h)
      exact ⟨w, a, rfl, rfl, this.1.symm, this.2.symm⟩
/-! ### a holding that has with each version all below it -/
def sp_l_lower (_ : PySem.W.Frag) : Sp := fun vs H Q _ => ∃ (c D R : Addr) (ns : List Int) (t : Nat) (ws : List Int) (ls : List (Int × Int)) (as : List Addr), vs = [.ref D, .ref R] ∧ Dk c D ns t H ∧ RowsAt H R ws ls ws as ∧ (∀ a ∈ as, a ≠ D) ∧ Good ws ls ∧ ws.length ≤ 60 ∧ t + 100 < 1000000000 ∧
  ∀ (S : Addr) (fs : List Int) (H' : Hp), Kp D H H' → Dk c D ns (t + 100) H' → H S = none → H' S = some (.lst (fs.map V.int)) → (∀ x ∈ fs, ∀ y, Dn ls x y → y ∈ fs) → (∀ x ∈ fs, x ∈ ws) → fs.Pairwise (· < ·) → Q (.ref S) H'
abbrev N_l_lower : List Str := ["_law_deck_here", "_law_rows", "_law_held", "_law_version", "_law_low"]
def t_l_lower (K : PySem.W.Frag) : TS := (tSeq (tAsg tDNewK (gName 2))
    (tSeq (tLock (tFor (iKeys (tVar 1)) (gName 3) (tIfS (tTest (tOp rEq (tCall (sp_l_draw K) [] E0 (tCons (tVar 0) (tCons (tC (.int 3)) tNil))) (tC (.int 0)))) (tFor (iList K (tDGet (tVar 1) (tVar 3))) (gName 4) (sDPut (tVar 2) (tVar 4) (tC (.bl true)))) tNext)))
    (tRet (tCB fSortD (tCons (tVar 2) tNil)))))
section
variable {K : PySem.W.Frag} {vs : List V} {H : Hp} {Q : VK} {E : XK}
theorem len_l_lower (h : sp_l_lower K vs H Q E) : vs.length = 2 := by
  obtain ⟨_, _, _, _, _, _, _, _, rfl, _⟩ := h
  rfl
theorem pure_l_lower (h : sp_l_lower K vs H Q E) : t_l_lower K { nx := fun _ H' => Q .non H', rt := Q } (start N_l_lower vs) H := by
  obtain ⟨c, D, R, ns, t, ws, ls, as, rfl, dk, ⟨hal, hR, hrow⟩, haD, g, hw, ht, k⟩ := h
  refine fun F nF => ?_
  have nRD : R ≠ D := by
    obtain ⟨xs, e⟩ := dk.someD
    exact ne_of hR e (by intro z; cases z)
  have nRc : R ≠ c := by
    obtain ⟨xs, e⟩ := dk.someC
    exact ne_of hR e (by intro z; cases z)
  have nRF : R ≠ F := ne_of_none hR nF
  have hkl : (rowsKV ws as).length = ws.length := rowsKV_length hal
  refine ⟨R, .dK (rowsKV ws as), updN nRF hR, trivial, fun od => ?_⟩
  refine ⟨_, rfl, R, od, rfl, .inl ⟨rowsKV ws as, updS, ?_⟩⟩
  refine for_keysK (d := R) (o := od) (kvs := rowsKV ws as) (fun i σ H' => ∃ (fs : List Int) (z3 z4 : Option V), σ = [some (.ref D), some (.ref R), some (.ref F), z3, z4] ∧ Dk c D ns (t + i) H' ∧ H' R = some (.frz od (.dK (rowsKV ws as))) ∧ H' F = some (.dK (mkS fs)) ∧ (∀ b o, H b = some o → b ≠ D → b ≠ R → H' b = some o) ∧
    fs.Nodup ∧ (∀ x ∈ fs, ∀ y, Dn ls x y → y ∈ fs) ∧ ∀ x ∈ fs, x ∈ ws) ?_ ?_ ?_ ?_
  · refine ⟨[], none, none, rfl, (dk.upd (dk.neC nF) (dk.neD nF)).upd nRc nRD, updS, updN nRF.symm updS, fun b o e n1 n2 => updN n2 (updN (ne_of_none e nF) e), .nil, (fun x hx => nomatch hx), (fun x hx => nomatch hx)⟩
  · rintro i σ H' ⟨_, _, _, _, _, h1, _⟩
    exact h1
  · rintro i kk v σ H1 hkv ⟨fs, z3, z4, rfl, d1, hR1, hF1, kp1, nd, cl, sub⟩
    obtain ⟨w, a, ew, ea, rfl, rfl⟩ := rows_get hal hkv
    have hi : i < ws.length := (List.getElem?_eq_some_iff.mp ew).1
    have hwm : w ∈ ws := List.mem_of_getElem? ew
    have nFD : F ≠ D := dk.neD nF
    refine ⟨_, rfl, c, D, ns, t + i, 3, rfl, d1, by omega, by decide, by decide, fun y H2 y0 y1 d2 fr2 => ⟨rfl, _, rfl, ite2 (fun _ => ?_) (fun _ => ?_)⟩⟩
    · have hR2 : H2 R = some (.frz od (.dK (rowsKV ws as))) := by rw [fr2 _ nRD]; exact hR1
      have hF2 : H2 F = some (.dK (mkS fs)) := by rw [fr2 _ nFD]; exact hF1
      have hlist : H a = some (.lst ((belowL ws ls w).map V.int)) := hrow i w a ew ea
      have naD := haD a (List.mem_of_getElem? ea)
      have naR : a ≠ R := ne_of hlist hR (by intro z; cases z)
      have naF : a ≠ F := ne_of_none hlist nF
      have hlist2 : H2 a = some (.lst ((belowL ws ls w).map V.int)) := by rw [fr2 _ naD]; exact kp1 _ _ hlist naD naR
      refine ⟨_, rfl, _, rfl, R, .ref a, rfl, .inl ⟨_, Sum.inl w, .inr ⟨od, hR2⟩, rfl, (rows_val (rising_nodup g.inc) ew ea).symm⟩, a, rfl, ⟨_, sqL hlist2⟩, ?_⟩
      refine for_list (K := K) (a := a) (xs := (belowL ws ls w).map V.int) (fun n σ H' => ∃ z4 : Option V, σ = [some (.ref D), some (.ref R), some (.ref F), some (.int w), z4] ∧ H' = upd H2 F (.dK (mkS (insAll fs ((belowL ws ls w).take n))))) ?_ ?_ ?_ ?_
      · refine ⟨z4, rfl, ?_⟩
        rw [List.take_zero]
        funext b
        by_cases e : b = F
        · rw [e, updS, hF2]
          rfl
        · rw [upd_ne e]
      · rintro n σ H' _ ⟨_, _, rfl⟩
        exact sqL (updN naF hlist2)
      · rintro n x σ H' hx ⟨z4, rfl, rfl⟩
        rw [List.getElem?_map] at hx
        cases eu : (belowL ws ls w)[n]? with
        | none => rw [eu] at hx; cases hx
        | some u =>
          rw [eu] at hx
          cases Option.some.inj hx
          have hlen : (mkS (insAll fs ((belowL ws ls w).take n))).length < sizeLine := by
            rw [mkS_length]
            have := length_sub (vs := ws) (nodup_insAll (ns := (belowL ws ls w).take n) nd) fun y hy => by
              rcases mem_insAll.mp hy with hy | hy
              · exact sub y hy
              · exact ((mem_belowL g hwm).mp (List.mem_of_mem_take hy)).mem g hwm
            exact Nat.lt_of_le_of_lt (show _ ≤ 1000 by omega) (by decide)
          refine ⟨_, rfl, _, rfl, F, _, rfl, DPut.k (k := Sum.inl u) updS hlen, _, rfl, ?_⟩
          rw [upd_upd, mkS_put, take_snoc eu, insAll_snoc]
      · rintro σ H' ⟨z4, rfl, rfl⟩
        rw [List.length_map, List.take_length]
        refine ⟨insAll fs (belowL ws ls w), _, _, rfl, (d2.upd (by obtain ⟨xs, e⟩ := d2.someC; exact ne_of hF2 e (by intro z; cases z)) nFD), updN nRF hR2, updS, fun b o e n1 n2 => updN (ne_of_none e nF) (by rw [fr2 _ n1]; exact kp1 b o e n1 n2), nodup_insAll nd, fun x hx y d => ?_, fun x hx => ?_⟩
        · rcases mem_insAll.mp hx with hx | hx
          · exact mem_insAll.mpr (.inl (cl x hx y d))
          · exact mem_insAll.mpr (.inr ((mem_belowL g hwm).mpr (((mem_belowL g hwm).mp hx).trans d)))
        · rcases mem_insAll.mp hx with hx | hx
          · exact sub x hx
          · exact ((mem_belowL g hwm).mp hx).mem g hwm
    · exact ⟨fs, _, _, rfl, d2, by rw [fr2 _ nRD]; exact hR1, by rw [fr2 _ nFD]; exact hF1, fun b o e n1 n2 => by rw [fr2 _ n1]; exact kp1 b o e n1 n2, nd, cl, sub⟩
  · rintro σ H1 ⟨fs, z3, z4, rfl, d1, hR1, hF1, kp1, nd, cl, sub⟩
    rw [hkl] at d1
    refine ⟨hR1, ?_⟩
    have hF2 : upd H1 R (.dK (rowsKV ws as)) F = some (.dK (mkS fs)) := updN nRF.symm hF1
    have hfl := length_sub nd sub
    refine ⟨_, rfl, F, mkS fs, fs, rfl, .inl hF2, mkS_keys fs, by omega, fun ys S py sy nS => ?_⟩
    have d2 : Dk c D ns (t + ws.length) (upd H1 R (.dK (rowsKV ws as))) := d1.upd nRc nRD
    have kp2 : Kp D H (upd H1 R (.dK (rowsKV ws as))) := fun b o e n => by
      by_cases hb : b = R
      · subst hb
        rw [hR] at e
        cases e
        exact updS
      · exact updN hb (kp1 b o e n hb)
    refine k S ys _ (kp2.trans (.new nS)) ((d2.upd (d2.neC nS) (d2.neD nS)).le (by omega)) (kp2.free nS (d2.neD nS)) updS (fun x hx y d => py.mem_iff.mpr (cl x (py.mem_iff.mp hx) y d)) (fun x hx => sub x (py.mem_iff.mp hx)) (rising_of sy (py.nodup_iff.mpr nd))
end
/-! ### answers, right for a holding -/
/-- where one list of answers grows -/
structure AI (H0 : Hp) (c D L : Addr) (ns : List Int) (t : Nat) (as : List Addr) (ans : List (Int × Bool)) (H : Hp) : Prop where
  dk : Dk c D ns t H
  keep : Kp D H0 H
  hl : H L = some (.lst (as.map V.ref))
  len : as.length = ans.length
  pr : ∀ (i : Nat) (a : Addr) (e : Int × Bool), as[i]? = some a → ans[i]? = some e → H a = some (.tup [.int e.1, .bl e.2])
  d0 : ∃ t0, Dk c D ns t0 H0
  l0 : H0 L = none
section
variable {H0 H H' : Hp} {c D L q : Addr} {ns : List Int} {t t' : Nat} {as : List Addr} {ans : List (Int × Bool)} {o : HO}
theorem AI.lD (s : AI H0 c D L ns t as ans H) : L ≠ D := s.d0.choose_spec.neD s.l0
theorem AI.lC (s : AI H0 c D L ns t as ans H) : L ≠ c := s.d0.choose_spec.neC s.l0
theorem AI.draw (s : AI H0 c D L ns t as ans H) (d : Dk c D ns t' H') (f : ∀ b, b ≠ D → H' b = H b) : AI H0 c D L ns t' as ans H' :=
  ⟨d, s.keep.trans (.fr f), by rw [f _ s.lD]; exact s.hl, s.len, fun i a e h1 h2 => (Kp.fr f).tup s.dk _ _ (s.pr i a e h1 h2), s.d0, s.l0⟩
theorem AI.new (s : AI H0 c D L ns t as ans H) (n : H q = none) : AI H0 c D L ns t as ans (upd H q o) :=
  ⟨s.dk.upd (s.dk.neC n) (s.dk.neD n), s.keep.trans (.new n), updN (ne_of_none s.hl n) s.hl, s.len, fun i a e h1 h2 => updN (ne_of_none (s.pr i a e h1 h2) n) (s.pr i a e h1 h2), s.d0, s.l0⟩
theorem AI.le (s : AI H0 c D L ns t as ans H) (h : t ≤ t') : AI H0 c D L ns t' as ans H := ⟨s.dk.le h, s.keep, s.hl, s.len, s.pr, s.d0, s.l0⟩
theorem ins_get {α : Type} {l : List α} {k i : Nat} {x y : α} (hk : k ≤ l.length) (h : (l.take k ++ [x] ++ l.drop k)[i]? = some y) : (i = k ∧ y = x) ∨ (i < k ∧ l[i]? = some y) ∨ (k < i ∧ l[i - 1]? = some y) := by
  have hl : (l.take k).length = k := by rw [List.length_take]; omega
  rw [List.append_assoc] at h
  by_cases h1 : i < k
  · rw [List.getElem?_append_left (by omega), List.getElem?_take_of_lt h1] at h
    exact .inr (.inl ⟨h1, h⟩)
  · rw [List.getElem?_append_right (by omega), hl] at h
    by_cases h2 : i = k
    · subst h2
      rw [Nat.sub_self] at h
      exact .inl ⟨rfl, (Option.some.inj h).symm⟩
    · obtain ⟨m, hm⟩ : ∃ m, i - k = m + 1 := ⟨i - k - 1, by omega⟩
      rw [hm] at h
      have h3 : (l.drop k)[m]? = some y := h
      rw [List.getElem?_drop] at h3
      refine .inr (.inr ⟨by omega, ?_⟩)
      rw [show i - 1 = k + m by omega]
      exact h3
theorem ins_perm {α : Type} (l : List α) (k : Nat) (x : α) : (l.take k ++ [x] ++ l.drop k).Perm (x :: l) := by
  rw [List.append_assoc]
  have := List.perm_middle (a := x) (l₁ := l.take k) (l₂ := l.drop k)
  rw [List.take_append_drop] at this
  exact this
theorem AI.ins (s : AI H0 c D L ns t as ans H) {T : Addr} {e : Int × Bool} (hT : H T = some (.tup [.int e.1, .bl e.2])) {k : Nat} (hk : k ≤ as.length) : AI H0 c D L ns t (as.take k ++ [T] ++ as.drop k) (ans.take k ++ [e] ++ ans.drop k) (upd H L (.lst ((as.map V.ref).take k ++ [.ref T] ++ (as.map V.ref).drop k))) := by
  refine ⟨s.dk.upd s.lC s.lD, fun b u e n => updN (ne_of_none e s.l0) (s.keep b u e n), ?_, ?_, fun i a e' h1 h2 => ?_, s.d0, s.l0⟩
  · rw [updS, List.map_append, List.map_append, List.map_take, List.map_drop]
    rfl
  · rw [(ins_perm as k T).length_eq, (ins_perm ans k e).length_eq, List.length_cons, List.length_cons, s.len]
  · have hk2 : k ≤ ans.length := by rw [← s.len]; exact hk
    have main : H a = some (.tup [.int e'.1, .bl e'.2]) := by
      rcases ins_get hk h1 with ⟨h3, rfl⟩ | ⟨h3, h4⟩ | ⟨h3, h4⟩
      · rcases ins_get hk2 h2 with ⟨h5, rfl⟩ | ⟨h5, h6⟩ | ⟨h5, h6⟩
        · exact hT
        · omega
        · omega
      · rcases ins_get hk2 h2 with ⟨h5, rfl⟩ | ⟨h5, h6⟩ | ⟨h5, h6⟩
        · omega
        · exact s.pr i a e' h4 h6
        · omega
      · rcases ins_get hk2 h2 with ⟨h5, rfl⟩ | ⟨h5, h6⟩ | ⟨h5, h6⟩
        · omega
        · omega
        · exact s.pr (i - 1) a e' h4 h6
    exact updN (ne_of main s.hl (by intro z; cases z)) main
end
def sp_l_answers (_ : PySem.W.Frag) : Sp := fun vs H Q _ => ∃ (c D p S : Addr) (ns : List Int) (t : Nat) (ws : List Int) (ls : List (Int × Int)) (fs : List Int), vs = [.ref D, .ref p, .ref S] ∧ Dk c D ns t H ∧ ShapeAt H p ws ls ∧ Good ws ls ∧ H S = some (.lst (fs.map V.int)) ∧ S ≠ D ∧ ws.length ≤ 60 ∧ t + 200 < 1000000000 ∧
  ∀ (q : Addr) (ans : List (Int × Bool)) (H' : Hp), Kp D H H' → Dk c D ns (t + 200) H' → AnsAt H' q ans → (∀ e ∈ ans, e.1 ∈ ws ∧ e.2 = fs.contains e.1) → (ans.map (·.1)).Nodup → ans.length ≤ ws.length → Q (.ref q) H'
abbrev N_l_answers : List Str := ["_law_deck_here", "_law_web", "_law_held", "_law_told", "_law_version"]
def t_l_answers (K : PySem.W.Frag) : TS := (tSeq (tAsg (tLst tNil) (gName 3))
    (tSeq (tFor (iTup K (tOp (rIx K) (tVar 1) (tC (.int 0)))) (gName 4) (tIfS (tTest (tOp rGtI (tCall (sp_l_draw K) [] E0 (tCons (tVar 0) (tCons (tC (.int 3)) tNil))) (tC (.int 0)))) (tDrop (tBM K "list" fInsert (tVar 3) (tCons (tCall (sp_l_draw K) [] E0 (tCons (tVar 0) (tCons (tOp rAddI (tCB (fLen K) (tCons (tVar 3) tNil)) (tC (.int 1))) tNil))) (tCons (tTup (tCons (tVar 4) (tCons (tOp (rIn K false) (tVar 4) (tVar 2)) tNil))) tNil)))) tNext))
    (tRet (tCB (fTupleOf K) (tCons (tVar 3) tNil)))))
section
variable {K : PySem.W.Frag} {vs : List V} {H : Hp} {Q : VK} {E : XK}
theorem len_l_answers (h : sp_l_answers K vs H Q E) : vs.length = 3 := by
  obtain ⟨_, _, _, _, _, _, _, _, _, rfl, _⟩ := h
  rfl
theorem pure_l_answers (h : sp_l_answers K vs H Q E) : t_l_answers K { nx := fun _ H' => Q .non H', rt := Q } (start N_l_answers vs) H := by
  obtain ⟨c, D, p, S, ns, t, ws, ls, fs, rfl, dk, ⟨a0, r0, rs, hp, ha0, hr0, lk⟩, g, hS, nSD, hw, ht, k⟩ := h
  refine ⟨Nat.zero_le _, fun L nL => ?_⟩
  have s0 : AI H c D L ns t [] [] (upd H L (.lst [])) := ⟨dk.upd (dk.neC nL) (dk.neD nL), .new nL, updS, rfl, (fun i a e h1 _ => by cases h1), ⟨t, dk⟩, nL⟩
  refine ⟨_, rfl, ixT (s0.keep.tup dk _ _ hp) rfl ⟨a0, rfl, ⟨_, sqT (s0.keep.tup dk _ _ ha0)⟩, ?_⟩⟩
  refine for_tup (K := K) (a := a0) (xs := ws.map V.int) (fun i σ H' => ∃ (as : List Addr) (ans : List (Int × Bool)) (z4 : Option V), σ = [some (.ref D), some (.ref p), some (.ref S), some (.ref L), z4] ∧ AI H c D L ns (t + 2 * i) as ans H' ∧ (∀ e ∈ ans, e.1 ∈ ws.take i ∧ e.2 = fs.contains e.1) ∧ (ans.map (·.1)).Nodup ∧ ans.length ≤ i) ?_ ?_ ?_ ?_
  · exact ⟨[], [], none, rfl, s0, (fun e he => nomatch he), .nil, Nat.le_refl _⟩
  · rintro i σ H' _ ⟨_, _, _, _, s, _⟩
    exact sqT (s.keep.tup dk _ _ ha0)
  · rintro i x σ H1 hx ⟨as, ans, z4, rfl, s, hm, nd, hlen⟩
    rw [List.getElem?_map] at hx
    cases ew : ws[i]? with
    | none => rw [ew] at hx; cases hx
    | some w =>
      rw [ew] at hx
      cases Option.some.inj hx
      have hi : i < ws.length := (List.getElem?_eq_some_iff.mp ew).1
      have tk : ws.take (i + 1) = ws.take i ++ [w] := take_snoc ew
      refine ⟨_, rfl, c, D, ns, _, 3, rfl, s.dk, by omega, by decide, by decide, fun y H2 y0 y1 d2 fr2 => ⟨_, _, rfl, rfl, _, rfl, ite2 (fun _ => ?_) (fun _ => ?_)⟩⟩
      · have s2 := s.draw d2 fr2
        refine ⟨_, rfl, .inl ⟨rfl, _, sqL s2.hl⟩, _, rfl, _, rfl, lenL s2.hl ⟨_, _, rfl, rfl, c, D, ns, _, _, rfl, s2.dk, by omega, by omega, small100 (by rw [List.length_map, s2.len]; omega), fun j H3 j0 j1 d3 fr3 => ?_⟩⟩
        have s3 := s2.draw d3 fr3
        rw [List.length_map] at j1
        have hS3 : H3 S = some (.lst (fs.map V.int)) := s3.keep _ _ hS nSD
        refine ⟨_, rfl, _, rfl, _, rfl, S, _, rfl, .inl (sqL hS3), rfl, flat_ints fs, ?_⟩
        refine ⟨by show (2 : Nat) ≤ sizeLine; decide, fun T nT => ?_⟩
        have s4 : AI H c D L ns _ as ans (upd H3 T (.tup [.int w, .bl (inV (.int w) (fs.map V.int))])) := s3.new nT
        refine ⟨L, _, j, _, rfl, rfl, s4.hl, ?_, j0, (by have := s2.len; omega), ?_⟩
        · rw [List.length_map, s4.len]
          exact Nat.lt_of_le_of_lt (show _ ≤ 1000 by omega) (by decide)
        · have s5 := s4.ins (T := T) (e := (w, fs.contains w)) (by rw [updS, inV_ints]) (k := j.toNat) (by omega)
          refine ⟨_, _, _, rfl, s5.le (by omega), fun e he => ?_, ?_, ?_⟩
          · rw [tk]
            rcases List.mem_cons.mp ((ins_perm ans j.toNat (w, fs.contains w)).mem_iff.mp he) with rfl | he
            · exact ⟨List.mem_append_right _ (List.mem_singleton.mpr rfl), rfl⟩
            · exact ⟨List.mem_append_left _ (hm e he).1, (hm e he).2⟩
          · have pm := (ins_perm ans j.toNat (w, fs.contains w)).map (·.1)
            refine pm.nodup_iff.mpr (List.nodup_cons.mpr ⟨fun hw2 => ?_, nd⟩)
            obtain ⟨e, he, ee⟩ := List.mem_map.mp hw2
            have := (hm e he).1
            rw [ee] at this
            obtain ⟨m, hm2, em⟩ := List.getElem_of_mem this
            rw [List.length_take] at hm2
            rw [List.getElem_take] at em
            have h1 := List.getElem?_eq_some_iff.mp ew
            have := (List.getElem_inj (rising_nodup g.inc)).mp (em.trans h1.2.symm)
            omega
          · rw [(ins_perm ans j.toNat (w, fs.contains w)).length_eq, List.length_cons]
            omega
      · refine ⟨as, ans, _, rfl, (s.draw d2 fr2).le (by omega), fun e he => ⟨?_, (hm e he).2⟩, nd, by omega⟩
        rw [tk]
        exact List.mem_append_left _ (hm e he).1
  · rintro σ H1 ⟨as, ans, z4, rfl, s, hm, nd, hlen⟩
    rw [List.length_map] at s hm hlen
    refine ⟨_, rfl, L, _, rfl, .inl ⟨sqL s.hl, fun q nq => ?_⟩⟩
    have s2 : AI H c D L ns _ as ans (upd H1 q (.tup (as.map V.ref))) := s.new nq
    exact k q ans _ s2.keep (s2.dk.le (by omega)) ⟨as, updS, s2.len, s2.pr⟩ (fun e he => ⟨List.mem_of_mem_take (hm e he).1, (hm e he).2⟩) nd hlen
end
end Fw

set_option Elab.async false
set_option linter.all false
set_option maxRecDepth 100000
set_option maxHeartbeats 4000000
namespace L2
open PySem PySem.Spec PyProof.Rows HT
def stepN (n k w : Nat) : Nat := (n - k - 1) / w + 1
def stepL {α : Type} (xs : List α) (k w : Nat) : List α := (List.range (stepN xs.length k w)).filterMap fun m => xs[k + m * w]?
theorem stepL_le {α : Type} (xs : List α) {k w : Nat} (hk : k < xs.length) : (stepL xs k w).length ≤ xs.length := by
  unfold stepL
  refine Nat.le_trans (List.length_filterMap_le _ _) ?_
  rw [List.length_range]
  unfold stepN
  have := Nat.div_le_self (xs.length - k - 1) w
  omega
theorem Vals.picks {xs : List V} {us : List Value} (h : Vals xs us) (f : Nat → Nat) : ∀ ms : List Nat, Vals (ms.filterMap fun m => xs[f m]?) (ms.filterMap fun m => us[f m]?)
  | [] => .nil
  | m :: r => by
    have ih := Vals.picks h f r
    rw [List.filterMap_cons, List.filterMap_cons]
    cases e : xs[f m]? with
    | none =>
      rw [h.none_of e]
      exact ih
    | some x =>
      obtain ⟨u, eu, ru⟩ := h.get e
      rw [eu]
      exact .cons ru ih
theorem places_step {k n w : Nat} (hk : k < n) (hw : 0 < w) : Builtin.Slice.slicePlaces (k : Int) (n : Int) (w : Int) = stepN n k w := by
  unfold Builtin.Slice.slicePlaces stepN
  rw [if_pos (by omega), if_pos (by omega)]
  have e : ((n : Int) - (k : Int) - 1) = ((n - k - 1 : Nat) : Int) := by omega
  rw [e]
  have : ((n - k - 1 : Nat) : Int) / (w : Int) = (((n - k - 1) / w : Nat) : Int) := rfl
  rw [this]
  generalize (n - k - 1) / w = q
  omega
section
variable {prog : Program} {w : World} {A : Around} {E : Value → Shared → Prop} {s : Shared}
theorem applied_step {sl : Addr} {k st n : Nat} {vl vs : Value} {Q : Int × Int × Nat → Shared → Prop} (hs : s.heap.IsSliceOf sl vl .none vs) (pl : IsPart vl (some (k : Int))) (ps : IsPart vs (some (st : Int))) (hk : k < n) (hw : 0 < st)
    (h : Q ((k : Int), (st : Int), stepN n k st) s) : wpAny (model prog w) A (Builtin.Slice.sliceApplied (.ref sl) (pure (n : Int))) Q E s := by
  obtain ⟨os, hos, hcs, hds⟩ := id hs
  unfold Builtin.Slice.sliceApplied Builtin.Slice.sliceFields
  refine wpAny_bind (wpAny_bind (wpAny_field hos hds (x := vl) rfl (wpAny_bind (wpAny_field hos hds (x := .none) rfl (wpAny_bind (wpAny_field hos hds (x := vs) rfl (wpAny_pure ?_)))))))
  refine wpAny_bind (slicePart_ ps ?_)
  show wpAny _ _ (if ((st : Int) == 0) = true then _ else _) _ _ s
  rw [if_neg (fun z => by have := eq_of_beq z; omega)]
  refine wpAny_bind (slicePart_ pl (wpAny_bind (slicePart_none (wpAny_bind (wpAny_pure ?_)))))
  show wpAny _ _ (match Builtin.Slice.sliceAdjust (some (k : Int)) none (st : Int) (n : Int) with | (lo, hi) => pure (lo, (st : Int), Builtin.Slice.slicePlaces lo hi (st : Int))) _ _ s
  have e : Builtin.Slice.sliceAdjust (some (k : Int)) none (st : Int) (n : Int) = ((k : Int), (n : Int)) := by
    have h1 : ¬ ((st : Int) < 0) := by omega
    have h2 : ¬ ((k : Int) < 0) := by omega
    unfold Builtin.Slice.sliceAdjust
    simp only [h1, h2, if_false]
    refine Prod.ext ?_ rfl
    show min (k : Int) (n : Int) = (k : Int)
    omega
  rw [e]
  show wpAny _ _ (pure ((k : Int), (st : Int), Builtin.Slice.slicePlaces (k : Int) (n : Int) (st : Int))) _ _ s
  rw [places_step hk hw]
  exact wpAny_pure h
theorem getItem_tuple_step {t sl : Addr} {items : Array Value} {vl vs : Value} {k st : Nat} {Q : Value → Shared → Prop} (ht : IsTup s.heap t items) (hs : s.heap.IsSliceOf sl vl .none vs) (pl : IsPart vl (some (k : Int))) (ps : IsPart vs (some (st : Int)))
    (hk : k < items.size) (hw : 0 < st) (h0 : k = 0 ∧ st = 1 → Q (.ref t) s)
    (h1 : ¬ (k = 0 ∧ st = 1) → Q (.ref s.heap.objs.size) { s with heap := s.heap.push { cls := .type "tuple", data := .seq (stepL items.toList k st).toArray } })
    (hsz : items.size ≤ sizeLine) : wpAny (model prog w) A (getItem (.ref t) (.ref sl)) Q E s := by
  have hpk : sizeOk (.seq (stepL items.toList k st).toArray) := by
    show (stepL items.toList k st).toArray.size ≤ sizeLine
    rw [List.size_toArray]
    exact Nat.le_trans (stepL_le _ (by rw [Array.length_toList]; exact hk)) (by rw [Array.length_toList]; exact hsz)
  obtain ⟨os, hos, hcs, hds⟩ := id hs
  have hTs : s.TypeIs (.ref sl) "slice" := ⟨os, hos, hcs⟩
  unfold getItem
  try with_reducible refine wpAny_holding ?_
  first | refine wpAny_bind (wpAny_pure ?_) | skip
  refine wpAny_bind (wpAny_sequenceKey ht.typeIs (by decide) ?_)
  refine wpAny_bind (wpAny_callSpecial?_slot (name := Str.ofString "__getitem__") ht.typeIs PyProof.Rows.slot_tuple_getitem
    (wpAny_call_entry PyProof.Rows.slot_tuple_getitem ht.typeIs entry_tuple_getitem ?_ (args_tuple_getitem _ _)))
  show wpAny _ _ (Builtin.Tuple.tupleItemsOf (.ref t) >>= _) _ _ s
  refine wpAny_bind (tupleItemsOf_ ht ?_)
  refine wpAny_bind (wpAny_typeOf hTs ?_)
  rw [if_pos (by decide)]
  refine wpAny_bind (applied_step hs pl ps hk hw ?_)
  show wpAny _ _ (if ((k : Int) == 0 && (st : Int) == 1 && stepN items.size k st == items.size) = true then _ else _) _ _ s
  by_cases hz : k = 0 ∧ st = 1
  · have hyes : ((k : Int) == 0 && (st : Int) == 1 && stepN items.size k st == items.size) = true := by
      rw [hz.1, hz.2] at *
      have : stepN items.size 0 1 = items.size := by unfold stepN; rw [Nat.div_one]; omega
      rw [this]
      simp
    rw [if_pos hyes]
    refine wpAny_bind ?_
    show wpAny _ _ (typeOf (.ref t) >>= fun T => pure (T == .type "tuple")) _ _ s
    refine wpAny_bind (wpAny_typeOf ht.typeIs (wpAny_pure ?_))
    first
      | rw [if_pos (by decide)]
      | simp only [beq_self_eq_true, if_true]
    first
      | exact wpAny_bind (wpAny_rule (wpAny_pure ⟨_, rfl, wpAny_pure (h0 hz)⟩))
      | exact wpAny_bind (wpAny_rule (wpAny_bind (wpAny_pure (wpAny_pure ⟨_, rfl, wpAny_pure (h0 hz)⟩))))
  · have hno : ¬ (((k : Int) == 0 && (st : Int) == 1 && stepN items.size k st == items.size) = true) := fun q => by
      rw [Bool.and_eq_true, Bool.and_eq_true] at q
      have q1 : (k : Int) = 0 := eq_of_beq q.1.1
      have q2 : (st : Int) = 1 := eq_of_beq q.1.2
      exact hz ⟨by omega, by omega⟩
    rw [if_neg hno]
    have ep : ((List.range (stepN items.size k st)).filterMap fun (m : Nat) => items[((k : Int) + (m : Int) * (st : Int)).toNat]?).toArray = (stepL items.toList k st).toArray := by
      unfold stepL
      rw [Array.length_toList]
      refine congrArg (fun f => (List.filterMap f (List.range (stepN items.size k st))).toArray) (funext fun m => ?_)
      have : ((k : Int) + (m : Int) * (st : Int)).toNat = k + m * st := by
        have e : (m : Int) * (st : Int) = ((m * st : Nat) : Int) := rfl
        rw [e]
        omega
      rw [this, Array.getElem?_toList]
    rw [ep]
    have h := h1 hz
    first
      | exact wpAny_bind (m := Builtin.Tuple.tupleExact _) (wpAny_newObj_type (wpAny_pure ⟨_, rfl, wpAny_pure h⟩) hpk)
      | exact wpAny_bind (m := Builtin.Tuple.tupleExact _) (wpAny_newObj_type (wpAny_bind (wpAny_pure (wpAny_pure ⟨_, rfl, wpAny_pure h⟩))) hpk)
      | exact wpAny_bind (wpAny_bind (m := Builtin.Tuple.tupleExact _) (wpAny_newObj_type (wpAny_pure (wpAny_pure ⟨_, rfl, wpAny_pure h⟩)) hpk))
      | exact wpAny_bind (wpAny_bind (m := Builtin.Tuple.tupleExact _) (wpAny_newObj_type (wpAny_pure ⟨_, rfl, wpAny_pure h⟩) hpk))
end
section
variable {X : Cx}
/-- t[k::st], k within t -/
def tStepT (K : PySem.W.Frag) (te : TE) (tl ts : TO) : TE := fun σ H Q => te σ H fun x H1 => tl σ H1 fun l H2 => ts σ H2 fun z H3 => ∃ a xs k st, x = .ref a ∧ l = some ((k : Nat) : Int) ∧ z = some ((st : Nat) : Int) ∧ SqT K H3 a xs ∧ k < xs.length ∧ 0 < st ∧
  (k = 0 ∧ st = 1 → Q (.ref a) H3) ∧ (¬ (k = 0 ∧ st = 1) → ∀ p, H3 p = none → Q (.ref p) (upd H3 p (.tup (stepL xs k st))))
theorem pe_stepT {e ez : Expr} {lo : Option Expr} {te : TE} {tl ts : TO} {p2 pos : Pos} (he : PE X e te) (hl : PO X lo tl) (hs : PO X (some ez) ts) : PE X (.Subscript e (.Slice lo none (some ez) p2) pos) (tStepT X.K te tl ts) := by
  refine ⟨fun pins s σ H Q I h => ?_⟩
  refine Subscript_ (thn (he.run pins s σ H _ I h) fun v s1 ⟨x, H1, I1, r1, q1⟩ => ?_)
  refine wpAny_Slice (thn (hl.run pins s1 σ H1 _ I1 q1) fun vl s2 ⟨l, H2, I2, pl, q2⟩ => ?_)
  refine thn (po_none.run pins s2 σ H2 (fun o H3 => o = none ∧ H3 = H2) I2 ⟨rfl, rfl⟩) fun vu s3 ⟨u, H3, I3, pu, eu, e3⟩ => ?_
  subst eu e3
  cases pu
  refine thn (hs.run pins s3 σ H3 _ I3 q2) fun vs s4 ⟨z, H4, I4, ps, q4⟩ => ?_
  obtain ⟨a, xs, k, st, rfl, rfl, rfl, hx, hk, hw, q0, qn⟩ := q4
  cases r1
  have I5 : Inv X pins σ H4 { s4 with heap := s4.heap.push { cls := .type "slice", data := .fields #[vl, .none, vs] } } := I4.kept (t' := s4.toks) fun b ob q => Heap.get?_push_of_some _ q
  obtain ⟨its, r, ht, hz⟩ := I5.tuple hx
  have hlen := r.length
  show wpAny (model X.prog X.w) X.A (subscriptTail e (.Slice lo none (some ez) p2) (.ref a) (.ref s4.heap.objs.size)) (EP X pins σ Q) X.xe { s4 with heap := s4.heap.push { cls := .type "slice", data := .fields #[vl, .none, vs] } }
  refine tail_any (ops := [.ref a, .ref s4.heap.objs.size]) ht.typeIs (PyProof.Rows.slot_tuple_getitem.lookup) ?_ (by with_unfolding_all rfl)
  refine getItem_tuple_step ht (Heap.IsSliceOf.new _ vl .none vs) pl ps (by rw [List.size_toArray]; omega) hw (fun e => ⟨.ref a, H4, I5, rfl, q0 e⟩) (fun e => ?_) (by rw [List.size_toArray]; omega)
  refine ⟨.ref _, _, I5.laid (t' := s4.toks) (o := .tup (stepL xs k st)) (fun b ob q => Heap.get?_push_of_some _ q) (Nat.le_refl _) ?_, rfl, qn e _ (I5.hok.fresh (Nat.le_refl _))⟩
  refine ⟨Nat.le_trans (stepL_le xs hk) hz, _, ?_, IsTup.new _ _⟩
  show Vals (stepL xs k st) (stepL its k st)
  unfold stepL
  rw [← hlen]
  exact r.picks (fun m => k + m * st) _
end
end L2

set_option Elab.async false
set_option linter.all false
set_option maxRecDepth 100000
set_option maxHeartbeats 4000000
namespace Fw
open PySem L2 RZ RT
/-! ### the chains of a long shape -/
def val (a g : Int) (i : Nat) : Int := a + g * (i : Int)
theorem val_lt {a g : Int} (hg : 1 ≤ g) {i j : Nat} (h : i < j) : val a g i < val a g j := mono_g (by omega) h
theorem val_inj {a g : Int} (hg : 1 ≤ g) {i j : Nat} (h : val a g i = val a g j) : i = j := by
  rcases Nat.lt_trichotomy i j with z | z | z
  · have := val_lt (a := a) hg z; omega
  · exact z
  · have := val_lt (a := a) hg z; omega
theorem dn_long1 {a g : Int} {w n : Nat} (hg : 1 ≤ g) {x y : Int} (h : Dn (lsL a g w n) x y) : ∀ i : Nat, x = val a g i → ∃ j, y = val a g j ∧ j ≤ i ∧ i % w = j % w := by
  induction h with
  | refl v => exact fun i e => ⟨i, e, Nat.le_refl _, rfl⟩
  | step hl r ih =>
    intro i e
    obtain ⟨k, hk, ek⟩ := List.mem_map.mp hl
    have e1 := (Prod.mk.inj ek).1
    have e2 := (Prod.mk.inj ek).2
    have e3 : a + g * ((w : Int) + (k : Int)) = val a g (w + k) := by unfold val; rw [show ((w + k : Nat) : Int) = (w : Int) + (k : Int) by omega]
    have ei : i = w + k := val_inj hg (e.symm.trans (e1.symm.trans e3))
    obtain ⟨j, h1, h2, h3⟩ := ih k e2.symm
    refine ⟨j, h1, by omega, ?_⟩
    rw [ei, Nat.add_mod_left]
    exact h3
theorem dn_long2 {a g : Int} {w n : Nat} (hw : 0 < w) (j : Nat) : ∀ i : Nat, i < n → j ≤ i → i % w = j % w → Dn (lsL a g w n) (val a g i) (val a g j) := by
  intro i
  induction i using Nat.strongRecOn with
  | ind i ih =>
    intro hi hj hm
    by_cases e : i = j
    · subst e
      exact .refl _
    · have h0 := Nat.sub_mod_eq_zero_of_mod_eq hm
      have h1 : w ≤ i - j := Nat.le_of_dvd (by omega) (Nat.dvd_of_mod_eq_zero h0)
      have e4 : i - w + w = i := by omega
      have h2 : (i - w) % w = j % w := by rw [← hm, ← e4, Nat.add_mod_right, e4]
      refine .step (p := val a g (i - w)) ?_ (ih (i - w) (by omega) (by omega) (by omega) h2)
      refine List.mem_map.mpr ⟨i - w, List.mem_range.mpr (by omega), ?_⟩
      show (a + g * ((w : Int) + ((i - w : Nat) : Int)), a + g * ((i - w : Nat) : Int)) = (val a g i, val a g (i - w))
      unfold val
      rw [show (w : Int) + ((i - w : Nat) : Int) = (i : Int) by omega]
structure An (w n k : Nat) (ai : List (Nat × Bool)) : Prop where
  nd : (ai.map (·.1)).Nodup
  lt : ∀ p ∈ ai, p.1 < n ∧ p.1 % w < k
  co : ∀ i j, (i, true) ∈ ai → (j, false) ∈ ai → i % w = j % w → i < j
def Lf (a g : Int) (w n k : Nat) (left : List Int) (ai : List (Nat × Bool)) : Prop := ∀ v, v ∈ left ↔ ∃ i, i < n ∧ i % w < k ∧ v = val a g i ∧ (∀ j, (j, true) ∈ ai → j % w = i % w → j < i) ∧ (∀ j, (j, false) ∈ ai → j % w = i % w → i < j)
def toA (a g : Int) (ai : List (Nat × Bool)) : List (Int × Bool) := ai.map fun p => (val a g p.1, p.2)
theorem mem_toA {a g : Int} (hg : 1 ≤ g) {ai : List (Nat × Bool)} {i : Nat} {b : Bool} : (val a g i, b) ∈ toA a g ai ↔ (i, b) ∈ ai := by
  unfold toA
  rw [List.mem_map]
  refine ⟨fun ⟨p, hp, e⟩ => ?_, fun h => ⟨_, h, rfl⟩⟩
  obtain ⟨x, y⟩ := p
  have e1 := val_inj hg (Prod.mk.inj e).1
  have e2 : y = b := (Prod.mk.inj e).2
  rw [← e1, ← e2]
  exact hp
theorem toA_of {a g : Int} {ai : List (Nat × Bool)} {v : Int} {b : Bool} (h : (v, b) ∈ toA a g ai) : ∃ i, v = val a g i ∧ (i, b) ∈ ai := by
  obtain ⟨⟨x, y⟩, hp, e⟩ := List.mem_map.mp h
  have e2 : y = b := (Prod.mk.inj e).2
  exact ⟨x, (Prod.mk.inj e).1.symm, e2 ▸ hp⟩
theorem toA_nodup {a g : Int} (hg : 1 ≤ g) {ai : List (Nat × Bool)} (h : (ai.map (·.1)).Nodup) : ((toA a g ai).map (·.1)).Nodup := by
  have e : (toA a g ai).map (·.1) = (ai.map (·.1)).map (val a g) := by unfold toA; rw [List.map_map, List.map_map]; rfl
  rw [e]
  exact List.pairwise_map.mpr (h.imp fun {x y} z q => z (val_inj hg q))
section
variable {a g : Int} {w n k : Nat} {ai : List (Nat × Bool)} {left : List Int}
theorem An.nc (hg : 1 ≤ g) (h : An w n k ai) : NotContrary (lsL a g w n) (toA a g ai) := fun v u h1 h2 d => by
  obtain ⟨i, rfl, hi⟩ := toA_of h1
  obtain ⟨j, rfl, hj⟩ := toA_of h2
  obtain ⟨j', e, h3, h4⟩ := dn_long1 hg d i rfl
  have e' := val_inj hg e
  subst e'
  have := h.co _ _ hi hj h4
  omega
theorem left_eq (ha : 0 ≤ a) (hg : 1 ≤ g) (hw : 0 < w) (h : An w n (min w n) ai) (l : Lf a g w n (min w n) left ai) {v : Int} (hv : v ∈ vsL a g n) :
    left.contains v = (!hasB (lsL a g w n) (toA a g ai) v && !lacB (lsL a g w n) (toA a g ai) v) := by
  have gd : Good (vsL a g n) (lsL a g w n) := good_long ha (by omega) hw
  obtain ⟨i, hi, rfl⟩ := vsL_mem hv
  change left.contains (val a g i) = (!hasB (lsL a g w n) (toA a g ai) (val a g i) && !lacB (lsL a g w n) (toA a g ai) (val a g i))
  have hb : hasB (lsL a g w n) (toA a g ai) (val a g i) = true ↔ ∃ j, (j, true) ∈ ai ∧ i ≤ j ∧ j % w = i % w := by
    rw [hasB_iff gd]
    refine ⟨fun ⟨s, h1, h2⟩ => ?_, fun ⟨j, h1, h2, h3⟩ => ⟨_, (mem_toA hg).mpr h1, dn_long2 hw i j (h.lt _ h1).1 h2 h3⟩⟩
    obtain ⟨j, rfl, hj⟩ := toA_of h1
    obtain ⟨j', e, h3, h4⟩ := dn_long1 hg h2 j rfl
    have e' := val_inj hg e
    subst e'
    exact ⟨j, hj, h3, h4⟩
  have hl : lacB (lsL a g w n) (toA a g ai) (val a g i) = true ↔ ∃ j, (j, false) ∈ ai ∧ j ≤ i ∧ i % w = j % w := by
    rw [lacB_iff gd]
    refine ⟨fun ⟨s, h1, h2⟩ => ?_, fun ⟨j, h1, h2, h3⟩ => ⟨_, (mem_toA hg).mpr h1, dn_long2 hw j i hi h2 h3⟩⟩
    obtain ⟨j, rfl, hj⟩ := toA_of h1
    obtain ⟨j', e, h3, h4⟩ := dn_long1 hg h2 i rfl
    have e' := val_inj hg e
    subst e'
    exact ⟨j, hj, h3, h4⟩
  rw [Bool.eq_iff_iff, List.contains_iff_mem, l, Bool.and_eq_true, Bool.not_eq_true', Bool.not_eq_true', ← Bool.not_eq_true, ← Bool.not_eq_true, hb, hl]
  constructor
  · rintro ⟨i', h1, h2, e, h3, h4⟩
    have e' := val_inj hg e
    subst e'
    exact ⟨fun ⟨j, q1, q2, q3⟩ => by have := h3 j q1 q3; omega, fun ⟨j, q1, q2, q3⟩ => by have := h4 j q1 q3.symm; omega⟩
  · rintro ⟨h1, h2⟩
    refine ⟨i, hi, ?_, rfl, fun j q1 q2 => ?_, fun j q1 q2 => ?_⟩
    · have z1 := Nat.mod_lt i hw
      have z2 := Nat.mod_le i w
      omega
    · exact Nat.lt_of_not_le fun z => h1 ⟨j, q1, z, q2⟩
    · exact Nat.lt_of_not_le fun z => h2 ⟨j, q1, z, q2.symm⟩
end
/-! ### one chain's answers -/
structure Inn (w n r e c : Nat) (ai : List (Nat × Bool)) (low high : Int) : Prop where
  nd : (ai.map (·.1)).Nodup
  lt : ∀ p ∈ ai, p.1 < n ∧ p.1 % w ≤ r
  co : ∀ i j, (i, true) ∈ ai → (j, false) ∈ ai → i % w = j % w → i < j
  own : ∀ p ∈ ai, p.1 % w = r → p.2 = decide (p.1 / w < e)
  lo1 : ∀ i, (i, true) ∈ ai → i % w = r → ((i / w : Nat) : Int) ≤ low
  lo2 : low = -1 ∨ ∃ i, (i, true) ∈ ai ∧ i % w = r ∧ ((i / w : Nat) : Int) = low
  hi1 : ∀ i, (i, false) ∈ ai → i % w = r → high ≤ ((i / w : Nat) : Int)
  hi2 : high = (c : Int) ∨ ∃ i, (i, false) ∈ ai ∧ i % w = r ∧ ((i / w : Nat) : Int) = high
  el : low < (e : Int)
  eh : (e : Int) ≤ high
  hc : high ≤ (c : Int)
  lb : -1 ≤ low
section
variable {a g : Int} {w n r e c : Nat} {ai ai' : List (Nat × Bool)} {left : List Int} {low high : Int}
theorem An.inn (h : An w n r ai) (hec : e ≤ c) : Inn w n r e c ai (-1) (c : Int) where
  nd := h.nd
  lt := fun p hp => ⟨(h.lt p hp).1, Nat.le_of_lt (h.lt p hp).2⟩
  co := h.co
  own := fun p hp z => by have := (h.lt p hp).2; omega
  lo1 := fun i hp z => by have : i % w < r := (h.lt _ hp).2; omega
  lo2 := .inl rfl
  hi1 := fun i hp z => by have : i % w < r := (h.lt _ hp).2; omega
  hi2 := .inl rfl
  el := by omega
  eh := by omega
  hc := by omega
  lb := by omega
theorem Inn.an (h : Inn w n r e c ai low high) : An w n (r + 1) ai := ⟨h.nd, fun p hp => ⟨(h.lt p hp).1, by have := (h.lt p hp).2; omega⟩, h.co⟩
theorem pos_mod {j : Nat} (hr : r < w) : (r + j * w) % w = r := by rw [Nat.add_mul_mod_self_right, Nat.mod_eq_of_lt hr]
theorem pos_div {j : Nat} (hr : r < w) : (r + j * w) / w = j := by rw [Nat.add_mul_div_right _ _ (by omega), Nat.div_eq_of_lt hr, Nat.zero_add]
theorem pos_of {i : Nat} (h : i % w = r) : i = r + i / w * w := by
  have := Nat.mod_add_div i w
  rw [Nat.mul_comm] at this
  omega
theorem same_lt {i j : Nat} (hi : i % w = r) (hj : j % w = r) (h : i / w < j / w) : i < j := by
  rw [pos_of hi, pos_of hj]
  have : i / w * w + w ≤ j / w * w := by
    rw [← Nat.succ_mul]
    exact Nat.mul_le_mul_right _ h
  have h0 : 0 < w := by
    rcases Nat.eq_zero_or_pos w with z | z
    · rw [z, Nat.div_zero, Nat.div_zero] at h; omega
    · exact z
  omega
theorem Inn.step (h : Inn w n r e c ai low high) (hr : r < w) {j : Nat} (hj : j < c) (hn : r + j * w < n) (mem : ∀ p, p ∈ ai' ↔ p ∈ ai ∨ p = (r + j * w, decide (j < e))) (nd : (ai'.map (·.1)).Nodup) :
    Inn w n r e c ai' (if j < e then max low (j : Int) else low) (if j < e then high else min high (j : Int)) := by
  have pm := pos_mod (j := j) hr
  have pd := pos_div (j := j) hr
  have own : ∀ p ∈ ai', p.1 % w = r → p.2 = decide (p.1 / w < e) := fun p hp z => by
    rcases (mem p).mp hp with q | rfl
    · exact h.own p q z
    · show decide (j < e) = decide ((r + j * w) / w < e)
      rw [pd]
  have lt : ∀ p ∈ ai', p.1 < n ∧ p.1 % w ≤ r := fun p hp => by
    rcases (mem p).mp hp with q | rfl
    · exact h.lt p q
    · exact ⟨hn, Nat.le_of_eq pm⟩
  have el := h.el
  have eh := h.eh
  have hc := h.hc
  have lb := h.lb
  refine ⟨nd, lt, fun i i' h1 h2 z => ?_, own, fun i hi z => ?_, ?_, fun i hi z => ?_, ?_, ?_, ?_, ?_, ?_⟩
  · by_cases hz : i % w = r
    · have o1 : true = decide (i / w < e) := own _ h1 hz
      have o2 : false = decide (i' / w < e) := own _ h2 (z ▸ hz)
      have o1' := of_decide_eq_true o1.symm
      have o2' := of_decide_eq_false o2.symm
      exact same_lt hz (z ▸ hz) (by omega)
    · rcases (mem _).mp h1 with q1 | q1
      · rcases (mem _).mp h2 with q2 | q2
        · exact h.co _ _ q1 q2 z
        · rw [(Prod.mk.inj q2).1, pm] at z
          exact absurd z hz
      · rw [(Prod.mk.inj q1).1, pm] at hz
        exact absurd rfl hz
  · rcases (mem _).mp hi with q | q
    · have := h.lo1 i q z
      split <;> omega
    · rw [(Prod.mk.inj q).1, pd, if_pos (of_decide_eq_true (Prod.mk.inj q).2.symm)]
      omega
  · by_cases hje : j < e
    · rw [if_pos hje]
      by_cases hm : low ≤ (j : Int)
      · exact .inr ⟨r + j * w, (mem _).mpr (.inr (by rw [decide_eq_true hje])), pm, by rw [pd]; omega⟩
      · rcases h.lo2 with q | ⟨i, q1, q2, q3⟩
        · omega
        · exact .inr ⟨i, (mem _).mpr (.inl q1), q2, by omega⟩
    · rw [if_neg hje]
      rcases h.lo2 with q | ⟨i, q1, q2, q3⟩
      · exact .inl q
      · exact .inr ⟨i, (mem _).mpr (.inl q1), q2, q3⟩
  · rcases (mem _).mp hi with q | q
    · have := h.hi1 i q z
      split <;> omega
    · rw [(Prod.mk.inj q).1, pd, if_neg (of_decide_eq_false (Prod.mk.inj q).2.symm)]
      omega
  · by_cases hje : j < e
    · rw [if_pos hje]
      rcases h.hi2 with q | ⟨i, q1, q2, q3⟩
      · exact .inl q
      · exact .inr ⟨i, (mem _).mpr (.inl q1), q2, q3⟩
    · rw [if_neg hje]
      by_cases hm : (j : Int) ≤ high
      · exact .inr ⟨r + j * w, (mem _).mpr (.inr (by rw [decide_eq_false hje])), pm, by rw [pd]; omega⟩
      · rcases h.hi2 with q | ⟨i, q1, q2, q3⟩
        · omega
        · exact .inr ⟨i, (mem _).mpr (.inl q1), q2, by omega⟩
  · split <;> omega
  · split <;> omega
  · split <;> omega
  · split <;> omega
theorem Lf.step (l : Lf a g w n r left ai) (hr : r < w) {j : Nat} {b : Bool} (mem : ∀ p, p ∈ ai' ↔ p ∈ ai ∨ p = (r + j * w, b)) : Lf a g w n r left ai' := fun v => by
  rw [l]
  have key : ∀ i, i % w < r → ∀ j' b', (j', b') ∈ ai' → j' % w = i % w → (j', b') ∈ ai := fun i hi j' b' q z => by
    rcases (mem _).mp q with q | q
    · exact q
    · rw [(Prod.mk.inj q).1, pos_mod hr] at z
      omega
  constructor
  · rintro ⟨i, h1, h2, h3, h4, h5⟩
    exact ⟨i, h1, h2, h3, fun j' q z => h4 j' (key i h2 _ _ q z) z, fun j' q z => h5 j' (key i h2 _ _ q z) z⟩
  · rintro ⟨i, h1, h2, h3, h4, h5⟩
    exact ⟨i, h1, h2, h3, fun j' q z => h4 j' ((mem _).mpr (.inl q)) z, fun j' q z => h5 j' ((mem _).mpr (.inl q)) z⟩
theorem Lf.next (l : Lf a g w n r left ai) (h : Inn w n r e c ai low high) (hr : r < w) (hcn : ∀ j : Nat, j < c ↔ r + j * w < n) {cut : List Int} (hcut : ∀ v, v ∈ cut ↔ ∃ j : Nat, low < (j : Int) ∧ (j : Int) < high ∧ v = val a g (r + j * w)) :
    Lf a g w n (r + 1) (left ++ cut) ai := fun v => by
  rw [List.mem_append, l, hcut]
  have hc := h.hc
  have el := h.el
  have eh := h.eh
  constructor
  · rintro (⟨i, h1, h2, h3⟩ | ⟨j, h1, h2, h3⟩)
    · exact ⟨i, h1, by omega, h3⟩
    · refine ⟨r + j * w, (hcn j).mp (by omega), by rw [pos_mod hr]; omega, h3, fun i q z => ?_, fun i q z => ?_⟩
      · rw [pos_mod hr] at z
        have := h.lo1 i q z
        refine same_lt z (pos_mod (j := j) hr) ?_
        rw [pos_div hr]
        omega
      · rw [pos_mod hr] at z
        have := h.hi1 i q z
        refine same_lt (pos_mod (j := j) hr) z ?_
        rw [pos_div hr]
        omega
  · rintro ⟨i, h1, h2, h3, h4, h5⟩
    by_cases hz : i % w = r
    · have ei := pos_of hz
      have ip : (0 : Int) ≤ ((i / w : Nat) : Int) := Int.natCast_nonneg _
      refine .inr ⟨i / w, ?_, ?_, by rw [← ei]; exact h3⟩
      · rcases h.lo2 with q | ⟨j, q1, q2, q3⟩
        · rw [q]
          exact Int.lt_of_lt_of_le (by decide) ip
        · have z := h4 j q1 (q2.trans hz.symm)
          have : ¬ i / w ≤ j / w := fun z2 => by
            rcases Nat.lt_or_eq_of_le z2 with z3 | z3
            · have := same_lt hz q2 z3; omega
            · rw [pos_of q2, ← z3, ← ei] at z; omega
          omega
      · rcases h.hi2 with q | ⟨j, q1, q2, q3⟩
        · have := (hcn (i / w)).mpr (by rw [← ei]; exact h1)
          omega
        · have z := h5 j q1 (q2.trans hz.symm)
          have : ¬ j / w ≤ i / w := fun z2 => by
            rcases Nat.lt_or_eq_of_le z2 with z3 | z3
            · have := same_lt q2 hz z3; omega
            · rw [pos_of q2, z3, ← ei] at z; omega
          omega
    · exact .inl ⟨i, h1, by omega, h3, h4, h5⟩
end
/-! ### a chain as a list -/
def chL (a g : Int) (w n r : Nat) : List Int := (List.range (stepN n r w)).map fun m => val a g (r + m * w)
theorem chL_length (a g : Int) (w n r : Nat) : (chL a g w n r).length = stepN n r w := by unfold chL; rw [List.length_map, List.length_range]
theorem stepN_iff {n r w : Nat} (hr : r < n) (hw : 0 < w) (j : Nat) : j < stepN n r w ↔ r + j * w < n := by
  unfold stepN
  rw [Nat.lt_succ_iff, Nat.le_div_iff_mul_le hw]
  omega
theorem fm_some {α β : Type} (f : α → Option β) (h : α → β) : ∀ l : List α, (∀ x ∈ l, f x = some (h x)) → l.filterMap f = l.map h
  | [], _ => rfl
  | x :: r, z => by
    rw [List.filterMap_cons, z x (List.mem_cons_self ..), List.map_cons, fm_some f h r fun y hy => z y (List.mem_cons_of_mem _ hy)]
theorem stepL_long {a g : Int} {w n r : Nat} (hr : r < n) (hw : 0 < w) : stepL ((vsL a g n).map V.int) r w = (chL a g w n r).map V.int := by
  unfold stepL chL
  rw [List.length_map, vsL_length, List.map_map]
  refine fm_some _ _ _ fun m hm => ?_
  have h1 := (stepN_iff hr hw m).mp (List.mem_range.mp hm)
  rw [List.getElem?_map, vsL_get h1]
  rfl
theorem chL_get {a g : Int} {w n r j : Nat} (h : j < stepN n r w) : (chL a g w n r)[j]? = some (val a g (r + j * w)) := by
  unfold chL
  rw [List.getElem?_map, List.getElem?_range h]
  rfl
theorem chL_sub {a g : Int} {w n r : Nat} (hr : r < n) (hw : 0 < w) {v : Int} (h : v ∈ chL a g w n r) : v ∈ vsL a g n := by
  obtain ⟨m, hm, rfl⟩ := List.mem_map.mp h
  exact vsL_mem_of ((stepN_iff hr hw m).mp (List.mem_range.mp hm))
theorem mem_cut {a g : Int} {w n r : Nat} {l h : Nat} (hl : l ≤ h) (hh : h ≤ stepN n r w) (v : Int) : v ∈ ((chL a g w n r).drop l).take (h - l) ↔ ∃ j : Nat, ((l : Int) - 1) < (j : Int) ∧ (j : Int) < (h : Int) ∧ v = val a g (r + j * w) := by
  rw [List.mem_iff_getElem?]
  constructor
  · rintro ⟨m, hm⟩
    rw [List.getElem?_take] at hm
    split at hm
    · rename_i hlt
      rw [List.getElem?_drop, chL_get (by omega)] at hm
      exact ⟨l + m, by omega, by omega, (Option.some.inj hm).symm⟩
    · cases hm
  · rintro ⟨j, h1, h2, rfl⟩
    refine ⟨j - l, ?_⟩
    rw [List.getElem?_take, if_pos (by omega), List.getElem?_drop, show l + (j - l) = j by omega, chL_get (by omega)]
/-! ### the middles -/
def midOf (f : Int → Bool) (c : List Int) : List Int := if (c.filter f).length = 0 then [] else ((c.filter f)[(c.filter f).length / 2]?).toList
def mids (f : Int → Bool) (cs : List (List Int)) : List Int := (cs.map (midOf f)).flatten
theorem midOf_le (f : Int → Bool) (c : List Int) : (midOf f c).length ≤ 1 := by
  unfold midOf
  split
  · exact Nat.zero_le _
  · cases (c.filter f)[(c.filter f).length / 2]? with
    | none => exact Nat.zero_le _
    | some x => exact Nat.le_refl 1
theorem mids_snoc (f : Int → Bool) (cs : List (List Int)) (c : List Int) : mids f (cs ++ [c]) = mids f cs ++ midOf f c := by
  unfold mids
  rw [List.map_append, List.flatten_append]
  simp
theorem mids_congr {f h : Int → Bool} {cs : List (List Int)} (e : ∀ c ∈ cs, ∀ v ∈ c, f v = h v) : mids f cs = mids h cs := by
  unfold mids
  congr 1
  refine List.map_congr_left fun c hc => ?_
  unfold midOf
  rw [List.filter_congr (e c hc)]
theorem mids_le (f : Int → Bool) (cs : List (List Int)) : (mids f cs).length ≤ cs.length := by
  induction cs with
  | nil => exact Nat.le_refl _
  | cons c r ih =>
    have : mids f (c :: r) = midOf f c ++ mids f r := by unfold mids; rw [List.map_cons, List.flatten_cons]
    rw [this, List.length_append, List.length_cons]
    have := midOf_le f c
    omega
end Fw

set_option Elab.async false
set_option linter.all false
set_option maxRecDepth 100000
set_option maxHeartbeats 4000000
namespace Fw
open PySem PySem.Spec PyProof.Rows L2
theorem meets_ext (l b : Addr) (xs ys : Array Value) (n m : Nat) (od : Option Addr) (sl : Array (Option Value)) (short : ¬(!xs.isEmpty && Builtin.List.listTooLong (xs.size + ys.size)) = true) (z1 : xs.size ≤ sizeLine) (z2 : xs.size + ys.size ≤ sizeLine + 1) :
    Meets (Builtin.«list.extend» ⟨[.ref l, .ref b], []⟩) (fun _ R s => s.heap.get? l = some ⟨.type "list", none, .seq xs n, #[]⟩ ∧ s.heap.get? b = some ⟨.type "tuple", od, .seq ys m, sl⟩ ∧ R (.ok (.ret Value.none)) { s with heap := s.heap.update l (Obj.mapSeq fun x => x ++ ys), toks := s.toks }) :=
  .of_wp fun prog w A R s h => by
    obtain ⟨hp, g, d, tk, os⟩ := s
    obtain ⟨hl, hb, h⟩ := h
    have f1 := AutoSeq1.idx_int
    have f2 := AutoSeq1.sub_tuple_tuple
    have f3 := AutoSeq1.sub_list_list
    have f4 := AutoSeq1.sub_tuple_list
    have f5 := AutoSeq1.sub_list_tuple
    have hz' : (xs ++ ys).size ≤ sizeLine + 1 := by rw [Array.size_append]; exact z2
    wp_walk using (wpAny_updateSeq hl rfl (hz := z1) (_hz' := hz')), AutoSeq1.wpAny_loadPart' hl, AutoSeq1.wpAny_loadPart' hb
    exact ⟨_, rfl, h⟩
/-- l.extend(b): b another list, or a tuple -/
def rExtendA (K : PySem.W.Frag) : V → List V → Hp → VK → Prop := fun x vs H Q => ∃ (l b : Addr) (xs ys : List V), x = .ref l ∧ vs = [.ref b] ∧ H l = some (.lst xs) ∧ (H b = some (.lst ys) ∨ H b = some (.tup ys)) ∧ xs.length + ys.length ≤ 100000 ∧ Q .non (upd H l (.lst (xs ++ ys)))
theorem mt_extendA {X : Cx} : MtM X "list.extend" (rExtendA X.K) := by
  intro pins s σ H x vs v us Q inv rx rs rd
  obtain ⟨l, b, xs, ys, rfl, rfl, hl, hb, few, q⟩ := rd
  have few2 : xs.length + ys.length ≤ sizeLine := Nat.le_trans few (by decide)
  rcases hb with hb | hb
  · exact mt_extend pins s σ H _ _ v us Q inv rx rs ⟨l, b, xs, ys, rfl, rfl, hl, hb, few2, q⟩
  · cases rx
    obtain ⟨u, rfl, ru⟩ := rs.one
    cases ru
    obtain ⟨_, its, n, r, e0, e⟩ := inv.lstM hl
    obtain ⟨_, its2, r2, o, e2, c2, m, d2⟩ := (show ObjOk X.prog X.w H s.heap b (.tup ys) from inv.hok b _ hb)
    obtain ⟨oc, od, dt, sl⟩ := o
    simp only at c2 d2
    subst c2 d2
    have l2 := r2.length
    have sz : its.toArray.size + its2.toArray.size ≤ sizeLine := by rw [List.size_toArray, List.size_toArray]; omega
    have lng : ¬ (!its.toArray.isEmpty && Builtin.List.listTooLong (its.toArray.size + its2.toArray.size)) = true := by
      rw [notLongL sz, Bool.and_false]
      exact Bool.false_ne_true
    refine call_meets F.slot_list_extend ⟨_, e, rfl⟩ F.entry_list_extend (F.args_list_extend_2 _ _) (meets_ext l b its.toArray its2.toArray n m od sl lng (by rw [List.size_toArray]; omega) (by omega)) ⟨e, e2, ?_⟩
    refine ⟨.non, _, inv.lset (its' := its ++ its2) hl e (by simp) (r.append r2) ?_, rfl, q⟩
    rw [List.length_append]
    omega
end Fw

set_option Elab.async false
set_option linter.all false
set_option maxRecDepth 100000
set_option maxHeartbeats 4000000
namespace Fw
open PySem L2 RZ RT
def ChAt (H : Hp) (cs : List Addr) (chs : List (List Int)) : Prop := cs.length = chs.length ∧ ∀ (i : Nat) (c : Addr) (l : List Int), cs[i]? = some c → chs[i]? = some l → H c = some (.tup (l.map V.int))
theorem ChAt.mono {H H' : Hp} {cs : List Addr} {chs : List (List Int)} (h : ChAt H cs chs) (s : ∀ (a : Addr) (xs : List V), H a = some (.tup xs) → H' a = some (.tup xs)) : ChAt H' cs chs := ⟨h.1, fun i c l h1 h2 => s _ _ (h.2 i c l h1 h2)⟩
theorem ChAt.snoc {H : Hp} {cs : List Addr} {chs : List (List Int)} (h : ChAt H cs chs) {c : Addr} {l : List Int} (hc : H c = some (.tup (l.map V.int))) : ChAt H (cs ++ [c]) (chs ++ [l]) := by
  refine ⟨by rw [List.length_append, List.length_append, h.1]; rfl, fun i d m h1 h2 => ?_⟩
  rcases Nat.lt_or_ge i cs.length with z | z
  · rw [List.getElem?_append_left z] at h1
    rw [List.getElem?_append_left (by rw [← h.1]; exact z)] at h2
    exact h.2 i d m h1 h2
  · rw [List.getElem?_append_right z] at h1
    rw [List.getElem?_append_right (by rw [← h.1]; exact z)] at h2
    have e : i - cs.length = 0 := by
      have := (List.getElem?_eq_some_iff.mp h1).1
      rw [List.length_singleton] at this
      omega
    rw [e] at h1
    rw [← h.1, e] at h2
    cases Option.some.inj h1
    cases Option.some.inj h2
    exact hc
theorem ChAt.at {H : Hp} {cs : List Addr} {chs : List (List Int)} (h : ChAt H cs chs) {i : Nat} {x : V} (hx : (cs.map V.ref)[i]? = some x) : ∃ c l, x = .ref c ∧ cs[i]? = some c ∧ chs[i]? = some l ∧ H c = some (.tup (l.map V.int)) := by
  rw [List.getElem?_map] at hx
  cases e : cs[i]? with
  | none => rw [e] at hx; cases hx
  | some c =>
    rw [e] at hx
    have hi : i < chs.length := by rw [← h.1]; exact (List.getElem?_eq_some_iff.mp e).1
    have e2 : chs[i]? = some chs[i] := List.getElem?_eq_getElem hi
    exact ⟨c, _, (Option.some.inj hx).symm, rfl, e2, h.2 i c _ e e2⟩
theorem int_at {l : List Int} {i : Nat} {x : V} (hx : (l.map V.int)[i]? = some x) : ∃ w, x = .int w ∧ l[i]? = some w := by
  rw [List.getElem?_map] at hx
  cases e : l[i]? with
  | none => rw [e] at hx; cases hx
  | some w => rw [e] at hx; exact ⟨w, (Option.some.inj hx).symm, rfl⟩
theorem mid_of {f : Int → Bool} {l : List Int} {b : Int} (h : (l.filter f)[(l.filter f).length / 2]? = some b) : midOf f l = [b] := by
  unfold midOf
  rw [if_neg (fun z => ?_), h]
  · rfl
  · have := (List.getElem?_eq_some_iff.mp h).1
    omega
theorem mid_nil {f : Int → Bool} {l : List Int} (h : (l.filter f).length = 0) : midOf f l = [] := by
  unfold midOf
  rw [if_pos h]
theorem mid_some {f : Int → Bool} {l : List Int} (h : (l.filter f).length ≠ 0) : ∃ b, (l.filter f)[(l.filter f).length / 2]? = some b := ⟨_, List.getElem?_eq_getElem (by omega)⟩
theorem cut_to {xs : List V} {few : Nat} : cutV xs none (some (few : Int)) = xs.take few := by
  unfold cutV
  rw [HT.sIx_none, HT.sIx_nat, Nat.sub_zero, List.drop_zero]
  rcases Nat.le_total few xs.length with z | z
  · rw [Nat.min_eq_left z]
  · rw [Nat.min_eq_right z, List.take_length, List.take_of_length_le z]
def lfB (ls : List (Int × Int)) (ans : List (Int × Bool)) (w : Int) : Bool := !hasB ls ans w && !lacB ls ans w
def sp_next_asks (_ : PySem.W.Frag) : Sp := fun vs H Q _ => ∃ (p cv ch q : Addr) (y : V) (few : Nat) (ws : List Int) (ls : List (Int × Int)) (ans : List (Int × Bool)) (cs : List Addr) (chs : List (List Int)), vs = [.ref p, .ref cv, .ref q, .int (few : Int)] ∧ ShapeAt H p ws ls ∧ Good ws ls ∧ ws.length ≤ 1000 ∧ ls.length ≤ 10000 ∧ AnsAt H q ans ∧ ans.length ≤ 1000 ∧ (ans.map (·.1)).Nodup ∧ NotContrary ls ans ∧
  H cv = some (.tup [.ref ch, y]) ∧ H ch = some (.tup (cs.map V.ref)) ∧ ChAt H cs chs ∧ chs.length ≤ 1000 ∧ (∀ l ∈ chs, l.length ≤ 1000 ∧ ∀ v ∈ l, v ∈ ws) ∧
  ∀ (r : Addr) (H' : Hp), Same H H' → H r = none → H' r = some (.tup (((mids (lfB ls ans) chs).take few).map V.int)) → Q (.ref r) H'
abbrev N_next_asks : List Str := ["shape", "cover", "answers", "few", "left", "version", "middles", "chain", "waiting"]
def t_next_asks (K : PySem.W.Frag) : TS := (tSeq (tAsg (tDc (iTup K (tOp (rIx K) (tCall (sp_settled K) [] E0 (tCons (tVar 0) (tCons (tVar 2) tNil))) (tC (.int 2)))) (gName 5) tYes (tVar 5) (tC (.bl true)) [5]) (gName 4))
    (tSeq (tAsg (tLst tNil) (gName 6))
    (tSeq (tFor (iTup K (tOp (rIx K) (tVar 1) (tC (.int 0)))) (gName 7) (tSeq (tAsg (tLc (iTup K (tVar 7)) (gName 5) (tB (tDIn (tVar 5) (tVar 4))) (tVar 5) [5]) (gName 8))
    (tIfS (tTru K (tVar 8)) (tDrop (tBM K "list" rAppend (tVar 6) (tCons (tOp (rIx K) (tVar 8) (tOp rDivI (tCB (fLen K) (tCons (tVar 8) tNil)) (tC (.int 2)))) tNil))) tNext)))
    (tRet (tCB (fTupleOf K) (tCons (tSl (rSlL K) (tVar 6) tNoPart (tPart (tVar 3))) tNil))))))
section
variable {K : PySem.W.Frag} {vs : List V} {H : Hp} {Q : VK} {E : XK}
theorem len_next_asks (h : sp_next_asks K vs H Q E) : vs.length = 4 := by
  obtain ⟨_, _, _, _, _, _, _, _, _, _, _, rfl, _⟩ := h
  rfl
theorem pure_next_asks (h : sp_next_asks K vs H Q E) : t_next_asks K { nx := fun _ H' => Q .non H', rt := Q } (start N_next_asks vs) H := by
  obtain ⟨p, cv, ch, q, y, few, ws, ls, ans, cs, chs, rfl, sh, g, hwz, hlz, an, hasz, nd, nc, hcv, hch, hcs, hcz, hlen, k⟩ := h
  refine ⟨_, rfl, _, rfl, p, q, ws, ls, ans, rfl, sh, g, hwz, hlz, an, hasz, nd, nc, fun T H1 s1 nT ⟨ta, tb, tc, hT, hta, htb, htc⟩ => ?_⟩
  change H1 tc = some (.tup ((ws.filter (lfB ls ans)).map V.int)) at htc
  generalize hlf : ws.filter (lfB ls ans) = lf at htc
  have lfn : lf.Nodup := by rw [← hlf]; exact (rising_nodup g.inc).sublist List.filter_sublist
  have lfz : lf.length ≤ 1000 := by rw [← hlf]; exact Nat.le_trans (List.length_filter_le _ _) hwz
  refine ixT hT rfl ⟨tc, rfl, ⟨_, sqT htc⟩, fun F nF => ?_⟩
  have up : ∀ kvs, Same H1 (upd H1 F (.dK kvs)) := fun kvs b o e => updN (ne_of_none e nF) e
  refine dc_tup (K := K) (a := tc) (xs := lf.map V.int) (fun i H2 => H2 = upd H1 F (.dK (mkS (lf.take i)))) (by rw [List.take_zero]; rfl) (fun i H2 _ e => by rw [e]; exact sqT (up _ _ _ htc)) (fun i x H2 hx e => ?_) (fun H2 e => ?_)
  · subst e
    obtain ⟨n, rfl, en⟩ := int_at hx
    refine ⟨rfl, ⟨_, rfl, mkS (lf.take i), Sum.inl n, rfl, updS, ?_, ?_⟩⟩
    · rw [mkS_length]
      exact Nat.lt_of_le_of_lt (by rw [List.length_take]; omega : (lf.take i).length ≤ 1000) (by decide)
    · have nin : n ∉ lf.take i := fun hm => by
        obtain ⟨j, hj, e⟩ := List.getElem_of_mem hm
        rw [List.length_take] at hj
        rw [List.getElem_take] at e
        have hi := (List.getElem?_eq_some_iff.mp en)
        have : j = i := (List.getElem_inj lfn).mp (e.trans hi.2.symm)
        omega
      rw [upd_upd, take_snoc en, mkS_put, mkS_ins nin]
  · subst e
    rw [List.length_map, List.take_length]
    have sF : Same H (upd H1 F (.dK (mkS lf))) := s1.trans (up _)
    have hF : (upd H1 F (.dK (mkS lf))) F = some (.dK (mkS lf)) := updS
    generalize upd H1 F (.dK (mkS lf)) = H2 at *
    refine ⟨Nat.zero_le _, fun L nL => ?_⟩
    refine ⟨_, rfl, ixT (updN (ne_of_none (sF _ _ hcv) nL) (sF _ _ hcv)) rfl ⟨ch, rfl, ⟨_, sqT (updN (ne_of_none (sF _ _ hch) nL) (sF _ _ hch))⟩, ?_⟩⟩
    have hH : H L = none := sF.free nL
    refine for_tup (K := K) (a := ch) (xs := cs.map V.ref) (fun i σ H' => Same H H' ∧ H' F = some (.dK (mkS lf)) ∧ H' L = some (.lst ((mids (lfB ls ans) (chs.take i)).map V.int)) ∧ ∃ z5 z7 z8 : Option V, σ = [some (.ref p), some (.ref cv), some (.ref q), some (.int (few : Int)), some (.ref F), z5, some (.ref L), z7, z8]) ⟨sF.trans (samNew nL), samNew nL _ _ hF, ?_, none, none, none, rfl⟩ (fun i σ H' _ p => sqT (p.1 _ _ hch)) ?_ ?_
    · rw [updS]
      rfl
    · rintro i x σ H3 hx ⟨s3, hF3, hL3, z5, z7, z8, rfl⟩
      obtain ⟨c, l, rfl, ec, el, hc⟩ := hcs.at hx
      obtain ⟨ll, lw⟩ := hlen l (List.mem_of_getElem? el)
      have hc3 := s3 _ _ hc
      refine ⟨_, rfl, c, rfl, ⟨_, sqT hc3⟩, fun Y nY => ?_⟩
      have sY : ∀ o, Same H3 (upd H3 Y o) := fun o => samNew nY
      refine lc_filtT (K := K) (a := c) (xs := l.map V.int) (ys := l.map V.int) (ks := l.map (lfB ls ans)) (fun acc => sqT (sY _ _ _ hc3)) rfl (by simp) (by rw [List.length_map]; omega) (fun j x y b acc R N hx hy hb r n => ?_) ?_
      · obtain ⟨w, rfl, ew⟩ := int_at hx
        cases Option.some.inj (hx.symm.trans hy)
        rw [List.getElem?_map, ew] at hb
        have hb' : lfB ls ans w = b := Option.some.inj hb
        refine ⟨rfl, _, rfl, _, rfl, F, _, rfl, DGet.k (k := Sum.inl w) (sY _ _ _ hF3), _, rfl, ?_⟩
        rw [mkS_has, show lf.contains w = b by
          rw [← hb', ← hlf, Bool.eq_iff_iff, List.contains_iff_mem, List.mem_filter]
          exact ⟨fun z => z.2, fun z => ⟨lw w (List.mem_of_getElem? ew), z⟩⟩]
        exact ite2 (fun z => ⟨_, rfl, r z⟩) (fun z => n (Bool.eq_false_iff.mpr z))
      rw [sel_map]
      have sN := sY (.lst ((l.filter (lfB ls ans)).map V.int))
      have hY : (upd H3 Y (.lst ((l.filter (lfB ls ans)).map V.int))) Y = some (.lst ((l.filter (lfB ls ans)).map V.int)) := updS
      have hYL : Y ≠ L := (ne_of_none hL3 nY).symm
      generalize upd H3 Y (.lst ((l.filter (lfB ls ans)).map V.int)) = H4 at *
      have ms : mids (lfB ls ans) (chs.take (i + 1)) = mids (lfB ls ans) (chs.take i) ++ midOf (lfB ls ans) l := by rw [take_snoc el, mids_snoc]
      refine ⟨_, rfl, _, .inl ⟨_, sqL hY, rfl⟩, ite2 (fun z => ?_) (fun z => ?_)⟩
      · have nz : (l.filter (lfB ls ans)).length ≠ 0 := fun e => by
          rw [List.length_eq_zero_iff.mp e] at z
          exact Bool.false_ne_true z
        obtain ⟨b, hb⟩ := mid_some nz
        have hb2 : atI ((l.filter (lfB ls ans)).map V.int) ((((l.filter (lfB ls ans)).map V.int).length : Int) / 2) = some (.int b) := by
          rw [List.length_map, show (((l.filter (lfB ls ans)).length : Int) / 2) = (((l.filter (lfB ls ans)).length / 2 : Nat) : Int) by omega]
          exact atI_nat (by rw [List.getElem?_map, hb]; rfl)
        refine ⟨_, rfl, .inl ⟨rfl, _, sqL (sN _ _ hL3)⟩, _, rfl, _, rfl, lenL hY ⟨_, _, rfl, rfl, ⟨by decide, by decide⟩, ixL hY hb2 ?_⟩⟩
        refine ⟨L, _, _, rfl, rfl, sN _ _ hL3, ?_, ?_⟩
        · rw [List.length_map]
          exact Nat.lt_of_le_of_lt (Nat.le_trans (mids_le _ _) (by rw [List.length_take]; omega) : _ ≤ 1000) (by decide)
        · refine ⟨fun a o e => updN (ne_of_none e hH) (sN _ _ (s3 _ _ e)), updN (fun e => ?_) (sN _ _ hF3), ?_, _, _, _, rfl⟩
          · rw [e, hL3] at hF3
            cases hF3
          · rw [updS, ms, mid_of hb, List.map_append]
            rfl
      · have nz : (l.filter (lfB ls ans)).length = 0 := by
          cases e : l.filter (lfB ls ans) with
          | nil => rfl
          | cons a r => rw [e] at z; exact absurd rfl z
        refine ⟨s3.trans sN, sN _ _ hF3, ?_, _, _, _, rfl⟩
        rw [sN _ _ hL3, ms, mid_nil nz, List.append_nil]
    · rintro σ H3 ⟨s3, hF3, hL3, z5, z7, z8, rfl⟩
      rw [List.length_map, hcs.1, List.take_length] at hL3
      refine ⟨_, rfl, _, rfl, _, rfl, L, _, rfl, sqL hL3, fun P nP => ?_⟩
      rw [cut_to, ← List.map_take]
      refine ⟨P, _, rfl, .inl ⟨sqL updS, fun r nr => ?_⟩⟩
      exact k r _ ((s3.trans (samNew nP)).trans (samNew nr)) (s3.free ((samNew nP).free nr)) updS
end
def sp_l_middles (_ : PySem.W.Frag) : Sp := fun vs H Q _ => ∃ (C B : Addr) (wide : Nat) (left : List Int) (cs : List Addr) (chs : List (List Int)), vs = [.ref C, .ref B, .int (wide : Int)] ∧ H C = some (.lst (cs.map V.ref)) ∧ ChAt H cs chs ∧ chs.length ≤ 1000 ∧ (∀ l ∈ chs, l.length ≤ 1000) ∧ H B = some (.lst (left.map V.int)) ∧
  ∀ (r : Addr) (H' : Hp), Same H H' → H r = none → H' r = some (.tup (((mids left.contains chs).take wide).map V.int)) → Q (.ref r) H'
abbrev N_l_middles : List Str := ["_law_chains", "_law_left", "_law_wide", "_law_asks", "_law_chain", "_law_rest", "_law_version"]
def t_l_middles_loop (K : PySem.W.Frag) : TS := (tSeq (tAsg (tLc (iTup K (tVar 4)) (gName 6) (tTest (tOp (rIn K false) (tVar 6) (tVar 1))) (tVar 6) [6]) (gName 5))
    (tIfS (tAnd (tTest (tOp rGtI (tCB (fLen K) (tCons (tVar 5) tNil)) (tC (.int 0)))) (tTest (tOp rLtI (tCB (fLen K) (tCons (tVar 3) tNil)) (tVar 2)))) (tDrop (tBM K "list" rAppend (tVar 3) (tCons (tOp (rIx K) (tVar 5) (tOp rDivI (tCB (fLen K) (tCons (tVar 5) tNil)) (tC (.int 2)))) tNil))) tNext))
def t_l_middles (K : PySem.W.Frag) : TS := (tSeq (tAsg (tLst tNil) (gName 3))
    (tSeq (tFor (iList K (tVar 0)) (gName 4) (t_l_middles_loop K))
    (tRet (tCB (fTupleOf K) (tCons (tVar 3) tNil)))))
section
variable {K : PySem.W.Frag} {vs : List V} {H : Hp} {Q : VK} {E : XK}
theorem len_l_middles (h : sp_l_middles K vs H Q E) : vs.length = 3 := by
  obtain ⟨_, _, _, _, _, _, rfl, _⟩ := h
  rfl
theorem pure_l_middles (h : sp_l_middles K vs H Q E) : t_l_middles K { nx := fun _ H' => Q .non H', rt := Q } (start N_l_middles vs) H := by
  obtain ⟨C, B, wide, left, cs, chs, rfl, hC, hcs, hcz, hlen, hB, k⟩ := h
  refine ⟨Nat.zero_le _, fun L nL => ?_⟩
  have sL : ∀ o, Same H (upd H L o) := fun o => samNew nL
  refine ⟨_, rfl, C, rfl, ⟨_, sqL (sL _ _ _ hC)⟩, ?_⟩
  refine for_list (K := K) (a := C) (xs := cs.map V.ref) (fun i σ H' => Same H H' ∧ H' L = some (.lst (((mids left.contains (chs.take i)).take wide).map V.int)) ∧ ∃ z4 z5 z6 : Option V, σ = [some (.ref C), some (.ref B), some (.int (wide : Int)), some (.ref L), z4, z5, z6]) ⟨sL _, ?_, none, none, none, rfl⟩ (fun i σ H' _ p => sqL (p.1 _ _ hC)) ?_ ?_
  · rw [updS, List.take_zero]
    show _ = some (HO.lst ((([] : List Int).take wide).map V.int))
    rw [List.take_nil]
    rfl
  · rintro i x σ H3 hx ⟨s3, hL3, z4, z5, z6, rfl⟩
    obtain ⟨c, l, rfl, ec, el, hc⟩ := hcs.at hx
    have ll := hlen l (List.mem_of_getElem? el)
    have hc3 := s3 _ _ hc
    refine ⟨_, rfl, c, rfl, ⟨_, sqT hc3⟩, fun Y nY => ?_⟩
    have sY : ∀ o, Same H3 (upd H3 Y o) := fun o => samNew nY
    refine lc_filtT (K := K) (a := c) (xs := l.map V.int) (ys := l.map V.int) (ks := l.map left.contains) (fun acc => sqT (sY _ _ _ hc3)) rfl (by simp) (by rw [List.length_map]; omega) (fun j x y b acc R N hx hy hb r n => ?_) ?_
    · obtain ⟨w, rfl, ew⟩ := int_at hx
      cases Option.some.inj (hx.symm.trans hy)
      rw [List.getElem?_map, ew] at hb
      have hb' : left.contains w = b := Option.some.inj hb
      refine ⟨rfl, _, rfl, _, rfl, B, _, rfl, .inl (sqL (sY _ _ _ (s3 _ _ hB))), rfl, flat_ints left, _, rfl, ?_⟩
      show if inV (.int w) (left.map V.int) = true then _ else _
      rw [inV_ints, hb']
      exact ite2 (fun z => ⟨_, rfl, r z⟩) (fun z => n (Bool.eq_false_iff.mpr z))
    rw [sel_map]
    have sN := sY (.lst ((l.filter left.contains).map V.int))
    have hY : (upd H3 Y (.lst ((l.filter left.contains).map V.int))) Y = some (.lst ((l.filter left.contains).map V.int)) := updS
    generalize upd H3 Y (.lst ((l.filter left.contains).map V.int)) = H4 at *
    have ms : mids left.contains (chs.take (i + 1)) = mids left.contains (chs.take i) ++ midOf left.contains l := by rw [take_snoc el, mids_snoc]
    have hz : (mids left.contains (chs.take i)).length ≤ 1000 := Nat.le_trans (mids_le _ _) (by rw [List.length_take]; omega)
    refine ⟨_, rfl, lenL hY ⟨_, _, rfl, rfl, _, rfl, ite2 (fun z => ?_) (fun z => ?_)⟩⟩
    · have nz : (l.filter left.contains).length ≠ 0 := fun e => by
        have z' := of_decide_eq_true z
        rw [List.length_map, e] at z'
        exact absurd z' (by decide)
      obtain ⟨b, hb⟩ := mid_some nz
      refine ⟨_, rfl, lenL (sN _ _ hL3) ⟨_, rfl, _, _, rfl, rfl, _, rfl, ite2 (fun z2 => ?_) (fun z2 => ?_)⟩⟩
      · have z2' := of_decide_eq_true z2
        rw [List.length_map, List.length_take] at z2'
        have hb2 : atI ((l.filter left.contains).map V.int) ((((l.filter left.contains).map V.int).length : Int) / 2) = some (.int b) := by
          rw [List.length_map, show (((l.filter left.contains).length : Int) / 2) = (((l.filter left.contains).length / 2 : Nat) : Int) by omega]
          exact atI_nat (by rw [List.getElem?_map, hb]; rfl)
        refine ⟨_, rfl, .inl ⟨rfl, _, sqL (sN _ _ hL3)⟩, _, rfl, _, rfl, lenL hY ⟨_, _, rfl, rfl, ⟨by decide, by decide⟩, ixL hY hb2 ?_⟩⟩
        refine ⟨L, _, _, rfl, rfl, sN _ _ hL3, ?_, ?_⟩
        · rw [List.length_map, List.length_take]
          exact Nat.lt_of_le_of_lt (Nat.le_trans (Nat.min_le_right _ _) hz) (by decide)
        · refine ⟨fun a o e => updN (ne_of_none e nL) (sN _ _ (s3 _ _ e)), ?_, _, _, _, rfl⟩
          rw [updS, ms, mid_of hb, List.take_of_length_le (l := mids left.contains (chs.take i)) (show (mids left.contains (chs.take i)).length ≤ wide by omega), List.take_of_length_le (l := mids left.contains (chs.take i) ++ [b]) (by rw [List.length_append, List.length_singleton]; omega), List.map_append]
          rfl
      · have z2' := of_decide_eq_false (Bool.eq_false_iff.mpr z2)
        rw [List.length_map, List.length_take] at z2'
        refine ⟨s3.trans sN, ?_, _, _, _, rfl⟩
        rw [sN _ _ hL3, ms, List.take_append_of_le_length (by omega)]
    · have nz : (l.filter left.contains).length = 0 := by
        have z' := of_decide_eq_false (Bool.eq_false_iff.mpr z)
        rw [List.length_map] at z'
        omega
      refine ⟨s3.trans sN, ?_, _, _, _, rfl⟩
      rw [sN _ _ hL3, ms, mid_nil nz, List.append_nil]
  · rintro σ H3 ⟨s3, hL3, z4, z5, z6, rfl⟩
    rw [List.length_map, hcs.1, List.take_length] at hL3
    refine ⟨_, rfl, L, _, rfl, .inl ⟨sqL hL3, fun r nr => ?_⟩⟩
    exact k r _ (s3.trans (samNew nr)) (s3.free nr) updS
end
end Fw

set_option Elab.async false
set_option linter.all false
set_option maxRecDepth 100000
set_option maxHeartbeats 4000000
namespace Fw
open PySem L2 RZ RT
section
variable {K : PySem.W.Frag} {σ : L2.St} {s : Nat} {te : TE} {a : Addr} {H : Hp} {Q : VK}
/-- those of a tuple's ints that a test keeps -/
theorem tLc_tupF {tt : TT} {p : Int → Bool} {ws : List Int} (hte : ∀ R : VK, R (.ref a) H → te σ H R) (hs : s < σ.length) (ha : H a = some (.tup (ws.map V.int))) (hz : ws.length ≤ 1000)
    (ht : ∀ (w : Int) (H' : Hp) (Y : Bool → Hp → Prop), w ∈ ws → Same H H' → (∀ H2, Same H' H2 → Y (p w) H2) → tt ((σ.set s none).set s (some (.int w))) H' Y)
    (hd : ∀ D H', H D = none → Same H H' → H' D = some (.lst ((ws.filter p).map V.int)) → Q (.ref D) H') : tLc (iTup K te) (gName s) tt (tVar s) [s] σ H Q := by
  refine hte _ ⟨a, rfl, ⟨_, sqT ha⟩, fun D nD => ?_⟩
  refine lc_it (walk_tup (xs := ws.map V.int)) (fun i H' => Same H H' ∧ H' D = some (.lst (((ws.take i).filter p).map V.int))) ⟨samNew nD, updS⟩ (fun i H' _ q => sqT (q.1 _ _ ha)) ?_ ?_
  · rintro i y H2 H3 hi ⟨s2, hD⟩ ⟨rfl, hy⟩
    obtain ⟨w, rfl, ew⟩ := int_at hy
    refine ⟨?_, ht w _ _ (List.mem_of_getElem? ew) s2 fun H4 s4 => ?_⟩
    · show (((σ.set s none).set s _).set s none) = σ.set s none
      rw [List.set_set, List.set_set]
    rw [filt_snoc ew]
    refine ite2 (fun e => ?_) fun e => ?_
    · rw [if_pos e]
      refine ⟨.int w, List.getElem?_set_self (show s < (σ.set s none).length by rw [List.length_set]; exact hs), _, s4 _ _ hD, ?_, Same.updF (s2.trans s4) nD, ?_⟩
      · rw [List.length_map]
        have := List.length_filter_le p (ws.take i)
        rw [List.length_take] at this
        exact Nat.lt_of_le_of_lt (show ((ws.take i).filter p).length ≤ 1000 by omega) (by decide)
      · rw [updS, List.map_append]
        rfl
    · rw [if_neg e, List.append_nil]
      exact ⟨s2.trans s4, s4 _ _ hD⟩
  · rintro H2 ⟨s2, hD⟩
    rw [List.length_map, List.take_length] at hD
    exact hd D H2 nD s2 hD
/-- a tuple's ints as a dict's keys -/
theorem tDc_setT {ss : List Int} (hte : ∀ R : VK, R (.ref a) H → te σ H R) (hs : s < σ.length) (ha : H a = some (.tup (ss.map V.int))) (nd : ss.Nodup) (hz : ss.length ≤ 1000)
    (hd : ∀ F, H F = none → Q (.ref F) (upd H F (.dK (mkS ss)))) : tDc (iTup K te) (gName s) tYes (tVar s) (tC (.bl true)) [s] σ H Q := by
  refine hte _ ⟨a, rfl, ⟨_, sqT ha⟩, fun F nF => ?_⟩
  have up : ∀ kvs, Same H (upd H F (.dK kvs)) := fun kvs b o e => updN (ne_of_none e nF) e
  refine dc_any (walk_tup (xs := ss.map V.int)) (fun i H2 => H2 = upd H F (.dK (mkS (ss.take i)))) (by rw [List.take_zero]; rfl) (fun i H2 _ e => by rw [e]; exact sqT (up _ _ _ ha)) ?_ ?_
  · rintro i x H2 H3 hi rfl ⟨rfl, hx⟩
    obtain ⟨n, rfl, en⟩ := int_at hx
    refine ⟨?_, ?_⟩
    · show (((σ.set s none).set s _).set s none) = σ.set s none
      rw [List.set_set, List.set_set]
    refine ⟨_, List.getElem?_set_self (show s < (σ.set s none).length by rw [List.length_set]; exact hs), mkS (ss.take i), Sum.inl n, rfl, updS, ?_, ?_⟩
    · rw [mkS_length]
      exact Nat.lt_of_le_of_lt (by rw [List.length_take]; omega : (ss.take i).length ≤ 1000) (by decide)
    · have nin : n ∉ ss.take i := fun hm => by
        obtain ⟨j, hj, e⟩ := List.getElem_of_mem hm
        rw [List.length_take] at hj
        rw [List.getElem_take] at e
        have hi := (List.getElem?_eq_some_iff.mp en)
        have : j = i := (List.getElem_inj nd).mp (e.trans hi.2.symm)
        omega
      rw [upd_upd, take_snoc en, mkS_put, mkS_ins nin]
  · rintro H2 rfl
    rw [List.length_map, List.take_length]
    exact hd F nF
end
/-- with_lower of a tuple -/
def sp_with_lowerT (_ : PySem.W.Frag) : Sp := fun vs H Q _ => ∃ (p q : Addr) (ws : List Int) (ls : List (Int × Int)) (ss : List Int), vs = [.ref p, .ref q] ∧ ShapeAt H p ws ls ∧ Good ws ls ∧ ls.length ≤ 10000 ∧ H q = some (.tup (ss.map V.int)) ∧ ss.Nodup ∧ ss.length ≤ 1000 ∧
  ∀ (F : Addr) (H' : Hp), Same H H' → H F = none → H' F = some (.dK (mkS (lower ls ss))) → Q (.ref F) H'
def sp_must_ask (_ : PySem.W.Frag) : Sp := fun vs H Q _ => ∃ (p r : Addr) (ws : List Int) (ls : List (Int × Int)) (cs : List (List Int)) (ap : List Int), vs = [.ref p, .ref r] ∧ ShapeAt H p ws ls ∧ Good ws ls ∧ ws.length ≤ 1000 ∧ ls.length ≤ 10000 ∧ CovAt H r cs ap ∧ ap.Nodup ∧ ap.length ≤ 1000 ∧
  ∀ (q : Addr) (H' : Hp), Same H H' → H' q = some (.tup ((ws.filter fun v => (lower ls ap).contains v && !ap.contains v).map V.int)) → Q (.ref q) H'
abbrev N_with_lowerT : List Str := ["shape", "starts", "found", "version", "upper", "lower"]
def t_with_lowerT (K : PySem.W.Frag) : TS := (tSeq (tAsg (tDc (iTup K (tVar 1)) (gName 3) tYes (tVar 3) (tC (.bl true)) [3]) (gName 2))
    (tSeq (tFor (iRevA K (tOp (rIx K) (tVar 0) (tC (.int 1)))) (gTup K 2 (gCons (gName 4) (gCons (gName 5) gNil))) (tIfS (tB (tDIn (tVar 4) (tVar 2))) (sDPut (tVar 2) (tVar 5) (tC (.bl true))) tNext))
    (tRet (tVar 2))))
abbrev N_must_ask : List Str := ["shape", "cover", "apart", "version", "found"]
def t_must_ask_end (K : PySem.W.Frag) : TS := (tRet (tCB (fTupleOf K) (tCons (tLc (iTup K (tOp (rIx K) (tVar 0) (tC (.int 0)))) (gName 3) (tAnd (tB (tDIn (tVar 3) (tVar 4))) (tB (tDNotIn (tVar 3) (tVar 2)))) (tVar 3) [3]) tNil)))
def t_must_ask (K : PySem.W.Frag) : TS := (tSeq (tAsg (tDc (iTup K (tOp (rIx K) (tVar 1) (tC (.int 1)))) (gName 3) tYes (tVar 3) (tC (.bl true)) [3]) (gName 2))
    (tSeq (tAsg (tCall (sp_with_lowerT K) [] E0 (tCons (tVar 0) (tCons (tOp (rIx K) (tVar 1) (tC (.int 1))) tNil))) (gName 4))
    (t_must_ask_end K)))
section
variable {K : PySem.W.Frag} {vs : List V} {H : Hp} {Q : VK} {E : XK}
theorem len_with_lowerT (h : sp_with_lowerT K vs H Q E) : vs.length = 2 := by
  obtain ⟨_, _, _, _, _, rfl, _⟩ := h
  rfl
theorem len_must_ask (h : sp_must_ask K vs H Q E) : vs.length = 2 := by
  obtain ⟨_, _, _, _, _, _, rfl, _⟩ := h
  rfl
theorem pure_with_lowerT (h : sp_with_lowerT K vs H Q E) : t_with_lowerT K { nx := fun _ H' => Q .non H', rt := Q } (start N_with_lowerT vs) H := by
  obtain ⟨p, q, ws, ls, ss, rfl, ⟨a, r, rs, hp, ha, hr, lk⟩, g, hlz, hq, nd, hsz, k⟩ := h
  dsimp only [t_with_lowerT, tSeq, tAsg]
  refine tDc_setT (K := K) (σ := start N_with_lowerT [.ref p, .ref q]) (s := 3) (te := tVar 1) (a := q) (fun R z => ⟨_, rfl, z⟩) (by show (3 : Nat) < 6; decide) hq nd hsz fun F nF => ?_
  have up : ∀ kvs, Same H (upd H F (.dK kvs)) := fun kvs b o e => updN (ne_of_none e nF) e
  have hrl : (rs.map V.ref).length = ls.length := by rw [List.length_map, lk.1]
  refine ⟨_, rfl, ixT (up _ _ _ hp) rfl ⟨r, rs.map V.ref, rfl, .inr ⟨sqT (up _ _ _ hr), ?_⟩⟩⟩
  refine for_ItvT (K := K) (a := r) (xs := rs.map V.ref) (fun i σ H2 => ∃ z3 z4 z5 : Option V, σ = [some (.ref p), some (.ref q), some (.ref F), z3, z4, z5] ∧ H2 = upd H F (.dK (mkS (lower (ls.drop (ls.length - i)) ss)))) ?_ ?_ ?_ ?_
  · refine ⟨none, none, none, rfl, ?_⟩
    rw [Nat.sub_zero, List.drop_length]
    rfl
  · rintro i σ H2 ⟨_, _, _, _, rfl⟩
    exact sqT (up _ _ _ hr)
  · rintro i x σ H2 hi hx ⟨z3, z4, z5, rfl, rfl⟩
    rw [hrl] at hi hx
    rw [List.getElem?_map] at hx
    have hj : ls.length - 1 - i < ls.length := by omega
    cases er : rs[ls.length - 1 - i]? with
    | none => rw [er] at hx; cases hx
    | some b =>
      rw [er] at hx
      cases Option.some.inj hx
      have el : ls[ls.length - 1 - i]? = some ls[ls.length - 1 - i] := List.getElem?_eq_getElem hj
      generalize ls[ls.length - 1 - i] = l at el
      have hb := lk.2 _ _ _ er el
      have ed := drop_rev hi el
      refine ⟨b, [.int l.1, .int l.2], rfl, sqT (up _ _ _ hb), rfl, _, [.int l.2], rfl, _, [], rfl, rfl, ?_⟩
      have hlen : (mkS (lower (ls.drop (ls.length - i)) ss)).length < sizeLine := by
        rw [mkS_length]
        have := length_lower (ls.drop (ls.length - i)) ss
        rw [List.length_drop] at this
        exact Nat.lt_of_le_of_lt (show _ ≤ 20000 by omega) (by decide)
      refine ⟨_, rfl, _, rfl, F, _, rfl, DGet.k (k := Sum.inl l.1) updS, _, rfl, ?_⟩
      rw [mkS_has]
      refine ite2 (fun e => ?_) (fun e => ?_)
      · refine ⟨_, rfl, _, rfl, F, _, rfl, DPut.k (k := Sum.inl l.2) updS hlen, _, _, _, rfl, ?_⟩
        rw [upd_upd, mkS_put, ed, lower_cons]
        unfold addB
        rw [if_pos e]
      · refine ⟨_, _, _, rfl, ?_⟩
        rw [ed, lower_cons]
        unfold addB
        rw [if_neg e]
  · rintro σ H2 ⟨z3, z4, z5, rfl, rfl⟩
    rw [hrl, Nat.sub_self, List.drop_zero]
    exact ⟨_, rfl, k F _ (up _) nF updS⟩
theorem pure_must_ask (h : sp_must_ask K vs H Q E) : t_must_ask K { nx := fun _ H' => Q .non H', rt := Q } (start N_must_ask vs) H := by
  obtain ⟨p, r, ws, ls, cs, ap, rfl, sh, g, hw, hl, cov, nd, hz, k⟩ := h
  obtain ⟨ta, tb, ca, h1, h2, h3, h4, h5⟩ := id cov
  obtain ⟨a0, r0, rs, hp, ha0, hr0, lk⟩ := id sh
  dsimp only [t_must_ask, tSeq, tAsg]
  refine tDc_setT (K := K) (σ := start N_must_ask [.ref p, .ref r]) (s := 3) (te := tOp (rIx K) (tVar 1) (tC (.int 1))) (a := tb) (fun R z => ⟨_, rfl, ixT h1 rfl z⟩) (by show (3 : Nat) < 5; decide) h3 nd hz fun A nA => ?_
  have s1 : Same H (upd H A (.dK (mkS ap))) := samNew nA
  have hA : upd H A (.dK (mkS ap)) A = some (.dK (mkS ap)) := updS
  generalize upd H A (.dK (mkS ap)) = H1 at s1 hA
  refine ⟨_, rfl, _, rfl, ixT (s1 _ _ h1) rfl ⟨p, tb, ws, ls, ap, rfl, sh.mono fun b xs e => s1 _ _ e, g, hl, s1 _ _ h3, nd, hz, fun F H2 s2 nF hF => ?_⟩⟩
  have s12 := s1.trans s2
  show t_must_ask_end K { nx := fun _ H' => Q .non H', rt := Q } [some (.ref p), some (.ref r), some (.ref A), none, some (.ref F)] H2
  dsimp only [t_must_ask_end, tRet, tCB, tCons]
  refine tLc_tupF (a := a0) (p := fun v => (lower ls ap).contains v && !ap.contains v) (fun R z => ⟨_, rfl, ixT (s12 _ _ hp) rfl z⟩) (by show (3 : Nat) < 5; decide) (s12 _ _ ha0) hw (fun w H' Y _ s y => ?_) fun D H' nD s3 hD => ?_
  · have y : Y ((lower ls ap).contains w && !ap.contains w) H' := y H' (.refl _)
    refine ⟨_, rfl, _, rfl, F, _, rfl, .inl ⟨_, .inl w, .inl (s _ _ hF), rfl, rfl⟩, _, rfl, ?_⟩
    rw [mkS_has]
    cases e1 : (lower ls ap).contains w with
    | false =>
      rw [e1] at y
      exact iteF y
    | true =>
      rw [e1] at y
      refine iteT ⟨_, rfl, _, rfl, A, _, rfl, .inl ⟨_, .inl w, .inl (s _ _ (s2 _ _ hA)), rfl, rfl⟩, _, rfl, ?_⟩
      rw [mkS_has]
      exact y
  · exact ⟨D, _, rfl, .inl ⟨sqL hD, fun q nq => k q _ ((s12.trans s3).trans (samNew nq)) updS⟩⟩
end
end Fw

set_option Elab.async false
set_option linter.all false
set_option maxRecDepth 100000
set_option maxHeartbeats 4000000
namespace Fw
open PySem L2 RZ RT
/-! ### right answers of a holding, and what they leave -/
/-- answers that are right for those in hs -/
def RightA (ws hs : List Int) (ans : List (Int × Bool)) : Prop := ∀ e ∈ ans, e.1 ∈ ws ∧ e.2 = hs.contains e.1
/-- with each version all that is below it -/
def Closed (ws : List Int) (ls : List (Int × Int)) (hs : List Int) : Prop := ∀ v ∈ hs, v ∈ ws ∧ ∀ u, Dn ls v u → u ∈ hs
section
variable {ws hs : List Int} {ls : List (Int × Int)} {ans : List (Int × Bool)}
theorem RightA.nc (r : RightA ws hs ans) (c : Closed ws ls hs) : NotContrary ls ans := fun v u hv hu d => by
  have h1 := (r _ hv).2
  have h2 := (r _ hu).2
  have h3 := (c v (List.contains_iff_mem.mp h1.symm)).2 u d
  rw [show hs.contains (v, true).1 = hs.contains v from rfl] at h1
  have : hs.contains u = true := List.contains_iff_mem.mpr h3
  rw [show hs.contains (u, false).1 = hs.contains u from rfl, this] at h2
  cases h2
theorem lfB_iff (g : Good ws ls) {w : Int} : lfB ls ans w = true ↔ (¬ ∃ s, (s, true) ∈ ans ∧ Dn ls s w) ∧ ¬ ∃ u, (u, false) ∈ ans ∧ Dn ls w u := by
  unfold lfB
  rw [Bool.and_eq_true, Bool.not_eq_true', Bool.not_eq_true', ← hasB_iff g, ← lacB_iff g]
  cases hasB ls ans w <;> cases lacB ls ans w <;> simp
theorem lfB_new (g : Good ws ls) {w : Int} (h : lfB ls ans w = true) : w ∉ ans.map (·.1) := fun hm => by
  obtain ⟨h1, h2⟩ := (lfB_iff g).mp h
  obtain ⟨⟨v, b⟩, he, rfl⟩ := List.mem_map.mp hm
  cases b with
  | true => exact h1 ⟨v, he, .refl _⟩
  | false => exact h2 ⟨v, he, .refl _⟩
theorem lfB_mono (g : Good ws ls) {more : List (Int × Bool)} {w : Int} (h : lfB ls (ans ++ more) w = true) : lfB ls ans w = true := by
  obtain ⟨h1, h2⟩ := (lfB_iff g).mp h
  exact (lfB_iff g).mpr ⟨fun ⟨s, a, b⟩ => h1 ⟨s, List.mem_append_left _ a, b⟩, fun ⟨s, a, b⟩ => h2 ⟨s, List.mem_append_left _ a, b⟩⟩
theorem midOf_sub (f : Int → Bool) (c : List Int) : (midOf f c).Sublist c ∧ (∀ x ∈ midOf f c, f x = true) ∧ ((∃ x ∈ c, f x = true) → midOf f c ≠ []) := by
  unfold midOf
  by_cases e : (c.filter f).length = 0
  · rw [if_pos e]
    refine ⟨List.nil_sublist _, (fun x h => by cases h), fun ⟨x, h1, h2⟩ => ?_⟩
    have : x ∈ c.filter f := List.mem_filter.mpr ⟨h1, h2⟩
    rw [List.length_eq_zero_iff.mp e] at this
    cases this
  · rw [if_neg e]
    have hl : (c.filter f).length / 2 < (c.filter f).length := by omega
    rw [List.getElem?_eq_getElem hl]
    have hm := List.getElem_mem hl
    obtain ⟨h1, h2⟩ := List.mem_filter.mp hm
    refine ⟨List.singleton_sublist.mpr h1, fun x hx => ?_, fun _ h => by cases h⟩
    rw [List.mem_singleton.mp hx]
    exact h2
theorem mids_sub (f : Int → Bool) : ∀ cs : List (List Int), (mids f cs).Sublist cs.flatten ∧ (∀ x ∈ mids f cs, f x = true) ∧ ((∃ c ∈ cs, ∃ x ∈ c, f x = true) → mids f cs ≠ [])
  | [] => ⟨List.Sublist.refl _, (fun x h => by cases h), fun ⟨_, h, _⟩ => by cases h⟩
  | c :: cs => by
    obtain ⟨a1, a2, a3⟩ := midOf_sub f c
    obtain ⟨b1, b2, b3⟩ := mids_sub f cs
    have e : mids f (c :: cs) = midOf f c ++ mids f cs := rfl
    rw [e]
    refine ⟨?_, fun x hx => ?_, fun ⟨d, hd, h⟩ => ?_⟩
    · rw [List.flatten_cons]
      exact a1.append b1
    · rcases List.mem_append.mp hx with h | h
      · exact a2 x h
      · exact b2 x h
    · intro z
      obtain ⟨z1, z2⟩ := List.append_eq_nil_iff.mp z
      rcases List.mem_cons.mp hd with rfl | hd
      · exact a3 h z1
      · exact b3 ⟨d, hd, h⟩ z2
/-- what is asked, answered rightly: some more -/
def moreA (hs asks : List Int) : List (Int × Bool) := asks.map fun v => (v, hs.contains v)
structure AnsI (ws : List Int) (hs : List Int) (ans : List (Int × Bool)) : Prop where
  r : RightA ws hs ans
  nd : (ans.map (·.1)).Nodup
theorem AnsI.len (g : Good ws ls) (a : AnsI ws hs ans) : ans.length ≤ ws.length := by
  have := length_sub (vs := ws) a.nd fun x hx => by
    obtain ⟨e, he, rfl⟩ := List.mem_map.mp hx
    exact (a.r e he).1
  rw [List.length_map] at this
  exact this
theorem moreA_map (hs asks : List Int) : (moreA hs asks).map (·.1) = asks := by
  unfold moreA
  rw [List.map_map]
  exact List.map_id _
theorem AnsI.step {cs : List (List Int)} {ap : List Int} (g : Good ws ls) (ok : CovOk ws ls cs ap) (a : AnsI ws hs ans) (few : Nat) : AnsI ws hs (ans ++ moreA hs ((mids (lfB ls ans) cs).take few)) ∧ ∀ x ∈ (mids (lfB ls ans) cs).take few, x ∈ ws ∧ lfB ls ans x = true ∧ x ∉ ans.map (·.1) := by
  obtain ⟨b1, b2, _⟩ := mids_sub (lfB ls ans) cs
  have sub : ∀ x ∈ (mids (lfB ls ans) cs).take few, x ∈ ws ∧ lfB ls ans x = true ∧ x ∉ ans.map (·.1) := fun x hx => by
    have hx := List.mem_of_mem_take hx
    exact ⟨(ok.mem x).mp (b1.subset hx), b2 x hx, lfB_new g (b2 x hx)⟩
  refine ⟨⟨fun e he => ?_, ?_⟩, sub⟩
  · rcases List.mem_append.mp he with he | he
    · exact a.r e he
    · obtain ⟨x, hx, rfl⟩ := List.mem_map.mp he
      exact ⟨(sub x hx).1, rfl⟩
  · rw [List.map_append, moreA_map, List.nodup_append]
    refine ⟨a.nd, (ok.nd.sublist b1).sublist (List.take_sublist _ _), fun x hx y hy e => ?_⟩
    subst e
    exact (sub x hy).2.2 hx
theorem left_less {cs : List (List Int)} {ap : List Int} (g : Good ws ls) (ok : CovOk ws ls cs ap) {few : Nat} (hf : 1 ≤ few) : (ws.filter (lfB ls (ans ++ moreA hs ((mids (lfB ls ans) cs).take few)))).length ≤ (ws.filter (lfB ls ans)).length - 1 := by
  have nd := rising_nodup g.inc
  have sub : ∀ x ∈ ws.filter (lfB ls (ans ++ moreA hs ((mids (lfB ls ans) cs).take few))), x ∈ ws.filter (lfB ls ans) := fun x hx => by
    obtain ⟨h1, h2⟩ := List.mem_filter.mp hx
    exact List.mem_filter.mpr ⟨h1, lfB_mono g h2⟩
  by_cases e : ∃ v ∈ ws, lfB ls ans v = true
  · obtain ⟨v, hv, hl⟩ := e
    obtain ⟨c, hc, hvc⟩ := List.mem_flatten.mp ((ok.mem v).mpr hv)
    obtain ⟨b1, b2, b3⟩ := mids_sub (lfB ls ans) cs
    have ne := b3 ⟨c, hc, v, hvc, hl⟩
    obtain ⟨x, xs, ex⟩ := List.exists_cons_of_ne_nil ne
    have hx : x ∈ mids (lfB ls ans) cs := by rw [ex]; exact List.mem_cons_self ..
    have hxt : x ∈ (mids (lfB ls ans) cs).take few := by
      rw [ex]
      obtain ⟨f, rfl⟩ : ∃ f, few = f + 1 := ⟨few - 1, by omega⟩
      rw [List.take_succ_cons]
      exact List.mem_cons_self ..
    have hn : x ∉ ws.filter (lfB ls (ans ++ moreA hs ((mids (lfB ls ans) cs).take few))) := fun h => by
      have := lfB_new g (List.mem_filter.mp h).2
      rw [List.map_append, moreA_map] at this
      exact this (List.mem_append_right _ hxt)
    have := length_sub (fs := x :: ws.filter (lfB ls (ans ++ moreA hs ((mids (lfB ls ans) cs).take few)))) (vs := ws.filter (lfB ls ans)) (List.nodup_cons.mpr ⟨hn, nd.sublist List.filter_sublist⟩) fun y hy => by
      rcases List.mem_cons.mp hy with rfl | hy
      · exact List.mem_filter.mpr ⟨(ok.mem _).mp (b1.subset hx), b2 _ hx⟩
      · exact sub y hy
    rw [List.length_cons] at this
    omega
  · have z : ws.filter (lfB ls (ans ++ moreA hs ((mids (lfB ls ans) cs).take few))) = [] := by
      rw [List.eq_nil_iff_forall_not_mem]
      intro x hx
      obtain ⟨h1, h2⟩ := List.mem_filter.mp (sub x hx)
      exact e ⟨x, h1, h2⟩
    rw [z]
    exact Nat.zero_le _
/-! ### the holding at which each one apart must be asked -/
def dueL (ws : List Int) (ls : List (Int × Int)) (ap : List Int) : List Int := ws.filter fun v => (lower ls ap).contains v && !ap.contains v
theorem mem_dueL {cs : List (List Int)} {ap : List Int} (g : Good ws ls) (ok : CovOk ws ls cs ap) {v : Int} : v ∈ dueL ws ls ap ↔ v ∈ ws ∧ ∃ a ∈ ap, a ≠ v ∧ Dn ls a v := by
  unfold dueL
  rw [List.mem_filter, Bool.and_eq_true, Bool.not_eq_true', List.contains_iff_mem, mem_lower g]
  refine and_congr_right fun hv => ⟨fun ⟨⟨a, h1, h2⟩, h3⟩ => ⟨a, h1, fun e => ?_, h2⟩, fun ⟨a, h1, h2, h3⟩ => ⟨⟨a, h1, h3⟩, ?_⟩⟩
  · rw [e] at h1
    rw [List.contains_iff_mem.mpr h1] at h3
    cases h3
  · rw [Bool.eq_false_iff]
    intro h
    exact ok.apd a h1 v (List.contains_iff_mem.mp h) h2 h3
theorem due_closed {cs : List (List Int)} {ap : List Int} (g : Good ws ls) (ok : CovOk ws ls cs ap) : Closed ws ls (dueL ws ls ap) := fun v hv => by
  obtain ⟨h1, a, h2, h3, h4⟩ := (mem_dueL g ok).mp hv
  refine ⟨h1, fun u d => (mem_dueL g ok).mpr ⟨d.mem g h1, a, h2, fun e => ?_, h4.trans d⟩⟩
  subst e
  have := Dn.le g d
  have := Dn.le g h4
  omega
theorem apart_left {cs : List (List Int)} {ap : List Int} (g : Good ws ls) (ok : CovOk ws ls cs ap) (r : RightA ws (dueL ws ls ap) ans) {one : Int} (ho : one ∈ ap) (hn : one ∉ ans.map (·.1)) : lfB ls ans one = true := by
  refine (lfB_iff g).mpr ⟨fun ⟨s, h1, h2⟩ => ?_, fun ⟨u, h1, h2⟩ => ?_⟩
  · have hs := (mem_dueL g ok).mp (List.contains_iff_mem.mp (r _ h1).2.symm)
    obtain ⟨_, a, ha, ne, d⟩ := hs
    have ne1 : s ≠ one := fun e => hn (List.mem_map.mpr ⟨_, h1, e⟩)
    have hx : a ≠ one := fun e => by
      subst e
      have := Dn.le g d
      have := Dn.le g h2
      have d : Dn ls a s := d
      have l1 : s ≤ a := Dn.le g d
      exact ne1 (by omega)
    exact ok.apd a ha one ho hx (Dn.trans d h2)
  · have ne1 : one ≠ u := fun e => hn (List.mem_map.mpr ⟨_, h1, e.symm⟩)
    have : u ∈ dueL ws ls ap := (mem_dueL g ok).mpr ⟨(r _ h1).1, one, ho, ne1, h2⟩
    have h3 := (r _ h1).2
    have h3 : false = (dueL ws ls ap).contains u := h3
    rw [List.contains_iff_mem.mpr this] at h3
    cases h3
/-- all answered but one apart: just that one is left -/
def butOne (ws hs : List Int) (one : Int) : List (Int × Bool) := (ws.filter fun v => decide (v ≠ one)).map fun v => (v, hs.contains v)
theorem butOne_fst (ws hs : List Int) (one : Int) : (butOne ws hs one).map (·.1) = ws.filter fun v => decide (v ≠ one) := by
  unfold butOne
  rw [List.map_map]
  exact List.map_id _
theorem butOne_right (ws hs : List Int) (one : Int) : RightA ws hs (butOne ws hs one) := fun e he => by
  obtain ⟨v, hv, rfl⟩ := List.mem_map.mp he
  exact ⟨(List.mem_filter.mp hv).1, rfl⟩
theorem butOne_left {cs : List (List Int)} {ap : List Int} (g : Good ws ls) (ok : CovOk ws ls cs ap) {one : Int} (ho : one ∈ ap) : (ws.filter fun w => !hasB ls (butOne ws (dueL ws ls ap) one) w && !lacB ls (butOne ws (dueL ws ls ap) one) w) = [one] := by
  have hl : ∀ w, (!hasB ls (butOne ws (dueL ws ls ap) one) w && !lacB ls (butOne ws (dueL ws ls ap) one) w) = lfB ls (butOne ws (dueL ws ls ap) one) w := fun w => rfl
  refine rising_ext (g.inc.filter _) (List.pairwise_singleton _ _) fun x => ?_
  rw [List.mem_filter, List.mem_singleton, hl]
  refine ⟨fun ⟨h1, h2⟩ => ?_, fun e => ?_⟩
  · have := lfB_new g h2
    rw [butOne_fst, List.mem_filter] at this
    exact Decidable.byContradiction fun e => this ⟨h1, decide_eq_true e⟩
  · subst e
    refine ⟨ok.apm _ ho, apart_left g ok (butOne_right _ _ _) ho ?_⟩
    rw [butOne_fst, List.mem_filter]
    exact fun h => (of_decide_eq_true h.2) rfl
end
end Fw

set_option Elab.async false
set_option linter.all false
set_option maxRecDepth 100000
set_option maxHeartbeats 4000000
namespace Fw
open PySem L2 RZ RT
/-- which ones the k-th has links to -/
def isJ (pr : Int) (k J : Nat) : Prop := (pr = 1 ∧ ((J : Int) = (k : Int) - 3 + ((k : Int) + 1) % 2 ∨ (J : Int) = (k : Int) - 2 + ((k : Int) + 1) % 2)) ∨ (pr = 0 ∧ ((J : Int) = (k : Int) - 2 ∨ (J : Int) = (k : Int) - 1))
def OkW (a gp pr : Int) (i : Nat) (ls : List (Int × Int)) : Prop := ∀ k < i, ∀ J : Nat, isJ pr k J → (a + gp * (k : Int), a + gp * (J : Int)) ∈ ls
def GotW (a gp pr : Int) (i : Nat) (pv : Int) (xs : List V) (n : Nat) (ls : List (Int × Int)) : Prop := pr = pv → ∀ m < n, ∀ J : Nat, xs[m]? = some (V.int (J : Int)) → (a + gp * (i : Int), a + gp * (J : Int)) ∈ ls
theorem gotW0 {a gp pr : Int} {i : Nat} {pv : Int} {xs : List V} {ls : List (Int × Int)} : GotW a gp pr i pv xs 0 ls := fun _ m hm => absurd hm (Nat.not_lt_zero _)
theorem gotW_hit {a gp pr : Int} {i n J : Nat} {pv : Int} {xs : List V} {ls : List (Int × Int)} (h : GotW a gp pr i pv xs n ls) (hx : xs[n]? = some (V.int (J : Int))) : GotW a gp pr i pv xs (n + 1) (ls ++ [(a + gp * (i : Int), a + gp * (J : Int))]) := fun e m hm J' hJ => by
  rcases Nat.lt_or_eq_of_le (Nat.le_of_lt_succ hm) with q | q
  · exact List.mem_append_left _ (h e m q J' hJ)
  · subst q
    rw [hx] at hJ
    have := V.int.inj (Option.some.inj hJ)
    rw [this]
    exact List.mem_append_right _ (List.mem_singleton.mpr rfl)
theorem gotW_neg {a gp pr j : Int} {i n : Nat} {pv : Int} {xs : List V} {ls : List (Int × Int)} (h : GotW a gp pr i pv xs n ls) (hx : xs[n]? = some (V.int j)) (hj : ¬ 0 ≤ j) : GotW a gp pr i pv xs (n + 1) ls := fun e m hm J hJ => by
  rcases Nat.lt_or_eq_of_le (Nat.le_of_lt_succ hm) with q | q
  · exact h e m q J hJ
  · subst q
    rw [hx] at hJ
    have := V.int.inj (Option.some.inj hJ)
    omega
theorem okW_step {a gp pr : Int} {i : Nat} {lsB ls : List (Int × Int)} (ok : OkW a gp pr i lsB) (gA : GotW a gp pr i 1 [V.int ((i : Int) - 3 + ((i : Int) + 1) % 2), V.int ((i : Int) - 2 + ((i : Int) + 1) % 2)] 2 lsB) (sb : ∀ l ∈ lsB, l ∈ ls) (gB : GotW a gp pr i 0 [V.int ((i : Int) - 2), V.int ((i : Int) - 1)] 2 ls) : OkW a gp pr (i + 1) ls := fun k hk J hJ => by
  rcases Nat.lt_or_eq_of_le (Nat.le_of_lt_succ hk) with q | q
  · exact sb _ (ok k q J hJ)
  · subst q
    rcases hJ with ⟨e, h | h⟩ | ⟨e, h | h⟩
    · exact sb _ (gA e 0 (by decide) J (by rw [h]; rfl))
    · exact sb _ (gA e 1 (by decide) J (by rw [h]; rfl))
    · exact gB e 0 (by decide) J (by rw [h]; rfl)
    · exact gB e 1 (by decide) J (by rw [h]; rfl)
/-- a ladder's links -/
def LadL (ws : List Int) (ls : List (Int × Int)) : Prop := ls.length ≤ 4000 ∧ ∃ (a gp pr : Int) (N : Nat), ws = vsL a gp N ∧ 0 ≤ pr ∧ pr < 2 ∧ OkW a gp pr N ls
abbrev sp_l_ladderW (_ : PySem.W.Frag) : Sp := sp_mkshape 60 4000 (fun most n => (n : Int) ≤ most) LadL
theorem len_l_ladderW {K : PySem.W.Frag} {vs : List V} {H : Hp} {Q : VK} {E : XK} (h : sp_l_ladderW K vs H Q E) : vs.length = 2 := len_mkshape h
theorem ladW_dn {a gp pr : Int} {N : Nat} {ls : List (Int × Int)} (p0 : 0 ≤ pr) (p1 : pr < 2) (ok : OkW a gp pr N ls) : ∀ (j i : Nat), j < N → i / 2 < j / 2 → Dn ls (a + gp * (j : Int)) (a + gp * (i : Int)) := fun j => by
  induction j using Nat.strongRecOn with
  | ind j ih =>
    intro i hj h
    have hp : pr = 1 ∨ pr = 0 := by omega
    -- the two of the pair ahead
    have step : ∀ m : Nat, m / 2 + 1 = j / 2 → Dn ls (a + gp * (j : Int)) (a + gp * (m : Int)) := fun m hm => by
      rcases hp with e | e
      · refine .step (ok j hj m (.inl ⟨e, ?_⟩)) (.refl _)
        omega
      · -- in one row: by steps of one and two
        have one : ∀ k : Nat, 1 ≤ k → k < N → Dn ls (a + gp * (k : Int)) (a + gp * ((k - 1 : Nat) : Int)) := fun k h1 h2 => .step (ok k h2 (k - 1) (.inr ⟨e, by omega⟩)) (.refl _)
        have down : ∀ d k : Nat, d ≤ k → k < N → Dn ls (a + gp * (k : Int)) (a + gp * ((k - d : Nat) : Int)) := fun d => by
          induction d with
          | zero => intro k _ _; exact .refl _
          | succ d ihd =>
            intro k h1 h2
            have q := one k (by omega) h2
            have q2 := ihd (k - 1) (by omega) (by omega)
            rw [show k - 1 - d = k - (d + 1) by omega] at q2
            exact q.trans q2
        have := down (j - m) j (by omega) hj
        rw [show j - (j - m) = m by omega] at this
        exact this
    by_cases hq : i / 2 + 1 = j / 2
    · exact step i hq
    · have q1 := step (2 * (j / 2) - 1) (by omega)
      have q2 := ih (2 * (j / 2) - 1) (by omega) i (by omega) (by omega)
      exact q1.trans q2
/-- no more than two apart -/
theorem ladW_apart {ws : List Int} {ls : List (Int × Int)} (h : LadL ws ls) {ap : List Int} (apm : ∀ x ∈ ap, x ∈ ws) (api : ap.Pairwise (· < ·)) (apd : ∀ x ∈ ap, ∀ y ∈ ap, x ≠ y → ¬ Dn ls x y) : ap.length ≤ 2 := by
  obtain ⟨_, a, gp, pr, N, rfl, p0, p1, ok⟩ := h
  match ap, apm, api, apd with
  | [], _, _, _ => exact Nat.zero_le _
  | [_], _, _, _ => show (1 : Nat) ≤ 2; decide
  | [_, _], _, _, _ => exact Nat.le_refl _
  | x :: y :: z :: r, apm, api, apd =>
    exfalso
    have mx : x ∈ x :: y :: z :: r := List.mem_cons_self ..
    have my : y ∈ x :: y :: z :: r := List.mem_cons_of_mem _ (List.mem_cons_self ..)
    have mz : z ∈ x :: y :: z :: r := List.mem_cons_of_mem _ (List.mem_cons_of_mem _ (List.mem_cons_self ..))
    obtain ⟨i, hi, rfl⟩ := vsL_mem (apm x mx)
    obtain ⟨j, hj, rfl⟩ := vsL_mem (apm y my)
    obtain ⟨k, hk, rfl⟩ := vsL_mem (apm z mz)
    have l1 := (List.pairwise_cons.mp api).1 _ (List.mem_cons_self ..)
    have l2 := (List.pairwise_cons.mp (List.pairwise_cons.mp api).2).1 _ (List.mem_cons_self ..)
    have same : ∀ {u v : Nat}, u < N → v < N → a + gp * (u : Int) ∈ (a + gp * (i : Int)) :: (a + gp * (j : Int)) :: (a + gp * (k : Int)) :: r → a + gp * (v : Int) ∈ (a + gp * (i : Int)) :: (a + gp * (j : Int)) :: (a + gp * (k : Int)) :: r → a + gp * (u : Int) ≠ a + gp * (v : Int) → u / 2 = v / 2 := fun {u v} hu hv mu mv ne => by
      rcases Nat.lt_trichotomy (u / 2) (v / 2) with q | q | q
      · exact absurd (ladW_dn p0 p1 ok v u hv q) (apd _ mv _ mu ne.symm)
      · exact q
      · exact absurd (ladW_dn p0 p1 ok u v hu q) (apd _ mu _ mv ne)
    have e1 := same hi hj mx my (by omega)
    have e2 := same hj hk my mz (by omega)
    have n1 : i ≠ j := fun e => by rw [e] at l1; omega
    have n2 : j ≠ k := fun e => by rw [e] at l2; omega
    have n3 : i ≠ k := fun e => by rw [e] at l1; omega
    omega
/-- the state of a loop over two -/
def LadW (lsO : List (Int × Int)) (xs : List V) (H : Hp) (c D LL : Addr) (ns : List Int) (most a gp pr many : Int) (t i : Nat) (pv : Int) (j0 : Nat) (ix : Nat → Nat) (add : Nat) (n : Nat) (σ : L2.St) (H' : Hp) : Prop := ∃ (rs : List Addr) (ls : List (Int × Int)) (z8 : Option V),
  σ = [some (.ref D), some (.int most), some (.int a), some (.int gp), some (.int pr), some (.int many), some (.ref LL), some (.int (0 + (i : Int))), z8] ∧ LI H c D LL ns (t + 4) rs ls H' ∧ GI (vsL a gp i) ls (a + gp * (i : Int)) (if pr = pv then ix n else j0) ∧ ls.length ≤ 4 * i + add + n ∧ (∀ l ∈ lsO, l ∈ ls) ∧ GotW a gp pr i pv xs n ls
theorem pure_l_ladderW {K : PySem.W.Frag} {vs : List V} {H : Hp} {Q : VK} {E : XK} (h : sp_l_ladderW K vs H Q E) : t_l_ladder K { nx := fun _ H' => Q .non H', rt := Q } (start N_l_ladder vs) H := by
  obtain ⟨c, D, ns, t, most, rfl, dk, m0, m1, ht, k⟩ := h
  refine ⟨_, rfl, _, _, rfl, rfl, ⟨by decide, by decide, by decide⟩, c, D, ns, t, _, rfl, dk, by omega, by rw [pow6]; decide, by rw [pow6]; decide, fun a H1 a0 a1 d1 fr1 => ?_⟩
  rw [pow6] at a1
  refine ⟨_, rfl, c, D, ns, _, 3, rfl, d1, by omega, by decide, by decide, fun g1 H2 g10 g11 d2 fr2 => ⟨_, _, rfl, rfl, ?_⟩⟩
  refine ⟨_, rfl, c, D, ns, _, 2, rfl, d2, by omega, by decide, by decide, fun pr H3 p0 p1 d3 fr3 => ?_⟩
  refine ⟨_, rfl, _, _, rfl, rfl, ⟨by decide, by decide⟩, _, rfl, _, rfl, _, _, rfl, rfl, ⟨by decide, by decide⟩, _, _, rfl, rfl, c, D, ns, _, most / 2 + 1, rfl, d3, by omega, by omega, small100 (by omega), fun x H4 x0 x1 d4 fr4 => ⟨_, _, rfl, rfl, ?_⟩⟩
  have k4 : Kp D H H4 := (((Kp.fr fr1).trans (.fr fr2)).trans (.fr fr3)).trans (.fr fr4)
  obtain ⟨N, hN⟩ := Int.eq_ofNat_of_zero_le (show 0 ≤ most / 2 + x by omega)
  obtain ⟨gp, hgp⟩ : ∃ gp, gp = 1 + g1 := ⟨_, rfl⟩
  have gp0 : 1 ≤ gp := by omega
  have gp1 : gp ≤ 3 := by omega
  refine ⟨Nat.zero_le _, fun LL nL => ?_⟩
  show t_l_ladder_loop K _ [some (.ref D), some (.int most), some (.int a), some (.int (1 + g1)), some (.int pr), some (.int (most / 2 + x)), some (.ref LL), none, none] _
  rw [← hgp]
  generalize hmany : most / 2 + x = many at *
  have s0 : LI H c D LL ns (t + 4) [] [] (upd H4 LL (.lst [])) := ⟨d4.upd (d4.neC nL) (d4.neD nL), k4.trans (.new nL), updS, ⟨rfl, fun i b l h1 _ => by cases h1⟩, ⟨t, dk⟩, k4.free nL (d4.neD nL)⟩
  refine ⟨_, rfl, _, rfl, by omega, by omega, ?_⟩
  have eN : many.toNat = N := by omega
  rw [eN]
  refine for_range (lo := 0) (n := N) (fun i σ H' => ∃ (rs : List Addr) (ls : List (Int × Int)) (z7 z8 : Option V), σ = [some (.ref D), some (.int most), some (.int a), some (.int gp), some (.int pr), some (.int many), some (.ref LL), z7, z8] ∧ LI H c D LL ns (t + 4) rs ls H' ∧ Good (vsL a gp i) ls ∧ ls.length ≤ 4 * i ∧ OkW a gp pr i ls) ?_ ?_ ?_
  · exact ⟨[], [], none, none, rfl, s0, good_nil, Nat.le_refl _, fun k hk => absurd hk (Nat.not_lt_zero _)⟩
  · rintro i σ H5 hi ⟨rs, lsA, z7, z8, rfl, s, g, hlen, okA⟩
    have g0 : GI (vsL a gp i) lsA (a + gp * (i : Int)) 0 := .open g (fun v hv => by
      obtain ⟨kk, hk, rfl⟩ := vsL_mem hv
      exact mono_g (by omega) hk) (by
      have := Int.mul_nonneg (show 0 ≤ gp by omega) (show (0 : Int) ≤ (i : Int) by omega)
      omega)
    have e0 : (0 : Int) + (i : Int) = (i : Int) := Int.zero_add _
    have pickA : ∀ (n : Nat) (x : V), [V.int ((i : Int) - 3 + ((i : Int) + 1) % 2), V.int ((i : Int) - 2 + ((i : Int) + 1) % 2)][n]? = some x → ∃ j : Int, x = .int j ∧ (j < (i : Int)) ∧ ix2 ((i : Int) - 3 + ((i : Int) + 1) % 2) ((i : Int) - 2 + ((i : Int) + 1) % 2) n ≤ j.toNat ∧ (j + 1).toNat ≤ ix2 ((i : Int) - 3 + ((i : Int) + 1) % 2) ((i : Int) - 2 + ((i : Int) + 1) % 2) (n + 1) := by
      intro n x hx
      match n, hx with
      | 0, hx => exact ⟨_, (Option.some.inj hx).symm, by omega, by show 0 ≤ _; omega, Nat.le_refl _⟩
      | 1, hx => exact ⟨_, (Option.some.inj hx).symm, by omega, by show ((i : Int) - 3 + ((i : Int) + 1) % 2 + 1).toNat ≤ _; omega, Nat.le_refl _⟩
      | n + 2, hx => simp at hx
    have pickB : ∀ (n : Nat) (x : V), [V.int ((i : Int) - 2), V.int ((i : Int) - 1)][n]? = some x → ∃ j : Int, x = .int j ∧ (j < (i : Int)) ∧ ix2 ((i : Int) - 2) ((i : Int) - 1) n ≤ j.toNat ∧ (j + 1).toNat ≤ ix2 ((i : Int) - 2) ((i : Int) - 1) (n + 1) := by
      intro n x hx
      match n, hx with
      | 0, hx => exact ⟨_, (Option.some.inj hx).symm, by omega, by show 0 ≤ _; omega, Nat.le_refl _⟩
      | 1, hx => exact ⟨_, (Option.some.inj hx).symm, by omega, by show ((i : Int) - 2 + 1).toNat ≤ _; omega, Nat.le_refl _⟩
      | n + 2, hx => simp at hx
    have second : ∀ (jz : Nat) (rs : List Addr) (ls : List (Int × Int)) (z8 : Option V) (H6 : Hp) (Dd : Ends), (∀ (rs : List Addr) (ls : List (Int × Int)) (z7 z8 : Option V) (H' : Hp), LI H c D LL ns (t + 4) rs ls H' → Good (vsL a gp (i + 1)) ls → ls.length ≤ 4 * (i + 1) → OkW a gp pr (i + 1) ls → Dd.nx [some (.ref D), some (.int most), some (.int a), some (.int gp), some (.int pr), some (.int many), some (.ref LL), z7, z8] H') →
        LI H c D LL ns (t + 4) rs ls H6 → GI (vsL a gp i) ls (a + gp * (i : Int)) (if pr = 0 then 0 else jz) → ls.length ≤ 4 * i + 2 → OkW a gp pr i ls → GotW a gp pr i 1 [V.int ((i : Int) - 3 + ((i : Int) + 1) % 2), V.int ((i : Int) - 2 + ((i : Int) + 1) % 2)] 2 ls → t_l_ladder_b K Dd [some (.ref D), some (.int most), some (.int a), some (.int gp), some (.int pr), some (.int many), some (.ref LL), some (.int (0 + (i : Int))), z8] H6 := by
      intro jz rs lsB z8 H6 Dd kd s5 g5 hl5 okB gotA
      refine ⟨_, rfl, _, _, rfl, rfl, _, rfl, _, _, rfl, rfl, (by show (2 : Nat) ≤ sizeLine; decide), fun q nq => ⟨q, rfl, ⟨_, sqL updS⟩, ?_⟩⟩
      have ex : [V.int (0 + (i : Int) - 2), V.int (0 + (i : Int) - 1)] = [V.int ((i : Int) - 2), V.int ((i : Int) - 1)] := by rw [e0]
      have sq : LI H c D LL ns (t + 4) rs lsB (upd H6 q (.lst [V.int ((i : Int) - 2), V.int ((i : Int) - 1)])) := s5.new nq
      have nqL : q ≠ LL := (ne_of_none s5.hl nq).symm
      show ∃ W : Nat → Nat → L2.St → Hp → Prop, (∃ m, W 0 m _ (upd H6 q (.lst [V.int (0 + (i : Int) - 2), V.int (0 + (i : Int) - 1)]))) ∧ _
      rw [ex]
      refine for_list (K := K) (a := q) (xs := [V.int ((i : Int) - 2), V.int ((i : Int) - 1)]) (fun n σ H' => LadW lsB [V.int ((i : Int) - 2), V.int ((i : Int) - 1)] H c D LL ns most a gp pr many t i 0 jz (ix2 ((i : Int) - 2) ((i : Int) - 1)) 2 n σ H' ∧ H' q = some (.lst [V.int ((i : Int) - 2), V.int ((i : Int) - 1)])) ?_ ?_ ?_ ?_
      · exact ⟨⟨rs, lsB, z8, rfl, sq, g5, hl5, fun l h => h, gotW0⟩, updS⟩
      · rintro n σ H' _ ⟨_, hq⟩
        exact sqL hq
      · rintro n x σ H6 hx ⟨⟨rs, ls, z8, rfl, s6, g6, hl6, sb, gt⟩, hq6⟩
        have hn2 : n < 2 := (List.getElem?_eq_some_iff.mp hx).1
        obtain ⟨j, rfl, hj1, hj2, hj3⟩ := pickB n x hx
        have nxt : ∀ (rs : List Addr) (ls : List (Int × Int)) (H7 : Hp), LI H c D LL ns (t + 4) rs ls H7 → GI (vsL a gp i) ls (a + gp * (i : Int)) (if pr = 0 then (ix2 ((i : Int) - 2) ((i : Int) - 1)) (n + 1) else jz) → ls.length ≤ 4 * i + 2 + n + 1 → (∀ l ∈ lsB, l ∈ ls) → GotW a gp pr i 0 [V.int ((i : Int) - 2), V.int ((i : Int) - 1)] (n + 1) ls → H7 q = some (.lst [V.int ((i : Int) - 2), V.int ((i : Int) - 1)]) → LadW lsB [V.int ((i : Int) - 2), V.int ((i : Int) - 1)] H c D LL ns most a gp pr many t i 0 jz (ix2 ((i : Int) - 2) ((i : Int) - 1)) 2 (n + 1) [some (.ref D), some (.int most), some (.int a), some (.int gp), some (.int pr), some (.int many), some (.ref LL), some (.int (0 + (i : Int))), some (.int j)] H7 ∧ H7 q = some (.lst [V.int ((i : Int) - 2), V.int ((i : Int) - 1)]) := fun rs ls H7 s7 g7 hl7 sb7 gt7 hq7 => ⟨⟨rs, ls, _, rfl, s7, g7, by omega, sb7, gt7⟩, hq7⟩
        refine ⟨_, rfl, rfl, _, rfl, ite2 (fun e => ?_) (fun e => ?_)⟩
        · have e1 : pr = 0 := V.int.inj (of_decide_eq_true e)
          rw [if_pos e1] at g6
          refine ⟨_, rfl, _, _, rfl, rfl, _, rfl, ite2 (fun e2 => ?_) (fun e2 => ?_)⟩
          · have j0 : 0 ≤ j := of_decide_eq_true e2
            obtain ⟨J, rfl⟩ := Int.eq_ofNat_of_zero_le j0
            have gj : GI (vsL a gp i) ls (a + gp * (i : Int)) J := g6.le (by omega)
            have wj : (vsL a gp i)[J]? = some (a + gp * (J : Int)) := vsL_get (by omega)
            refine ⟨_, rfl, .inl ⟨rfl, _, sqL s6.hl⟩, _, rfl, _, rfl, _, rfl, _, _, rfl, rfl, .inl ⟨by omega, by omega⟩, _, _, rfl, rfl, _, rfl, _, rfl, _, rfl, _, _, rfl, rfl, .inl ⟨by omega, by omega⟩, _, _, rfl, rfl, (by show (2 : Nat) ≤ sizeLine; decide), fun T nT => ?_⟩
            rw [e0]
            have s8 : LI H c D LL ns (t + 4) rs ls (upd H6 T (.tup [.int (a + gp * (i : Int)), .int (a + gp * (J : Int))])) := s6.new nT
            refine ⟨LL, _, _, rfl, rfl, s8.hl, ?_, ?_⟩
            · rw [List.length_map, s6.pr.1]
              exact Nat.lt_of_le_of_lt (show ls.length ≤ 1000 by omega) (by decide)
            · have h9 := nxt (rs ++ [T]) (ls ++ [(a + gp * (i : Int), a + gp * (J : Int))]) _ (s8.addL (l := (a + gp * (i : Int), a + gp * (J : Int))) updS) (by rw [if_pos e1]; exact (gj.hit wj).le (by omega)) (by rw [List.length_append, List.length_singleton]; omega) (fun l hl => List.mem_append_left _ (sb l hl)) (gotW_hit gt hx) (updN nqL (updN (ne_of_none hq6 nT) hq6))
              rw [e0] at h9
              exact h9
          · have j0 : ¬ 0 ≤ j := fun z => e2 (decide_eq_true z)
            exact nxt rs ls H6 s6 (by rw [if_pos e1]; exact g6.le (by omega)) (by omega) sb (gotW_neg gt hx j0) hq6
        · have e1 : ¬ pr = 0 := fun z => e (decide_eq_true (by rw [z]))
          rw [if_neg e1] at g6
          exact iteF (nxt rs ls H6 s6 (by rw [if_neg e1]; exact g6) (by omega) sb (fun z => absurd z e1) hq6)
      · rintro σ H' ⟨⟨rs, ls, z8, rfl, s6, g6, hl6, sb, gt⟩, _⟩
        refine kd rs ls _ _ H' s6 ?_ (by show _ ≤ _; have : [V.int ((i : Int) - 2), V.int ((i : Int) - 1)].length = 2 := rfl; omega) (okW_step okB gotA sb gt)
        rw [vsL_snoc]
        exact g6.close
    refine ⟨_, rfl, _, _, rfl, rfl, _, rfl, _, _, rfl, rfl, _, _, rfl, rfl, (by show (0 : Int) < 2; decide), _, _, rfl, rfl, _, rfl, _, _, rfl, rfl, _, rfl, _, _, rfl, rfl, _, _, rfl, rfl, (by show (0 : Int) < 2; decide), _, _, rfl, rfl, (by show (2 : Nat) ≤ sizeLine; decide), fun q nq => ⟨q, rfl, ⟨_, sqL updS⟩, ?_⟩⟩
    have ex : [V.int (0 + (i : Int) - 3 + (0 + (i : Int) + 1) % 2), V.int (0 + (i : Int) - 2 + (0 + (i : Int) + 1) % 2)] = [V.int ((i : Int) - 3 + ((i : Int) + 1) % 2), V.int ((i : Int) - 2 + ((i : Int) + 1) % 2)] := by rw [e0]
    have sq : LI H c D LL ns (t + 4) rs lsA (upd H5 q (.lst [V.int ((i : Int) - 3 + ((i : Int) + 1) % 2), V.int ((i : Int) - 2 + ((i : Int) + 1) % 2)])) := s.new nq
    have nqL : q ≠ LL := (ne_of_none s.hl nq).symm
    show ∃ W : Nat → Nat → L2.St → Hp → Prop, (∃ m, W 0 m _ (upd H5 q (.lst [V.int (0 + (i : Int) - 3 + (0 + (i : Int) + 1) % 2), V.int (0 + (i : Int) - 2 + (0 + (i : Int) + 1) % 2)]))) ∧ _
    rw [ex]
    refine for_list (K := K) (a := q) (xs := [V.int ((i : Int) - 3 + ((i : Int) + 1) % 2), V.int ((i : Int) - 2 + ((i : Int) + 1) % 2)]) (fun n σ H' => LadW lsA [V.int ((i : Int) - 3 + ((i : Int) + 1) % 2), V.int ((i : Int) - 2 + ((i : Int) + 1) % 2)] H c D LL ns most a gp pr many t i 1 0 (ix2 ((i : Int) - 3 + ((i : Int) + 1) % 2) ((i : Int) - 2 + ((i : Int) + 1) % 2)) 0 n σ H' ∧ H' q = some (.lst [V.int ((i : Int) - 3 + ((i : Int) + 1) % 2), V.int ((i : Int) - 2 + ((i : Int) + 1) % 2)])) ?_ ?_ ?_ ?_
    · refine ⟨⟨rs, lsA, z8, rfl, sq, ?_, hlen, fun l h => h, gotW0⟩, updS⟩
      split <;> exact g0
    · rintro n σ H' _ ⟨_, hq⟩
      exact sqL hq
    · rintro n x σ H6 hx ⟨⟨rs, ls, z8, rfl, s6, g6, hl6, sb, gt⟩, hq6⟩
      have hn2 : n < 2 := (List.getElem?_eq_some_iff.mp hx).1
      obtain ⟨j, rfl, hj1, hj2, hj3⟩ := pickA n x hx
      have nxt : ∀ (rs : List Addr) (ls : List (Int × Int)) (H7 : Hp), LI H c D LL ns (t + 4) rs ls H7 → GI (vsL a gp i) ls (a + gp * (i : Int)) (if pr = 1 then (ix2 ((i : Int) - 3 + ((i : Int) + 1) % 2) ((i : Int) - 2 + ((i : Int) + 1) % 2)) (n + 1) else 0) → ls.length ≤ 4 * i + 0 + n + 1 → (∀ l ∈ lsA, l ∈ ls) → GotW a gp pr i 1 [V.int ((i : Int) - 3 + ((i : Int) + 1) % 2), V.int ((i : Int) - 2 + ((i : Int) + 1) % 2)] (n + 1) ls → H7 q = some (.lst [V.int ((i : Int) - 3 + ((i : Int) + 1) % 2), V.int ((i : Int) - 2 + ((i : Int) + 1) % 2)]) → LadW lsA [V.int ((i : Int) - 3 + ((i : Int) + 1) % 2), V.int ((i : Int) - 2 + ((i : Int) + 1) % 2)] H c D LL ns most a gp pr many t i 1 0 (ix2 ((i : Int) - 3 + ((i : Int) + 1) % 2) ((i : Int) - 2 + ((i : Int) + 1) % 2)) 0 (n + 1) [some (.ref D), some (.int most), some (.int a), some (.int gp), some (.int pr), some (.int many), some (.ref LL), some (.int (0 + (i : Int))), some (.int j)] H7 ∧ H7 q = some (.lst [V.int ((i : Int) - 3 + ((i : Int) + 1) % 2), V.int ((i : Int) - 2 + ((i : Int) + 1) % 2)]) := fun rs ls H7 s7 g7 hl7 sb7 gt7 hq7 => ⟨⟨rs, ls, _, rfl, s7, g7, by omega, sb7, gt7⟩, hq7⟩
      refine ⟨_, rfl, rfl, _, rfl, ite2 (fun e => ?_) (fun e => ?_)⟩
      · have e1 : pr = 1 := V.int.inj (of_decide_eq_true e)
        rw [if_pos e1] at g6
        refine ⟨_, rfl, _, _, rfl, rfl, _, rfl, ite2 (fun e2 => ?_) (fun e2 => ?_)⟩
        · have j0 : 0 ≤ j := of_decide_eq_true e2
          obtain ⟨J, rfl⟩ := Int.eq_ofNat_of_zero_le j0
          have gj : GI (vsL a gp i) ls (a + gp * (i : Int)) J := g6.le (by omega)
          have wj : (vsL a gp i)[J]? = some (a + gp * (J : Int)) := vsL_get (by omega)
          refine ⟨_, rfl, .inl ⟨rfl, _, sqL s6.hl⟩, _, rfl, _, rfl, _, rfl, _, _, rfl, rfl, .inl ⟨by omega, by omega⟩, _, _, rfl, rfl, _, rfl, _, rfl, _, rfl, _, _, rfl, rfl, .inl ⟨by omega, by omega⟩, _, _, rfl, rfl, (by show (2 : Nat) ≤ sizeLine; decide), fun T nT => ?_⟩
          rw [e0]
          have s8 : LI H c D LL ns (t + 4) rs ls (upd H6 T (.tup [.int (a + gp * (i : Int)), .int (a + gp * (J : Int))])) := s6.new nT
          refine ⟨LL, _, _, rfl, rfl, s8.hl, ?_, ?_⟩
          · rw [List.length_map, s6.pr.1]
            exact Nat.lt_of_le_of_lt (show ls.length ≤ 1000 by omega) (by decide)
          · have h9 := nxt (rs ++ [T]) (ls ++ [(a + gp * (i : Int), a + gp * (J : Int))]) _ (s8.addL (l := (a + gp * (i : Int), a + gp * (J : Int))) updS) (by rw [if_pos e1]; exact (gj.hit wj).le (by omega)) (by rw [List.length_append, List.length_singleton]; omega) (fun l hl => List.mem_append_left _ (sb l hl)) (gotW_hit gt hx) (updN nqL (updN (ne_of_none hq6 nT) hq6))
            rw [e0] at h9
            exact h9
        · have j0 : ¬ 0 ≤ j := fun z => e2 (decide_eq_true z)
          exact nxt rs ls H6 s6 (by rw [if_pos e1]; exact g6.le (by omega)) (by omega) sb (gotW_neg gt hx j0) hq6
      · have e1 : ¬ pr = 1 := fun z => e (decide_eq_true (by rw [z]))
        rw [if_neg e1] at g6
        exact iteF (nxt rs ls H6 s6 (by rw [if_neg e1]; exact g6) (by omega) sb (fun z => absurd z e1) hq6)
    · rintro σ H' ⟨⟨rs, ls, z8, rfl, s6, g6, hl6, sb, gt⟩, _⟩
      refine second (ix2 ((i : Int) - 3 + ((i : Int) + 1) % 2) ((i : Int) - 2 + ((i : Int) + 1) % 2) 2) rs ls z8 H' _ (fun rs ls z7 z8 H' s9 g9 h9 o9 => ⟨rs, ls, z7, z8, rfl, s9, g9, h9, o9⟩) s6 ?_ (by have : [V.int ((i : Int) - 3 + ((i : Int) + 1) % 2), V.int ((i : Int) - 2 + ((i : Int) + 1) % 2)].length = 2 := rfl; omega) (fun k hk J hJ => sb _ (okA k hk J hJ)) gt
      by_cases hp0 : pr = 0
      · rw [if_pos hp0]
        rw [if_neg (show ¬ pr = 1 by omega)] at g6
        exact g6
      · rw [if_neg hp0]
        rw [if_pos (show pr = 1 by omega)] at g6
        exact g6
  · rintro σ H5 ⟨rs, ls, z7, z8, rfl, s, g, hlen, okZ⟩
    refine ⟨_, rfl, _, rfl, by omega, by omega, fun LV nV => ?_⟩
    have eN2 : many.toNat = N := by omega
    rw [eN2]
    refine lc_mapR (lo := 0) (n := N) (ys := (vsL a gp N).map V.int) (by rw [List.length_map, vsL_length]) (by omega) (fun i y acc R hi hy r => ?_) ?_ mono_yes mono_gName
    · rw [List.getElem?_map, vsL_get hi] at hy
      cases Option.some.inj hy
      refine ⟨rfl, ⟨_, rfl, _, rfl, _, rfl, _, _, rfl, rfl, .inl ⟨by omega, by omega⟩, _, _, rfl, rfl, ?_⟩⟩
      rw [Int.zero_add]
      exact r
    · have sV : LI H c D LL ns (t + 4) rs ls (upd H5 LV (.lst ((vsL a gp N).map V.int))) := s.new nV
      refine ⟨LV, _, rfl, .inl ⟨sqL updS, fun p np => ?_⟩⟩
      have s1 : LI H c D LL ns (t + 4) rs ls (upd (upd H5 LV (.lst ((vsL a gp N).map V.int))) p (.tup ((vsL a gp N).map V.int))) := sV.new np
      refine ⟨_, rfl, LL, _, rfl, .inl ⟨sqL s1.hl, fun r nr => ⟨by show (2 : Nat) ≤ sizeLine; decide, fun w nw => ?_⟩⟩⟩
      have s2 := s1.new (o := .tup (rs.map V.ref)) nr
      have s3 := s2.new (o := .tup [.ref p, .ref r]) nw
      have npr : p ≠ r := fun e => by rw [← e, updS] at nr; cases nr
      have npw : p ≠ w := fun e => by rw [← e, upd_ne npr, updS] at nw; cases nw
      have nrw : r ≠ w := fun e => by rw [← e, updS] at nw; cases nw
      exact k w (vsL a gp N) ls _ s3.keep (s3.dk.le (by omega)) ⟨p, r, rs, updS, updN npw (updN npr updS), updN nrw updS, s3.pr⟩ g (show (((vsL a gp N).length : Nat) : Int) ≤ most by rw [vsL_length]; omega) (show LadL (vsL a gp N) ls from ⟨by omega, a, gp, pr, N, rfl, by omega, by omega, okZ⟩)
end Fw

set_option Elab.async false
set_option linter.all false
set_option maxRecDepth 100000
set_option maxHeartbeats 4000000
namespace Fw
open PySem L2 RZ RT
/-! ### no more asks than the chains' figures by 0 and 1 -/
def bn (n : Nat) : Nat := Builtin.Int.intBits (n : Int)
theorem bn_zero : bn 0 = 0 := rfl
theorem bn_half {n : Nat} (h : 0 < n) : bn n = 1 + bn (n / 2) := by
  have e : ∀ m : Nat, 0 < m → Builtin.Int.intBits (m : Int) = m.log2 + 1 := fun m hm => by
    unfold Builtin.Int.intBits
    rw [if_neg (by simpa using (show m ≠ 0 by omega)), Int.natAbs_natCast]
  unfold bn
  rw [e n h]
  by_cases h2 : n / 2 = 0
  · have h1 : n = 1 := by omega
    subst h1
    rfl
  · rw [e (n / 2) (by omega)]
    have : n.log2 = (n / 2).log2 + 1 := by
      rw [Nat.log2_def n, if_pos (by omega)]
    omega
theorem bn_mono : ∀ {b a : Nat}, a ≤ b → bn a ≤ bn b := fun {b} => by
  induction b using Nat.strongRecOn with
  | ind b ih =>
    intro a h
    by_cases h0 : a = 0
    · rw [h0]
      exact Nat.zero_le _
    · rw [bn_half (show 0 < a by omega), bn_half (show 0 < b by omega)]
      have := ih (b / 2) (by omega) (show a / 2 ≤ b / 2 by omega)
      omega
theorem bn_le : ∀ n : Nat, bn n ≤ n := fun n => by
  induction n using Nat.strongRecOn with
  | ind n ih =>
    by_cases h0 : n = 0
    · rw [h0]
      exact Nat.le_refl _
    · rw [bn_half (show 0 < n by omega)]
      have := ih (n / 2) (by omega)
      omega
def bsum (cs : List (List Int)) : Nat := (cs.map fun c => bn c.length).sum
def pot (f : Int → Bool) (cs : List (List Int)) : Nat := (cs.map fun c => bn (c.filter f).length).sum
section
variable {ws hs : List Int} {ls : List (Int × Int)} {ans : List (Int × Bool)}
theorem chain_pw {c : List Int} (h : ∀ (i : Nat) (x y : Int), c[i]? = some x → c[i + 1]? = some y → Dn ls y x) : c.Pairwise fun u v => Dn ls v u := by
  rw [List.pairwise_iff_getElem]
  intro i j hi hj hij
  have : ∀ d i (hi : i < c.length) (hj : i + d + 1 < c.length), Dn ls c[i + d + 1] c[i] := fun d => by
    induction d with
    | zero => intro i hi hj; exact h i _ _ (List.getElem?_eq_getElem hi) (List.getElem?_eq_getElem hj)
    | succ d ih =>
      intro i hi hj
      exact (h (i + d + 1) _ _ (List.getElem?_eq_getElem (by omega)) (List.getElem?_eq_getElem hj)).trans (ih i hi (by omega))
  have q := this (j - i - 1) i hi (by omega)
  have e : i + (j - i - 1) + 1 = j := by omega
  simp only [e] at q
  exact q
theorem pot_step {f f' : Int → Bool} {A : List Int} (hm : ∀ v, f' v = true → f v = true) : ∀ {cs : List (List Int)} {few : Nat}, (∀ c ∈ cs, ∀ x ∈ midOf f c, x ∈ A → bn (c.filter f').length + 1 ≤ bn (c.filter f).length) → (∀ x ∈ (mids f cs).take few, x ∈ A) → pot f' cs + ((mids f cs).take few).length ≤ pot f cs
  | [], few, _, _ => by
    show 0 + ((mids f []).take few).length ≤ 0
    rw [show mids f [] = [] from rfl, List.take_nil]
    exact Nat.le_refl _
  | c :: cs, few, h, hA => by
    have e : mids f (c :: cs) = midOf f c ++ mids f cs := rfl
    have ep : ∀ g : Int → Bool, pot g (c :: cs) = bn (c.filter g).length + pot g cs := fun g => rfl
    have mono : bn (c.filter f').length ≤ bn (c.filter f).length := bn_mono (by
      have : c.filter f' = (c.filter f).filter f' := by
        rw [List.filter_filter]
        refine List.filter_congr fun v _ => ?_
        cases e : f' v with
        | false => rfl
        | true => rw [hm v e]; rfl
      rw [this]
      exact List.length_filter_le _ _)
    rw [e] at hA ⊢
    rw [ep, ep]
    have h' : ∀ c ∈ cs, ∀ x ∈ midOf f c, x ∈ A → bn (c.filter f').length + 1 ≤ bn (c.filter f).length := fun d hd => h d (List.mem_cons_of_mem _ hd)
    cases em : midOf f c with
    | nil =>
      rw [em, List.nil_append] at hA
      rw [List.nil_append]
      have := pot_step hm (few := few) h' hA
      omega
    | cons x r =>
      have hr : r = [] := by
        have := midOf_le f c
        rw [em, List.length_cons] at this
        exact List.length_eq_zero_iff.mp (by omega)
      subst hr
      rw [em] at hA
      cases few with
      | zero =>
        have := pot_step hm (cs := cs) (few := 0) h' (fun x hx => by rw [List.take_zero] at hx; cases hx)
        rw [List.take_zero, List.length_nil] at this ⊢
        omega
      | succ k =>
        have e2 : ([x] ++ mids f cs).take (k + 1) = x :: (mids f cs).take k := rfl
        rw [e2] at hA ⊢
        have h1 := h c (List.mem_cons_self ..) x (by rw [em]; exact List.mem_singleton.mpr rfl) (hA x (List.mem_cons_self ..))
        have := pot_step hm (few := k) h' (fun y hy => hA y (List.mem_cons_of_mem _ hy))
        rw [List.length_cons]
        omega
theorem mid_half (g : Good ws ls) {c : List Int} (pw : c.Pairwise fun u v => Dn ls v u) {f f' : Int → Bool} (hm : ∀ v, f' v = true → f v = true) {x : Int} (hx : x ∈ midOf f c) (hset : (∀ v, Dn ls x v → f' v = false) ∨ ∀ v, Dn ls v x → f' v = false) : bn (c.filter f').length + 1 ≤ bn (c.filter f).length := by
  have n0 : (c.filter f).length ≠ 0 := fun e => by
    rw [mid_nil e] at hx
    cases hx
  have hl : (c.filter f).length / 2 < (c.filter f).length := by omega
  obtain ⟨b, eb⟩ := mid_some n0
  rw [mid_of eb, List.mem_singleton] at hx
  subst hx
  have ef : c.filter f' = (c.filter f).filter f' := by
    rw [List.filter_filter]
    refine List.filter_congr fun v _ => ?_
    cases e : f' v with
    | false => rfl
    | true => rw [hm v e]; rfl
  have pw2 := pw.sublist (List.filter_sublist (p := f) (l := c))
  generalize c.filter f = w at ef pw2 eb hl n0
  obtain ⟨hk, ek⟩ := List.getElem?_eq_some_iff.mp eb
  have sp : w = w.take (w.length / 2) ++ x :: w.drop (w.length / 2 + 1) := by
    have := List.take_append_drop (w.length / 2) w
    rw [List.drop_eq_getElem_cons hk, ek] at this
    exact this.symm
  have pw3 := pw2
  rw [sp] at pw3
  obtain ⟨_, p2, p3⟩ := List.pairwise_append.mp pw3
  have p4 := (List.pairwise_cons.mp p2).1
  have lt : (c.filter f').length ≤ w.length / 2 := by
    rw [ef]
    have e2 : (w.filter f') = (w.take (w.length / 2)).filter f' ++ (x :: w.drop (w.length / 2 + 1)).filter f' := by
      conv => lhs; rw [sp]
      rw [List.filter_append]
    rw [e2, List.length_append]
    rcases hset with hset | hset
    · have z1 : (w.take (w.length / 2)).filter f' = [] := List.filter_eq_nil_iff.mpr fun v hv => by
        rw [hset v (p3 v hv x (List.mem_cons_self ..))]
        exact Bool.false_ne_true
      have z2 : f' x = false := hset x (.refl _)
      rw [z1, List.filter_cons_of_neg (by rw [z2]; exact Bool.false_ne_true), List.length_nil]
      have := List.length_filter_le f' (w.drop (w.length / 2 + 1))
      rw [List.length_drop] at this
      omega
    · have z1 : (x :: w.drop (w.length / 2 + 1)).filter f' = [] := List.filter_eq_nil_iff.mpr fun v hv => by
        rcases List.mem_cons.mp hv with rfl | hv
        · rw [hset _ (.refl _)]
          exact Bool.false_ne_true
        · rw [hset v (p4 v hv)]
          exact Bool.false_ne_true
      rw [z1, List.length_nil]
      have := List.length_filter_le f' (w.take (w.length / 2))
      rw [List.length_take] at this
      omega
  have := bn_mono lt
  rw [bn_half (show 0 < w.length by omega)]
  omega
theorem lfB_perm (g : Good ws ls) {ans' : List (Int × Bool)} (h : ∀ e, e ∈ ans ↔ e ∈ ans') : lfB ls ans = lfB ls ans' := by
  funext w
  rw [Bool.eq_iff_iff, lfB_iff g, lfB_iff g]
  exact and_congr (not_congr (exists_congr fun s => and_congr_left fun _ => h _)) (not_congr (exists_congr fun s => and_congr_left fun _ => h _))
/-- what is known of the answers: right, each once, and no more than the chains' figures -/
structure FewI (ws hs : List Int) (ls : List (Int × Int)) (cs : List (List Int)) (ans : List (Int × Bool)) : Prop where
  a : AnsI ws hs ans
  n : ans.length + pot (lfB ls ans) cs ≤ bsum cs
theorem FewI.nil (g : Good ws ls) {cs : List (List Int)} : FewI ws hs ls cs [] := by
  refine ⟨⟨(fun e h => by cases h), List.nodup_nil⟩, ?_⟩
  have : ∀ c : List Int, c.filter (lfB ls []) = c := fun c => List.filter_eq_self.mpr fun v _ => (lfB_iff g).mpr ⟨(fun ⟨_, h, _⟩ => by cases h), fun ⟨_, h, _⟩ => by cases h⟩
  unfold pot bsum
  rw [List.length_nil, Nat.zero_add]
  simp only [this]
  exact Nat.le_refl _
theorem FewI.step {cs : List (List Int)} {ap : List Int} (g : Good ws ls) (ok : CovOk ws ls cs ap) (i : FewI ws hs ls cs ans) (few : Nat) {ans' : List (Int × Bool)} (pm : ans'.Perm (ans ++ moreA hs ((mids (lfB ls ans) cs).take few))) : FewI ws hs ls cs ans' := by
  obtain ⟨a1, sub⟩ := i.a.step g ok few
  have mm : ∀ e, e ∈ ans' ↔ e ∈ ans ++ moreA hs ((mids (lfB ls ans) cs).take few) := fun e => pm.mem_iff
  refine ⟨⟨fun e he => a1.r e ((mm e).mp he), (pm.map (·.1)).nodup_iff.mpr a1.nd⟩, ?_⟩
  rw [lfB_perm g mm, pm.length_eq, List.length_append]
  have hlen : (moreA hs ((mids (lfB ls ans) cs).take few)).length = ((mids (lfB ls ans) cs).take few).length := List.length_map ..
  rw [hlen]
  have mono : ∀ v, lfB ls (ans ++ moreA hs ((mids (lfB ls ans) cs).take few)) v = true → lfB ls ans v = true := fun v h => lfB_mono g h
  have := pot_step (A := (mids (lfB ls ans) cs).take few) mono (cs := cs) (few := few) (fun c hc x hx hA => mid_half g (chain_pw (ok.dn c hc)) mono hx ?_) fun x hx => hx
  · have := i.n
    omega
  · have hin : (x, hs.contains x) ∈ ans ++ moreA hs ((mids (lfB ls ans) cs).take few) := List.mem_append_right _ (List.mem_map.mpr ⟨x, hA, rfl⟩)
    cases e : hs.contains x with
    | true =>
      rw [e] at hin
      refine .inl fun v d => Bool.eq_false_iff.mpr fun h => ((lfB_iff g).mp h).1 ⟨x, hin, d⟩
    | false =>
      rw [e] at hin
      refine .inr fun v d => Bool.eq_false_iff.mpr fun h => ((lfB_iff g).mp h).2 ⟨x, hin, d⟩
theorem asked_some {cs : List (List Int)} {ap : List Int} (ok : CovOk ws ls cs ap) {few : Nat} (hf : 1 ≤ few) (h : ∃ v ∈ ws, lfB ls ans v = true) : 1 ≤ ((mids (lfB ls ans) cs).take few).length := by
  obtain ⟨v, hv, hl⟩ := h
  obtain ⟨c, hc, hvc⟩ := List.mem_flatten.mp ((ok.mem v).mpr hv)
  have ne := (mids_sub (lfB ls ans) cs).2.2 ⟨c, hc, v, hvc, hl⟩
  rw [List.length_take]
  have := List.length_pos_iff.mpr ne
  omega
theorem pot_pos {cs : List (List Int)} {ap : List Int} (ok : CovOk ws ls cs ap) {f : Int → Bool} (h : ∃ v ∈ ws, f v = true) : 1 ≤ pot f cs := by
  obtain ⟨v, hv, hl⟩ := h
  obtain ⟨c, hc, hvc⟩ := List.mem_flatten.mp ((ok.mem v).mpr hv)
  have h1 : 1 ≤ bn (c.filter f).length := by
    have : v ∈ c.filter f := List.mem_filter.mpr ⟨hvc, hl⟩
    have := List.length_pos_of_mem this
    rw [bn_half this]
    omega
  have : ∀ {cs : List (List Int)}, c ∈ cs → bn (c.filter f).length ≤ pot f cs := fun {cs} => by
    induction cs with
    | nil => intro h; cases h
    | cons d ds ih =>
      intro h
      show _ ≤ bn (d.filter f).length + pot f ds
      rcases List.mem_cons.mp h with rfl | h
      · omega
      · have := ih h
        omega
  exact Nat.le_trans h1 (this hc)
/-- all settled: just what is held is held -/
theorem all_settled (g : Good ws ls) (cl : Closed ws ls hs) (inc : hs.Pairwise (· < ·)) (r : RightA ws hs ans) (hn : ¬ ∃ v ∈ ws, lfB ls ans v = true) : ws.filter (hasB ls ans) = hs ∧ ws.filter (lacB ls ans) = (ws.filter fun w => !hs.contains w) ∧ (ws.filter fun w => !hasB ls ans w && !lacB ls ans w) = [] := by
  have has : ∀ w, hasB ls ans w = true → w ∈ hs := fun w h => by
    obtain ⟨s, h1, h2⟩ := (hasB_iff g).mp h
    exact (cl s (List.contains_iff_mem.mp (r _ h1).2.symm)).2 w h2
  have lac : ∀ w, lacB ls ans w = true → w ∉ hs := fun w h hw => by
    obtain ⟨u, h1, h2⟩ := (lacB_iff g).mp h
    have h3 := (cl w hw).2 u h2
    have h4 := (r _ h1).2
    have h4 : false = hs.contains u := h4
    rw [List.contains_iff_mem.mpr h3] at h4
    cases h4
  have all : ∀ w ∈ ws, hasB ls ans w = true ∨ lacB ls ans w = true := fun w hw => by
    cases e1 : hasB ls ans w with
    | true => exact .inl rfl
    | false =>
      cases e2 : lacB ls ans w with
      | true => exact .inr rfl
      | false =>
        refine absurd ⟨w, hw, ?_⟩ hn
        unfold lfB
        rw [e1, e2]
        rfl
  refine ⟨rising_ext (g.inc.filter _) inc fun x => ?_, List.filter_congr fun w hw => ?_, List.filter_eq_nil_iff.mpr fun w hw => ?_⟩
  · rw [List.mem_filter]
    refine ⟨fun h => has x h.2, fun h => ⟨(cl x h).1, ?_⟩⟩
    rcases all x (cl x h).1 with q | q
    · exact q
    · exact absurd h (lac x q)
  · cases e : lacB ls ans w with
    | true => rw [contains_not (lac w e)]; rfl
    | false =>
      rcases all w hw with q | q
      · rw [List.contains_iff_mem.mpr (has w q)]; rfl
      · rw [e] at q; cases q
  · rcases all w hw with q | q
    · rw [q]; simp
    · rw [q]; simp
/-- twelve turns are enough -/
theorem bsum_few {cs : List (List Int)} {ap : List Int} (g : Good ws ls) (ok : CovOk ws ls cs ap) (h : ws.length ≤ 10 ∨ (ws.length ≤ 60 ∧ LadL ws ls)) : bsum cs ≤ 12 := by
  have sz := ok.size g
  rw [List.length_flatten] at sz
  rcases h with h | ⟨h, lad⟩
  · have : ∀ cs : List (List Int), bsum cs ≤ (cs.map List.length).sum := fun cs => by
      induction cs with
      | nil => exact Nat.le_refl _
      | cons c cs ih =>
        show bn c.length + bsum cs ≤ c.length + (cs.map List.length).sum
        have := bn_le c.length
        omega
    have := this cs
    omega
  · have two := ladW_apart lad ok.apm ok.api ok.apd
    rw [← ok.len] at two
    have z3 : ∀ c ∈ cs, bn c.length ≤ 6 := fun c hc => by
      have : c.length ≤ 63 := Nat.le_trans (length_sub (rising_nodup (ok.up c hc)) fun x hx => (ok.mem x).mp (List.mem_flatten.mpr ⟨c, hc, hx⟩)) (by omega)
      exact Nat.le_trans (bn_mono this) (by decide +kernel)
    match cs, two, z3 with
    | [], _, _ => exact Nat.zero_le _
    | [c], _, z3 =>
      show bn c.length + 0 ≤ 12
      have := z3 c (List.mem_cons_self ..)
      omega
    | [c, d], _, z3 =>
      show bn c.length + (bn d.length + 0) ≤ 12
      have h1 := z3 c (List.mem_cons_self ..)
      have h2 := z3 d (List.mem_cons_of_mem _ (List.mem_cons_self ..))
      omega
    | _ :: _ :: _ :: _, two, _ => exact absurd two (by rw [List.length_cons, List.length_cons, List.length_cons]; omega)
end
end Fw

set_option Elab.async false
set_option linter.all false
set_option maxRecDepth 100000
set_option maxHeartbeats 4000000
namespace Fw
open PySem L2 RZ RT
def sp_l_sladW (_ : PySem.W.Frag) : Sp := fun vs H Q _ => ∃ (c D : Addr) (ns : List Int) (t : Nat) (most high : Int), vs = [.ref D, .int most, .int high] ∧ Dk c D ns t H ∧ 0 ≤ most ∧ most ≤ 60 ∧ 0 ≤ high ∧ high ≤ 60 ∧ t + 4001 < 1000000000 ∧
  ∀ (p : Addr) (ws : List Int) (ls : List (Int × Int)) (H' : Hp), Kp D H H' → Dk c D ns (t + 4001) H' → ShapeAt H' p ws ls → Good ws ls → ws.length ≤ 60 → ls.length ≤ 4000 → (((ws.length : Nat) : Int) ≤ most ∨ LadL ws ls) → Q (.ref p) H'
def sp_most_asks (_ : PySem.W.Frag) : Sp := fun vs H Q _ => ∃ (p : Addr) (cs : List (List Int)) (ap : List Int), vs = [.ref p] ∧ CovAt H p cs ap ∧ cs.length ≤ 1000 ∧ ∀ H', Same H H' → Q (.int (bsum cs : Nat)) H'
def sp_l_middlesT (_ : PySem.W.Frag) : Sp := fun vs H Q _ => ∃ (C B : Addr) (wide : Nat) (left : List Int) (cs : List Addr) (chs : List (List Int)), vs = [.ref C, .ref B, .int (wide : Int)] ∧ H C = some (.tup (cs.map V.ref)) ∧ ChAt H cs chs ∧ chs.length ≤ 1000 ∧ (∀ l ∈ chs, l.length ≤ 1000) ∧ H B = some (.tup (left.map V.int)) ∧
  ∀ (r : Addr) (H' : Hp), Same H H' → H' r = some (.tup (((mids left.contains chs).take wide).map V.int)) → Q (.ref r) H'
abbrev N_l_sladW : List Str := ["_law_deck_here", "_law_most", "_law_high"]
def t_l_sladW (K : PySem.W.Frag) : TS := (tSeq (tIfS (tTest (tOp rEq (tCall (sp_l_draw K) [] E0 (tCons (tVar 0) (tCons (tC (.int 8)) tNil))) (tC (.int 0)))) (tRet (tCall (sp_l_ladderW K) [] E0 (tCons (tVar 0) (tCons (tVar 2) tNil)))) tNext)
    (tRet (tCall (sp_l_shape K) [] E0 (tCons (tVar 0) (tCons (tVar 1) tNil)))))
abbrev N_most_asks : List Str := ["cover", "chain"]
def t_most_asks (K : PySem.W.Frag) : TS := (tRet (tCB (rSum K) (tCons (tLc (iTup K (tOp (rIx K) (tVar 0) (tC (.int 0)))) (gName 1) tYes (tBits (tCB (fLen K) (tCons (tVar 1) tNil))) [1]) tNil)))
abbrev N_l_middlesT : List Str := ["_law_chains", "_law_left", "_law_wide", "_law_asks", "_law_chain", "_law_rest", "_law_version"]
def t_l_middlesT_loop (K : PySem.W.Frag) : TS := (tSeq (tAsg (tLc (iTup K (tVar 4)) (gName 6) (tTest (tOp (rIn K false) (tVar 6) (tVar 1))) (tVar 6) [6]) (gName 5))
    (tIfS (tAnd (tTest (tOp rGtI (tCB (fLen K) (tCons (tVar 5) tNil)) (tC (.int 0)))) (tTest (tOp rLtI (tCB (fLen K) (tCons (tVar 3) tNil)) (tVar 2)))) (tDrop (tBM K "list" rAppend (tVar 3) (tCons (tOp (rIx K) (tVar 5) (tOp rDivI (tCB (fLen K) (tCons (tVar 5) tNil)) (tC (.int 2)))) tNil))) tNext))
def t_l_middlesT (K : PySem.W.Frag) : TS := (tSeq (tAsg (tLst tNil) (gName 3))
    (tSeq (tFor (iTup K (tVar 0)) (gName 4) (t_l_middlesT_loop K))
    (tRet (tCB (fTupleOf K) (tCons (tVar 3) tNil)))))
theorem bsum_take {cs : List (List Int)} {i : Nat} {c : List Int} (h : cs[i]? = some c) : bsum (cs.take (i + 1)) = bsum (cs.take i) + bn c.length := by
  unfold bsum
  rw [take_snoc h, List.map_append, List.sum_append]
  simp
theorem bsum_int : ∀ cs : List (List Int), ((cs.map fun c => ((bn c.length : Nat) : Int)).sum : Int) = (bsum cs : Nat)
  | [] => rfl
  | c :: cs => by
    have := bsum_int cs
    show ((bn c.length : Nat) : Int) + (cs.map fun c => ((bn c.length : Nat) : Int)).sum = ((bn c.length + bsum cs : Nat) : Int)
    rw [this]
    omega
section
variable {K : PySem.W.Frag} {vs : List V} {H : Hp} {Q : VK} {E : XK}
theorem len_l_sladW (h : sp_l_sladW K vs H Q E) : vs.length = 3 := by
  obtain ⟨_, _, _, _, _, _, rfl, _⟩ := h
  rfl
theorem len_most_asks (h : sp_most_asks K vs H Q E) : vs.length = 1 := by
  obtain ⟨_, _, _, rfl, _⟩ := h
  rfl
theorem len_l_middlesT (h : sp_l_middlesT K vs H Q E) : vs.length = 3 := by
  obtain ⟨_, _, _, _, _, _, rfl, _⟩ := h
  rfl
theorem pure_l_sladW (h : sp_l_sladW K vs H Q E) : t_l_sladW K { nx := fun _ H' => Q .non H', rt := Q } (start N_l_sladW vs) H := by
  obtain ⟨c, D, ns, t, most, high, rfl, dk, m0, m1, h0, h1, ht, k⟩ := h
  refine ⟨_, rfl, c, D, ns, t, 8, rfl, dk, by omega, by decide, by decide, fun v H2 v0 v1 d2 fr2 => ⟨rfl, _, rfl, ite2 (fun _ => ?_) (fun _ => ?_)⟩⟩
  · refine ⟨_, rfl, _, rfl, c, D, ns, t + 1, high, rfl, d2, h0, by omega, by omega, fun p ws ls H3 k3 d3 sh g hl hk => ?_⟩
    have hl2 : ((ws.length : Nat) : Int) ≤ high := hl
    exact k p ws ls H3 ((Kp.fr fr2).trans k3) (d3.le (by omega)) sh g (by omega) hk.1 (.inr hk)
  · refine ⟨_, rfl, _, rfl, c, D, ns, t + 1, most, rfl, d2, m0, by omega, by omega, fun p ws ls H3 k3 d3 sh g hl hk => ?_⟩
    have hl2 : ((ws.length : Nat) : Int) ≤ most := hl
    have h60 : ws.length ≤ 60 := by omega
    exact k p ws ls H3 ((Kp.fr fr2).trans k3) (d3.le (by omega)) sh g h60 (Nat.le_trans hk (Nat.le_trans (Nat.mul_le_mul h60 h60) (by decide))) (.inl hl2)
theorem ref_at {as : List Addr} {i : Nat} {x : V} (hx : (as.map V.ref)[i]? = some x) : ∃ a, x = .ref a ∧ as[i]? = some a := by
  rw [List.getElem?_map] at hx
  cases e : as[i]? with
  | none => rw [e] at hx; cases hx
  | some a => rw [e] at hx; exact ⟨a, (Option.some.inj hx).symm, rfl⟩
theorem pure_most_asks (h : sp_most_asks K vs H Q E) : t_most_asks K { nx := fun _ H' => Q .non H', rt := Q } (start N_most_asks vs) H := by
  obtain ⟨p, cs, ap, rfl, ⟨ta, tb, ca, h1, h2, h3, h4, h5⟩, hz, k⟩ := h
  refine ⟨_, rfl, ixT h1 rfl ⟨ta, rfl, ⟨_, sqT h2⟩, fun D nD => ?_⟩⟩
  refine lc_it (walk_tup (xs := ca.map V.ref)) (fun i H' => Same H H' ∧ H' D = some (.lst (((cs.take i).map fun c => ((bn c.length : Nat) : Int)).map V.int))) ⟨samNew nD, updS⟩ (fun i H' _ q => sqT (q.1 _ _ h2)) ?_ ?_
  · rintro i y H2 H3 hi ⟨s2, hD⟩ ⟨rfl, hy⟩
    obtain ⟨b, rfl, eb⟩ := ref_at hy
    have hi2 : i < cs.length := by rw [← h4]; exact (List.getElem?_eq_some_iff.mp eb).1
    have ec := List.getElem?_eq_getElem hi2
    generalize cs[i] = c at ec
    have hb := s2 _ _ (h5 i b c eb ec)
    refine ⟨rfl, _, rfl, lenT hb ⟨_, rfl, _, hD, ?_, Same.updF s2 nD, ?_⟩⟩
    · rw [List.length_map, List.length_map, List.length_take]
      exact Nat.lt_of_le_of_lt (show min i cs.length ≤ 1000 by omega) (by decide)
    · rw [updS, take_snoc ec, List.map_append, List.map_append, List.length_map]
      rfl
  · rintro H2 ⟨s2, hD⟩
    rw [List.length_map, h4, List.take_length] at hD
    refine ⟨D, _, rfl, sqL hD, ?_⟩
    rw [bsum_int]
    exact k _ s2
theorem pure_l_middlesT (h : sp_l_middlesT K vs H Q E) : t_l_middlesT K { nx := fun _ H' => Q .non H', rt := Q } (start N_l_middlesT vs) H := by
  obtain ⟨C, B, wide, left, cs, chs, rfl, hC, ch, hz, hzl, hB, k⟩ := h
  refine ⟨by show (0 : Nat) ≤ sizeLine; decide, fun A nA => ?_⟩
  have s0 : Same H (upd H A (.lst [])) := samNew nA
  have hA0 : upd H A (.lst []) A = some (.lst []) := updS
  generalize upd H A (.lst []) = H1 at s0 hA0
  refine ⟨_, rfl, C, rfl, ⟨_, sqT (s0 _ _ hC)⟩, ?_⟩
  refine for_tup (K := K) (a := C) (xs := cs.map V.ref) (fun i σ H' => ∃ z4 z5 z6 : Option V, σ = [some (.ref C), some (.ref B), some (.int (wide : Int)), some (.ref A), z4, z5, z6] ∧ Same H H' ∧ H' A = some (.lst (((mids left.contains (chs.take i)).take wide).map V.int))) ⟨none, none, none, rfl, s0, by rw [hA0, List.take_zero]; show some (HO.lst []) = some (HO.lst ((List.take wide ([] : List Int)).map V.int)); rw [List.take_nil]; rfl⟩ (fun i σ H' _ ⟨_, _, _, _, s, _⟩ => sqT (s _ _ hC)) ?_ ?_
  · rintro i x σ H2 hx ⟨z4, z5, z6, rfl, s2, hA2⟩
    obtain ⟨c, l, rfl, ec, el, _⟩ := ch.at hx
    have hc2 := s2 _ _ (ch.2 i c l ec el)
    have hl := hzl l (List.mem_of_getElem? el)
    show t_l_middlesT_loop K _ [some (.ref C), some (.ref B), some (.int (wide : Int)), some (.ref A), some (.ref c), z5, z6] H2
    dsimp only [t_l_middlesT_loop, tSeq, tAsg]
    refine tLc_tupF (K := K) (σ := [some (.ref C), some (.ref B), some (.int (wide : Int)), some (.ref A), some (.ref c), z5, z6]) (s := 6) (te := tVar 4) (a := c) (p := left.contains) (fun R z => ⟨_, rfl, z⟩) (by show (6 : Nat) < 7; decide) hc2 hl (fun w H' Y hw s y => ?_) fun X H' nX s3 hX => ?_
    · refine ⟨_, rfl, _, rfl, B, _, rfl, .inr (sqT (s _ _ (s2 _ _ hB))), rfl, flat_ints _, _, rfl, ?_⟩
      have ein : (if false = true then !inV (.int w) (left.map V.int) else inV (.int w) (left.map V.int)) = left.contains w := by rw [if_neg (by decide), inV_ints]
      rw [ein]
      exact y H' (.refl _)
    · have hA3 := s3 _ _ hA2
      have hm : mids left.contains (chs.take (i + 1)) = mids left.contains (chs.take i) ++ midOf left.contains l := by rw [take_snoc el, mids_snoc]
      have hml : (mids left.contains (chs.take i)).length ≤ 1000 := Nat.le_trans (mids_le _ _) (by rw [List.length_take]; omega)
      refine ⟨_, rfl, lenL hX ⟨_, _, rfl, rfl, _, rfl, ite2 (fun e => ?_) fun e => ?_⟩⟩
      · have pos : (l.filter left.contains).length ≠ 0 := by
          have := of_decide_eq_true e
          rw [List.length_map] at this
          omega
        obtain ⟨b, eb⟩ := mid_some pos
        have emid := mid_of eb
        refine ⟨_, rfl, lenL hA3 ⟨_, rfl, _, _, rfl, rfl, _, rfl, ite2 (fun e2 => ?_) fun e2 => ?_⟩⟩
        · have lt : ((mids left.contains (chs.take i)).take wide).length < wide := by
            have := of_decide_eq_true e2
            rw [List.length_map] at this
            omega
          have full : (mids left.contains (chs.take i)).take wide = mids left.contains (chs.take i) := by
            rw [List.length_take] at lt
            exact List.take_of_length_le (by omega)
          rw [full] at hA3 lt
          refine ⟨_, rfl, .inl ⟨rfl, _, sqL hA3⟩, _, rfl, _, rfl, lenL hX ⟨_, _, rfl, rfl, ⟨by decide, by decide⟩, ?_⟩⟩
          refine ixL (v := .int b) hX ?_ ⟨A, _, _, rfl, rfl, hA3, ?_, _, _, _, rfl, Same.updF (s2.trans s3) nA, ?_⟩
          · show atI _ _ = some (V.int b)
            rw [List.length_map, show ((l.filter left.contains).length : Int) / 2 = (((l.filter left.contains).length / 2 : Nat) : Int) by omega]
            exact atI_nat (by rw [List.getElem?_map, eb]; rfl)
          · rw [List.length_map]
            exact Nat.lt_of_le_of_lt hml (by decide)
          · have ft : (mids left.contains (chs.take i) ++ [b]).take wide = mids left.contains (chs.take i) ++ [b] := List.take_of_length_le (by rw [List.length_append, List.length_singleton]; omega)
            rw [updS, hm, emid, ft, List.map_append]
            rfl
        · refine ⟨_, _, _, rfl, s2.trans s3, ?_⟩
          rw [hA3, hm]
          have ge : wide ≤ (mids left.contains (chs.take i)).length := by
            have : ¬ (((mids left.contains (chs.take i)).take wide).length < wide) := fun h => e2 (decide_eq_true (by rw [List.length_map]; omega))
            rw [List.length_take] at this
            omega
          rw [List.take_append_of_le_length ge]
      · have zero : (l.filter left.contains).length = 0 := by
          have : ¬ (0 < (l.filter left.contains).length) := fun h => e (decide_eq_true (by rw [List.length_map]; omega))
          omega
        refine iteF ⟨_, _, _, rfl, s2.trans s3, ?_⟩
        rw [hA3, hm, mid_nil zero, List.append_nil]
  · rintro σ H2 ⟨z4, z5, z6, rfl, s2, hA2⟩
    rw [List.length_map, ch.1, List.take_length] at hA2
    exact ⟨_, rfl, A, _, rfl, .inl ⟨sqL hA2, fun r nr => k r _ (s2.trans (samNew nr)) updS⟩⟩
end
end Fw

set_option Elab.async false
set_option linter.all false
set_option maxRecDepth 100000
set_option maxHeartbeats 4000000
namespace Fw
open PySem L2 RZ RT
theorem atI_int {ns : List Int} {i : Nat} {n : Int} (h : ns[i]? = some n) : atI (ns.map V.int) (i : Int) = some (.int n) := by
  obtain ⟨hi, e⟩ := List.getElem?_eq_some_iff.mp h
  unfold atI ixN
  rw [List.length_map, if_pos (by omega), if_pos (by omega)]
  show (ns.map V.int)[((i : Int)).toNat]? = _
  rw [Int.toNat_natCast, List.getElem?_map, h]
  rfl
/-- a rising tuple of ints from nought on -/
def sp_l_rising (_ : PySem.W.Frag) : Sp := fun vs H Q _ => ∃ (p : Addr) (ns : List Int), vs = [.ref p] ∧ H p = some (.tup (ns.map V.int)) ∧ ns.Pairwise (· < ·) ∧ (∀ n ∈ ns, 0 ≤ n) ∧ Q (.bl true) H
def sp_l_is_cover (_ : PySem.W.Frag) : Sp := fun vs H Q _ => ∃ (p R r : Addr) (ws : List Int) (ls : List (Int × Int)) (ra : List Addr) (cs : List (List Int)) (ap : List Int), vs = [.ref p, .ref R, .ref r] ∧ ShapeAt H p ws ls ∧ RowsAt H R ws ls ws ra ∧ CovAt H r cs ap ∧ CovOk ws ls cs ap ∧ Good ws ls ∧ ws.length ≤ 1000 ∧
  ∀ H', Same H H' → Q (.bl true) H'
abbrev N_l_rising : List Str := ["_law_thing", "_law_last", "_law_one"]
def t_l_rising (K : PySem.W.Frag) : TS := (tSeq (tIfS (tNot (tB (tCB (rIsi K) (tCons (tVar 0) (tCons (tC (.ty "tuple")) tNil))))) (tRet (tC (.bl false))) tNext)
    (tSeq (tAsg (tUn rNegI (tC (.int 1))) (gName 1))
    (tSeq (tFor (iTup K (tVar 0)) (gName 2) (tSeq (tIfS (tOr (tNot (tB (tCall (sp_l_int K) [] E0 (tCons (tVar 2) tNil)))) (tTest (tOp rLeI (tVar 2) (tVar 1)))) (tRet (tC (.bl false))) tNext)
    (tAsg (tVar 2) (gName 1))))
    (tRet (tC (.bl true))))))
abbrev N_l_is_cover : List Str := ["_law_web", "_law_rows", "_law_thing", "_law_seen", "_law_first", "_law_chain", "_law_k", "_law_one", "_law_other"]
def t_l_is_cover_inn (K : PySem.W.Frag) : TS := (tSeq (tIfS (tOr (tB (tDNotIn (tOp (rIx K) (tVar 5) (tVar 6)) (tVar 1))) (tTest (tOp (rIn K false) (tOp (rIx K) (tVar 5) (tVar 6)) (tVar 3)))) (tRet (tC (.bl false))) tNext)
    (tSeq (tIfS (tAnd (tTest (tOp rGtI (tVar 6) (tC (.int 0)))) (tTest (tOp (rIn K true) (tOp (rIx K) (tVar 5) (tOp rSubI (tVar 6) (tC (.int 1)))) (tDGet (tVar 1) (tOp (rIx K) (tVar 5) (tVar 6)))))) (tRet (tC (.bl false))) tNext)
    (tDrop (tBM K "list" rAppend (tVar 3) (tCons (tOp (rIx K) (tVar 5) (tVar 6)) tNil)))))
def t_l_is_cover_chain (K : PySem.W.Frag) : TS := (tSeq (tIfS (tOr (tNot (tB (tCall (sp_l_rising K) [] E0 (tCons (tVar 5) tNil)))) (tOr (tTest (tOp rEq (tCB (fLen K) (tCons (tVar 5) tNil)) (tC (.int 0)))) (tTest (tOp rLeI (tOp (rIx K) (tVar 5) (tC (.int 0))) (tVar 4))))) (tRet (tC (.bl false))) tNext)
    (tSeq (tAsg (tOp (rIx K) (tVar 5) (tC (.int 0))) (gName 4))
    (tFor (iRng1 (tCons (tCB (fLen K) (tCons (tVar 5) tNil)) tNil)) (gName 6) (t_l_is_cover_inn K))))
def t_l_is_cover_end (K : PySem.W.Frag) : TS := (tRet (tOp rEq (tCB (fLen K) (tCons (tVar 3) tNil)) (tCB (fLen K) (tCons (tOp (rIx K) (tVar 0) (tC (.int 0))) tNil))))
def t_l_is_cover_two (K : PySem.W.Frag) : TS := (tSeq (tFor (iTup K (tOp (rIx K) (tVar 2) (tC (.int 1)))) (gName 7) (tFor (iTup K (tOp (rIx K) (tVar 2) (tC (.int 1)))) (gName 8) (tIfS (tAnd (tTest (tOp rNe (tVar 7) (tVar 8))) (tTest (tOp (rIn K false) (tVar 8) (tDGet (tVar 1) (tVar 7))))) (tRet (tC (.bl false))) tNext)))
    (t_l_is_cover_end K))
def t_l_is_cover_apart (K : PySem.W.Frag) : TS := (tSeq (tFor (iTup K (tOp (rIx K) (tVar 2) (tC (.int 1)))) (gName 7) (tIfS (tB (tDNotIn (tVar 7) (tVar 1))) (tRet (tC (.bl false))) tNext))
    (t_l_is_cover_two K))
def t_l_is_cover_seen (K : PySem.W.Frag) : TS := (tSeq (tAsg (tLst tNil) (gName 3))
    (tSeq (tAsg (tUn rNegI (tC (.int 1))) (gName 4))
    (tSeq (tFor (iTup K (tOp (rIx K) (tVar 2) (tC (.int 0)))) (gName 5) (t_l_is_cover_chain K))
    (t_l_is_cover_apart K))))
def t_l_is_cover (K : PySem.W.Frag) : TS := (tSeq (tIfS (tOr (tNot (tB (tCB (rIsi K) (tCons (tVar 2) (tCons (tC (.ty "tuple")) tNil))))) (tOr (tTest (tOp rNe (tCB (fLen K) (tCons (tVar 2) tNil)) (tC (.int 2)))) (tNot (tB (tCB (rIsi K) (tCons (tOp (rIx K) (tVar 2) (tC (.int 0))) (tCons (tC (.ty "tuple")) tNil))))))) (tRet (tC (.bl false))) tNext)
    (tSeq (tIfS (tOr (tNot (tB (tCall (sp_l_rising K) [] E0 (tCons (tOp (rIx K) (tVar 2) (tC (.int 1))) tNil)))) (tTest (tOp rNe (tCB (fLen K) (tCons (tOp (rIx K) (tVar 2) (tC (.int 0))) tNil)) (tCB (fLen K) (tCons (tOp (rIx K) (tVar 2) (tC (.int 1))) tNil))))) (tRet (tC (.bl false))) tNext)
    (t_l_is_cover_seen K)))
section
variable {K : PySem.W.Frag} {vs : List V} {H : Hp} {Q : VK} {E : XK}
theorem len_l_rising (h : sp_l_rising K vs H Q E) : vs.length = 1 := by
  obtain ⟨_, _, rfl, _⟩ := h
  rfl
theorem len_l_is_cover (h : sp_l_is_cover K vs H Q E) : vs.length = 3 := by
  obtain ⟨_, _, _, _, _, _, _, _, rfl, _⟩ := h
  rfl
theorem isTup {p : Addr} {xs : List V} {σ : L2.St} {Q : VK} (h : H p = some (.tup xs)) (q : Q (.bl true) H) : tCons (tC (.ty "tuple")) tNil σ H fun ys H2 => rIsi K (.ref p :: ys) H2 Q := isi (.base (.tup h)) rfl q
theorem pure_l_rising (h : sp_l_rising K vs H Q E) : t_l_rising K { nx := fun _ H' => Q .non H', rt := Q } (start N_l_rising vs) H := by
  obtain ⟨p, ns, rfl, hp, inc, nn, k⟩ := h
  refine ⟨_, rfl, isTup hp ⟨_, rfl, ?_⟩⟩
  refine ⟨_, rfl, ?_⟩
  refine ⟨_, rfl, p, rfl, ⟨_, sqT hp⟩, ?_⟩
  refine for_tup (K := K) (a := p) (xs := ns.map V.int) (fun i σ H' => H' = H ∧ ∃ l z2, σ = [some (.ref p), some (.int l), z2] ∧ ∀ j x, i ≤ j → ns[j]? = some x → l < x) ⟨rfl, -1, none, rfl, fun j x _ hx => by have := nn x (List.mem_of_getElem? hx); omega⟩ (fun i σ H' _ ⟨e, _⟩ => by rw [e]; exact sqT hp) ?_ ?_
  · rintro i y σ H' hy ⟨rfl, l, z2, rfl, gt⟩
    rw [List.getElem?_map] at hy
    cases en : ns[i]? with
    | none => rw [en] at hy; cases hy
    | some x =>
      rw [en] at hy
      cases Option.some.inj hy
      refine ⟨_, rfl, x, rfl, _, rfl, iteF ?_⟩
      refine ⟨_, rfl, _, rfl, _, _, rfl, rfl, _, rfl, ite2 (fun e2 => ?_) (fun e2 => ?_)⟩
      · have : x ≤ l := of_decide_eq_true e2
        have := gt i x (Nat.le_refl _) en
        omega
      · refine ⟨_, rfl, rfl, x, _, rfl, fun j z hj hz => ?_⟩
        obtain ⟨h1, e1⟩ := List.getElem?_eq_some_iff.mp en
        obtain ⟨h2, e3⟩ := List.getElem?_eq_some_iff.mp hz
        have := List.pairwise_iff_getElem.mp inc i j h1 h2 (by omega)
        rw [e1, e3] at this
        exact this
  · rintro σ H' ⟨rfl, l, z2, rfl, _⟩
    exact k
theorem flat_take {cs : List (List Int)} {i : Nat} {c : List Int} (h : cs[i]? = some c) : (cs.take (i + 1)).flatten = (cs.take i).flatten ++ c := by
  obtain ⟨hi, e⟩ := List.getElem?_eq_some_iff.mp h
  rw [List.take_succ_eq_append_getElem hi, List.flatten_append, e]
  simp
theorem flat_sub (cs : List (List Int)) (i : Nat) : (cs.take i).flatten.Sublist cs.flatten := by
  have : cs.flatten = (cs.take i).flatten ++ (cs.drop i).flatten := by rw [← List.flatten_append, List.take_append_drop]
  rw [this]
  exact List.sublist_append_left _ _
theorem pure_l_is_cover (h : sp_l_is_cover K vs H Q E) : t_l_is_cover K { nx := fun _ H' => Q .non H', rt := Q } (start N_l_is_cover vs) H := by
  obtain ⟨p, R, r, ws, ls, ra, cs, ap, rfl, ⟨a0, r0, rs, hp, ha0, hr0, lk⟩, ⟨hal, hR, hrow⟩, ⟨ta, tb, ca, hr, hta, htb, hca, hpt⟩, ok, g, hw, k⟩ := h
  have fl := ok.size g
  have lenC : ∀ i, (cs.take i).flatten.length ≤ 1000 := fun i => by
    have := (flat_sub cs i).length_le
    omega
  have nnw : ∀ x ∈ cs.flatten, 0 ≤ x := fun x hx => g.nn x ((ok.mem x).mp hx)
  have rowOf : ∀ (u : Int), u ∈ ws → ∃ a, valV (rowsKV ws ra) (.inl u) = some (.ref a) ∧ H a = some (.lst ((belowL ws ls u).map V.int)) := fun u hu => by
    obtain ⟨m, hm, em⟩ := List.getElem_of_mem hu
    have em2 : ws[m]? = some u := List.getElem?_eq_some_iff.mpr ⟨hm, em⟩
    have ea : ra[m]? = some ra[m] := List.getElem?_eq_getElem (by omega)
    exact ⟨ra[m], rows_val (rising_nodup g.inc) em2 ea, hrow m u _ em2 ea⟩
  refine ⟨_, rfl, isTup hr ⟨_, rfl, iteF ?_⟩⟩
  refine ⟨_, rfl, lenT hr ⟨rfl, _, rfl, iteF ?_⟩⟩
  refine ⟨_, rfl, ixT hr rfl (isTup hta ⟨_, rfl, iteF ?_⟩)⟩
  refine ⟨_, rfl, ixT hr rfl ⟨tb, ap, rfl, htb, ok.api, fun x hx => g.nn x (ok.apm x hx), _, rfl, iteF ?_⟩⟩
  refine ⟨_, rfl, ixT hr rfl (lenT hta ⟨_, rfl, ixT hr rfl (lenT htb ⟨rfl, _, rfl, ?_⟩)⟩)⟩
  rw [List.length_map, List.length_map, hca, ok.len]
  refine ite2 (fun e => absurd e (by simp)) fun _ => ?_
  show t_l_is_cover_seen K { nx := fun _ H' => Q .non H', rt := Q } [some (.ref p), some (.ref R), some (.ref r), none, none, none, none, none, none] H
  refine ⟨Nat.zero_le _, fun S nS => ?_⟩
  have s0 := samNew (o := .lst []) nS
  refine ⟨_, rfl, ?_⟩
  refine ⟨_, rfl, ixT (s0 _ _ hr) rfl ⟨ta, rfl, ⟨_, sqT (s0 _ _ hta)⟩, ?_⟩⟩
  refine for_tup (K := K) (a := ta) (xs := ca.map V.ref) (fun i σ H' => Same H H' ∧ H' S = some (.lst ((cs.take i).flatten.map V.int)) ∧ ∃ (fv : Int) (z5 z6 : Option V), σ = [some (.ref p), some (.ref R), some (.ref r), some (.ref S), some (.int fv), z5, z6, none, none] ∧ ∀ j c x, i ≤ j → cs[j]? = some c → c[0]? = some x → fv < x) ⟨s0, updS, -1, none, none, rfl, fun j c x _ hc hx => ?_⟩ (fun i σ H' _ q => sqT (q.1 _ _ hta)) ?_ ?_
  · have := nnw x (List.mem_flatten.mpr ⟨c, List.mem_of_getElem? hc, List.mem_of_getElem? hx⟩)
    omega
  · rintro i y σ H1 hy ⟨s1, hS1, fv, z5, z6, rfl, gt⟩
    rw [List.getElem?_map] at hy
    cases ea : ca[i]? with
    | none => rw [ea] at hy; cases hy
    | some a =>
    rw [ea] at hy
    cases Option.some.inj hy
    have hi : i < cs.length := by rw [← hca]; exact (List.getElem?_eq_some_iff.mp ea).1
    have ec := List.getElem?_eq_getElem hi
    generalize cs[i] = c at ec
    have hcm : c ∈ cs := List.mem_of_getElem? ec
    have ha := hpt i a c ea ec
    have cne := ok.ne c hcm
    have cmem : ∀ x ∈ c, x ∈ ws := fun x hx => (ok.mem x).mp (List.mem_flatten.mpr ⟨c, hcm, hx⟩)
    obtain ⟨f, e0⟩ : ∃ f, c[0]? = some f := by
      cases c with
      | nil => exact absurd rfl cne
      | cons f _ => exact ⟨f, rfl⟩
    show t_l_is_cover_chain K _ [some (.ref p), some (.ref R), some (.ref r), some (.ref S), some (.int fv), some (.ref a), z6, none, none] H1
    refine ⟨_, rfl, a, c, rfl, s1 _ _ ha, ok.up c hcm, fun x hx => g.nn x (cmem x hx), _, rfl, iteF ?_⟩
    refine ⟨_, rfl, lenT (s1 _ _ ha) ⟨rfl, _, rfl, ?_⟩⟩
    rw [List.length_map]
    refine ite2 (fun e => ?_) fun _ => ?_
    · have e : V.int (c.length : Nat) = V.int 0 := of_decide_eq_true e
      injection e with e
      exact absurd (List.length_eq_zero_iff.mp (by omega)) cne
    refine ⟨_, rfl, ixT (s1 _ _ ha) (atI_int (i := 0) e0) ⟨_, rfl, _, _, rfl, rfl, _, rfl, ite2 (fun e => ?_) fun _ => ?_⟩⟩
    · have : f ≤ fv := of_decide_eq_true e
      have := gt i c f (Nat.le_refl _) ec e0
      omega
    refine ⟨_, rfl, ixT (s1 _ _ ha) (atI_int (i := 0) e0) ?_⟩
    refine ⟨_, rfl, lenT (s1 _ _ ha) ⟨_, rfl, ?_, ?_, ?_⟩⟩
    · rw [List.length_map]
      omega
    · have : c.length ≤ 1000 := Nat.le_trans (length_sub (rising_nodup (ok.up c hcm)) cmem) hw
      rw [List.length_map]
      omega
    rw [List.length_map]
    have nd3 : ((cs.take i).flatten ++ c).Nodup := by
      rw [← flat_take ec]
      exact ok.nd.sublist (flat_sub cs _)
    refine for_range (lo := 0) (n := c.length) (fun m σ H' => Same H H' ∧ H' S = some (.lst (((cs.take i).flatten ++ c.take m).map V.int)) ∧ ∃ z6, σ = [some (.ref p), some (.ref R), some (.ref r), some (.ref S), some (.int f), some (.ref a), z6, none, none]) ⟨s1, by rw [List.take_zero, List.append_nil]; exact hS1, z6, rfl⟩ ?_ ?_
    · rintro m σ H2 hm ⟨s2, hS2, z6, rfl⟩
      have ex := List.getElem?_eq_getElem hm
      generalize c[m] = x at ex
      have xc : x ∈ c := List.mem_of_getElem? ex
      have xw := cmem x xc
      obtain ⟨rw1, hv1, hl1⟩ := rowOf x xw
      have em : (0 : Int) + (m : Nat) = (m : Nat) := by omega
      refine ⟨_, rfl, _, rfl, ixT (s2 _ _ ha) (by rw [em]; exact atI_int ex) ⟨_, rfl, R, _, rfl, .inl ⟨_, Sum.inl x, .inl (s2 _ _ hR), rfl, hv1.symm⟩, _, rfl, iteF ?_⟩⟩
      refine ⟨_, rfl, _, rfl, ixT (s2 _ _ ha) (by rw [em]; exact atI_int ex) ⟨_, rfl, S, _, rfl, .inl (sqL hS2), rfl, flat_ints _, _, rfl, ?_⟩⟩
      show if inV (.int x) (((cs.take i).flatten ++ c.take m).map V.int) = true then _ else _
      rw [inV_ints]
      have tk : c.take (m + 1) = c.take m ++ [x] := take_snoc ex
      have nx : x ∉ (cs.take i).flatten ++ c.take m := fun hx => by
        have n4 : ((cs.take i).flatten ++ c.take m ++ [x]).Nodup := by
          rw [List.append_assoc, ← tk]
          exact nd3.sublist ((List.Sublist.refl _).append (List.take_sublist _ _))
        exact (List.nodup_append.mp n4).2.2 x hx x (List.mem_singleton.mpr rfl) rfl
      refine ite2 (fun e => absurd (List.contains_iff_mem.mp e) nx) fun _ => ?_
      have next : Same H (upd H2 S (.lst (((cs.take i).flatten ++ c.take m).map V.int ++ [.int x]))) ∧ upd H2 S (.lst (((cs.take i).flatten ++ c.take m).map V.int ++ [.int x])) S = some (.lst (((cs.take i).flatten ++ c.take (m + 1)).map V.int)) := by
        refine ⟨Same.updF s2 nS, ?_⟩
        rw [updS, tk, ← List.append_assoc, List.map_append (l₂ := [x])]
        rfl
      have few : ((((cs.take i).flatten ++ c.take m).map V.int).length) < sizeLine := by
        rw [List.length_map, List.length_append, List.length_take]
        have := lenC i
        have : c.length ≤ 1000 := Nat.le_trans (length_sub (rising_nodup (ok.up c hcm)) cmem) hw
        exact Nat.lt_of_le_of_lt (show (cs.take i).flatten.length + min m c.length ≤ 3000 by omega) (by decide)
      cases m with
      | zero =>
        refine ⟨_, rfl, _, _, rfl, rfl, _, rfl, iteF (iteF ?_)⟩
        exact ⟨_, rfl, .inl ⟨rfl, _, sqL hS2⟩, _, rfl, _, rfl, ixT (s2 _ _ ha) (by rw [em]; exact atI_int ex) ⟨S, _, _, rfl, rfl, hS2, few, next.1, next.2, _, rfl⟩⟩
      | succ m =>
        have hm0 : m < c.length := by omega
        have ey := List.getElem?_eq_getElem hm0
        generalize c[m] = y at ey
        have yb : y ∈ belowL ws ls x := (mem_belowL g xw).mpr (ok.dn c hcm m y x ey ex)
        refine ⟨_, rfl, _, _, rfl, rfl, _, rfl, ite2 (fun _ => ?_) fun e => absurd (decide_eq_true (show (0 : Int) < 0 + ((m + 1 : Nat) : Int) by omega)) e⟩
        have em1 : (0 : Int) + ((m + 1 : Nat) : Int) - 1 = (m : Nat) := by omega
        refine ⟨_, rfl, _, rfl, _, _, rfl, rfl, ixT (s2 _ _ ha) (by rw [em1]; exact atI_int ey) ⟨_, rfl, _, rfl, _, rfl, ixT (s2 _ _ ha) (by rw [em]; exact atI_int ex) ⟨R, .ref rw1, rfl, .inl ⟨_, Sum.inl x, .inl (s2 _ _ hR), rfl, hv1.symm⟩, rw1, _, rfl, .inl (sqL (s2 _ _ hl1)), rfl, flat_ints _, _, rfl, ?_⟩⟩⟩
        show if (!inV (.int y) ((belowL ws ls x).map V.int)) = true then _ else _
        rw [inV_ints, List.contains_iff_mem.mpr yb]
        refine iteF ?_
        exact ⟨_, rfl, .inl ⟨rfl, _, sqL hS2⟩, _, rfl, _, rfl, ixT (s2 _ _ ha) (by rw [em]; exact atI_int ex) ⟨S, _, _, rfl, rfl, hS2, few, next.1, next.2, _, rfl⟩⟩
    · rintro σ H2 ⟨s2, hS2, z6, rfl⟩
      rw [List.take_length, ← flat_take ec] at hS2
      exact ⟨s2, hS2, f, _, _, rfl, fun j d x hj hd hx => ok.fst i j c d f x (by omega) ec hd e0 hx⟩
  · rintro σ H1 ⟨s1, hS1, fv, z5, z6, rfl, _⟩
    rw [List.length_map, hca, List.take_length] at hS1
    show t_l_is_cover_apart K { nx := fun _ H' => Q .non H', rt := Q } [some (.ref p), some (.ref R), some (.ref r), some (.ref S), some (.int fv), z5, z6, none, none] H1
    have intp : ∀ {i : Nat} {y : V}, (ap.map V.int)[i]? = some y → ∃ w, y = .int w ∧ w ∈ ap := fun {i y} hx => by
      rw [List.getElem?_map] at hx
      cases e : ap[i]? with
      | none => rw [e] at hx; cases hx
      | some w => rw [e] at hx; exact ⟨w, (Option.some.inj hx).symm, List.mem_of_getElem? e⟩
    refine ⟨_, rfl, ixT (s1 _ _ hr) rfl ⟨tb, rfl, ⟨_, sqT (s1 _ _ htb)⟩, ?_⟩⟩
    refine for_tup (K := K) (a := tb) (xs := ap.map V.int) (fun i σ H' => H' = H1 ∧ ∃ z7, σ = [some (.ref p), some (.ref R), some (.ref r), some (.ref S), some (.int fv), z5, z6, z7, none]) ⟨rfl, none, rfl⟩ (fun i σ H' _ q => by rw [q.1]; exact sqT (s1 _ _ htb)) ?_ ?_
    · rintro i y σ H2 hy ⟨rfl, z7, rfl⟩
      obtain ⟨w, rfl, hwp⟩ := intp hy
      obtain ⟨rw1, hv1, _⟩ := rowOf w (ok.apm w hwp)
      exact ⟨_, rfl, _, rfl, R, _, rfl, .inl ⟨_, Sum.inl w, .inl (s1 _ _ hR), rfl, hv1.symm⟩, _, rfl, iteF ⟨rfl, _, rfl⟩⟩
    rintro σ H2 ⟨rfl, z7, rfl⟩
    show t_l_is_cover_two K { nx := fun _ H' => Q .non H', rt := Q } [some (.ref p), some (.ref R), some (.ref r), some (.ref S), some (.int fv), z5, z6, z7, none] H2
    refine ⟨_, rfl, ixT (s1 _ _ hr) rfl ⟨tb, rfl, ⟨_, sqT (s1 _ _ htb)⟩, ?_⟩⟩
    refine for_tup (K := K) (a := tb) (xs := ap.map V.int) (fun i σ H' => H' = H2 ∧ ∃ z7 z8, σ = [some (.ref p), some (.ref R), some (.ref r), some (.ref S), some (.int fv), z5, z6, z7, z8]) ⟨rfl, _, none, rfl⟩ (fun i σ H' _ q => by rw [q.1]; exact sqT (s1 _ _ htb)) ?_ ?_
    · rintro i y σ H3 hy ⟨rfl, z7, z8, rfl⟩
      obtain ⟨w, rfl, hwp⟩ := intp hy
      obtain ⟨rw1, hv1, hl1⟩ := rowOf w (ok.apm w hwp)
      refine ⟨_, rfl, ixT (s1 _ _ hr) rfl ⟨tb, rfl, ⟨_, sqT (s1 _ _ htb)⟩, ?_⟩⟩
      refine for_tup (K := K) (a := tb) (xs := ap.map V.int) (fun i σ H' => H' = H3 ∧ ∃ z8, σ = [some (.ref p), some (.ref R), some (.ref r), some (.ref S), some (.int fv), z5, z6, some (.int w), z8]) ⟨rfl, _, rfl⟩ (fun i σ H' _ q => by rw [q.1]; exact sqT (s1 _ _ htb)) ?_ ?_
      · rintro j y σ H4 hy2 ⟨rfl, z8, rfl⟩
        obtain ⟨u, rfl, hup⟩ := intp hy2
        refine ⟨_, rfl, _, rfl, rfl, ?_⟩
        by_cases e : w = u
        · subst e
          refine ⟨_, rfl, ite2 (fun z => absurd z (by simp)) fun _ => iteF ⟨rfl, _, rfl⟩⟩
        · refine ⟨_, rfl, ite2 (fun _ => ?_) fun z => absurd (by simp [e]) z⟩
          refine ⟨_, rfl, _, rfl, _, rfl, R, .ref rw1, rfl, .inl ⟨_, Sum.inl w, .inl (s1 _ _ hR), rfl, hv1.symm⟩, rw1, _, rfl, .inl (sqL (s1 _ _ hl1)), rfl, flat_ints _, _, rfl, ?_⟩
          show if inV (.int u) ((belowL ws ls w).map V.int) = true then _ else _
          rw [inV_ints]
          refine ite2 (fun z => absurd ((mem_belowL g (ok.apm w hwp)).mp (List.contains_iff_mem.mp z)) (ok.apd w hwp u hup e)) fun _ => ⟨rfl, _, rfl⟩
      · rintro σ H4 ⟨rfl, z8, rfl⟩
        exact ⟨rfl, _, _, rfl⟩
    rintro σ H3 ⟨rfl, z7, z8, rfl⟩
    show t_l_is_cover_end K { nx := fun _ H' => Q .non H', rt := Q } [some (.ref p), some (.ref R), some (.ref r), some (.ref S), some (.int fv), z5, z6, z7, z8] H3
    refine ⟨_, rfl, lenL hS1 ⟨_, rfl, ixT (s1 _ _ hp) rfl (lenT (s1 _ _ ha0) ⟨rfl, ?_⟩)⟩⟩
    rw [List.length_map, List.length_map, fl]
    have e : decide (V.int (ws.length : Nat) = V.int (ws.length : Nat)) = true := decide_eq_true rfl
    rw [e]
    exact k _ s1
end
end Fw

set_option Elab.async false
set_option linter.all false
set_option maxRecDepth 100000
set_option maxHeartbeats 4000000
namespace Fw
open PySem L2 RZ RT
/-- three lists of one's own, a dict locked -/
structure T3 (H0 : Hp) (R A B C : Addr) (od : Obj) (kvs : List (Key × V)) (x y z : List Int) (H : Hp) : Prop where
  keep : ∀ b o, H0 b = some o → b ≠ R → H b = some o
  fz : H R = some (.frz od (.dK kvs))
  ha : H A = some (.lst (x.map V.int))
  hb : H B = some (.lst (y.map V.int))
  hc : H C = some (.lst (z.map V.int))
  a0 : H0 A = none
  b0 : H0 B = none
  c0 : H0 C = none
  ab : A ≠ B
  ac : A ≠ C
  bc : B ≠ C
section
variable {H0 H : Hp} {R A B C q : Addr} {od : Obj} {kvs : List (Key × V)} {x y z : List Int} {o : HO}
theorem T3.new (s : T3 H0 R A B C od kvs x y z H) (n : H q = none) : T3 H0 R A B C od kvs x y z (upd H q o) :=
  ⟨fun b u e nb => updN (ne_of_none (s.keep b u e nb) n) (s.keep b u e nb), updN (ne_of_none s.fz n) s.fz, updN (ne_of_none s.ha n) s.ha, updN (ne_of_none s.hb n) s.hb, updN (ne_of_none s.hc n) s.hc, s.a0, s.b0, s.c0, s.ab, s.ac, s.bc⟩
theorem T3.addA (s : T3 H0 R A B C od kvs x y z H) (w : Int) : T3 H0 R A B C od kvs (x ++ [w]) y z (upd H A (.lst (x.map V.int ++ [.int w]))) :=
  ⟨fun b u e nb => updN (ne_of_none e s.a0) (s.keep b u e nb), updN (ne_of s.fz s.ha (by intro z; cases z)) s.fz, by rw [updS, List.map_append]; rfl, updN s.ab.symm s.hb, updN s.ac.symm s.hc, s.a0, s.b0, s.c0, s.ab, s.ac, s.bc⟩
theorem T3.addB (s : T3 H0 R A B C od kvs x y z H) (w : Int) : T3 H0 R A B C od kvs x (y ++ [w]) z (upd H B (.lst (y.map V.int ++ [.int w]))) :=
  ⟨fun b u e nb => updN (ne_of_none e s.b0) (s.keep b u e nb), updN (ne_of s.fz s.hb (by intro z; cases z)) s.fz, updN s.ab s.ha, by rw [updS, List.map_append]; rfl, updN s.bc.symm s.hc, s.a0, s.b0, s.c0, s.ab, s.ac, s.bc⟩
theorem T3.addC (s : T3 H0 R A B C od kvs x y z H) (w : Int) : T3 H0 R A B C od kvs x y (z ++ [w]) (upd H C (.lst (z.map V.int ++ [.int w]))) :=
  ⟨fun b u e nb => updN (ne_of_none e s.c0) (s.keep b u e nb), updN (ne_of s.fz s.hc (by intro z; cases z)) s.fz, updN s.ac s.ha, updN s.bc s.hb, by rw [updS, List.map_append]; rfl, s.a0, s.b0, s.c0, s.ab, s.ac, s.bc⟩
end
theorem sel_pos : ∀ {ks : List Bool} {ys : List V}, ks.length = ys.length → decide ((0 : Int) < ((sel ks ys).length : Nat)) = ks.any id
  | [], [], _ => rfl
  | [], _ :: _, h => by cases h
  | _ :: _, [], h => by cases h
  | k :: ks, y :: ys, h => by
    have ih := sel_pos (ks := ks) (ys := ys) (Nat.succ.inj h)
    cases k with
    | true =>
      have e : sel (true :: ks) (y :: ys) = y :: sel ks ys := rfl
      rw [e, List.length_cons, List.any_cons]
      exact decide_eq_true (by omega)
    | false =>
      have e : sel (false :: ks) (y :: ys) = sel ks ys := rfl
      rw [e, ih, List.any_cons]
      rfl
theorem map_any {α : Type} (f : α → Bool) (l : List α) : (l.map f).any id = l.any f := by
  rw [List.any_map]
  rfl
def hasP (ws : List Int) (ls : List (Int × Int)) (ans : List (Int × Bool)) (w : Int) : Bool := ans.any fun e => e.2 && (belowL ws ls e.1).contains w
def lacP (ws : List Int) (ls : List (Int × Int)) (ans : List (Int × Bool)) (w : Int) : Bool := ans.any fun e => !e.2 && (belowL ws ls w).contains e.1
def sp_l_settled (_ : PySem.W.Frag) : Sp := fun vs H Q _ => ∃ (R q : Addr) (ws : List Int) (ls : List (Int × Int)) (ra : List Addr) (ans : List (Int × Bool)), vs = [.ref R, .ref q] ∧ RowsAt H R ws ls ws ra ∧ AnsAt H q ans ∧ (∀ e ∈ ans, e.1 ∈ ws) ∧ Good ws ls ∧ ws.length ≤ 1000 ∧ ans.length ≤ 1000 ∧
  ∀ (r : Addr) (H' : Hp), Same H H' → H r = none → TripAt H' r (ws.filter (hasP ws ls ans)) (ws.filter fun w => !hasP ws ls ans w && lacP ws ls ans w) (ws.filter fun w => !hasP ws ls ans w && !lacP ws ls ans w) → Q (.ref r) H'
abbrev N_l_settled : List Str := ["_law_rows", "_law_answers_here", "_law_has", "_law_lacking", "_law_left", "_law_version", "_law_one"]
def t_l_settled_second (K : PySem.W.Frag) : TS := (tIfS (tTest (tOp rGtI (tCB (fLen K) (tCons (tLc (iTup K (tVar 1)) (gName 6) (tAnd (tNot (tB (tOp (rIx K) (tVar 6) (tC (.int 1))))) (tTest (tOp (rIn K false) (tOp (rIx K) (tVar 6) (tC (.int 0))) (tDGet (tVar 0) (tVar 5))))) (tVar 6) [6]) tNil)) (tC (.int 0)))) (tDrop (tBM K "list" rAppend (tVar 3) (tCons (tVar 5) tNil))) (tDrop (tBM K "list" rAppend (tVar 4) (tCons (tVar 5) tNil))))
def t_l_settled_turn (K : PySem.W.Frag) : TS := (tIfS (tTest (tOp rGtI (tCB (fLen K) (tCons (tLc (iTup K (tVar 1)) (gName 6) (tAnd (tB (tOp (rIx K) (tVar 6) (tC (.int 1)))) (tTest (tOp (rIn K false) (tVar 5) (tDGet (tVar 0) (tOp (rIx K) (tVar 6) (tC (.int 0))))))) (tVar 6) [6]) tNil)) (tC (.int 0)))) (tDrop (tBM K "list" rAppend (tVar 2) (tCons (tVar 5) tNil))) (t_l_settled_second K))
def t_l_settled_end (K : PySem.W.Frag) : TS := (tRet (tTup (tCons (tCB (fTupleOf K) (tCons (tVar 2) tNil)) (tCons (tCB (fTupleOf K) (tCons (tVar 3) tNil)) (tCons (tCB (fTupleOf K) (tCons (tVar 4) tNil)) tNil)))))
def t_l_settled (K : PySem.W.Frag) : TS := (tSeq (tAsg (tLst tNil) (gName 2))
    (tSeq (tAsg (tLst tNil) (gName 3))
    (tSeq (tAsg (tLst tNil) (gName 4))
    (tSeq (tLock (tFor (iKeys (tVar 0)) (gName 5) (t_l_settled_turn K)))
    (t_l_settled_end K)))))
section
variable {K : PySem.W.Frag} {vs : List V} {H : Hp} {Q : VK} {E : XK}
theorem len_l_settled (h : sp_l_settled K vs H Q E) : vs.length = 2 := by
  obtain ⟨_, _, _, _, _, _, rfl, _⟩ := h
  rfl
theorem filter_snoc {p : Int → Bool} {l : List Int} {i : Nat} {w : Int} (h : l[i]? = some w) : (l.take (i + 1)).filter p = (l.take i).filter p ++ if p w = true then [w] else [] := by
  rw [take_snoc h, List.filter_append]
  cases e : p w with
  | true => rw [List.filter_cons, if_pos e]; rfl
  | false => rw [List.filter_cons, if_neg (by rw [e]; exact Bool.false_ne_true)]; rfl
theorem pure_l_settled (h : sp_l_settled K vs H Q E) : t_l_settled K { nx := fun _ H' => Q .non H', rt := Q } (start N_l_settled vs) H := by
  obtain ⟨R, q, ws, ls, ra, ans, rfl, ⟨hal, hR, hrow⟩, ⟨as, hq, has, han⟩, hin, g, hw, hz, k⟩ := h
  refine ⟨Nat.zero_le _, fun A nA => ⟨Nat.zero_le _, fun B nB => ⟨Nat.zero_le _, fun C nC => ?_⟩⟩⟩
  have nAB : A ≠ B := fun e => by rw [← e, updS] at nB; cases nB
  have nB0 : H B = none := by rw [upd_ne nAB.symm] at nB; exact nB
  have nAC : A ≠ C := fun e => by rw [← e, upd_ne nAB, updS] at nC; cases nC
  have nBC : B ≠ C := fun e => by rw [← e, updS] at nC; cases nC
  have nC0 : H C = none := by rw [upd_ne nBC.symm, upd_ne nAC.symm] at nC; exact nC
  have nRA : R ≠ A := ne_of_none hR nA
  have nRB : R ≠ B := ne_of_none hR nB0
  have nRC : R ≠ C := ne_of_none hR nC0
  refine ⟨R, .dK (rowsKV ws ra), updN nRC (updN nRB (updN nRA hR)), trivial, fun od => ?_⟩
  refine ⟨_, rfl, R, od, rfl, .inl ⟨rowsKV ws ra, updS, ?_⟩⟩
  refine for_keysK (d := R) (o := od) (kvs := rowsKV ws ra) (fun i σ H' => ∃ (z5 z6 : Option V), σ = [some (.ref R), some (.ref q), some (.ref A), some (.ref B), some (.ref C), z5, z6] ∧
    T3 H R A B C od (rowsKV ws ra) ((ws.take i).filter (hasP ws ls ans)) ((ws.take i).filter fun w => !hasP ws ls ans w && lacP ws ls ans w) ((ws.take i).filter fun w => !hasP ws ls ans w && !lacP ws ls ans w) H') ?_ ?_ ?_ ?_
  · exact ⟨none, none, rfl, fun b o e n => updN n (updN (ne_of_none e nC0) (updN (ne_of_none e nB0) (updN (ne_of_none e nA) e))), updS, updN nRA.symm (updN nAC (updN nAB updS)), updN nRB.symm (updN nBC updS), updN nRC.symm updS, nA, nB0, nC0, nAB, nAC, nBC⟩
  · rintro i σ H' ⟨_, _, _, s⟩
    exact s.fz
  · rintro i kk v σ H1 hkv ⟨z5, z6, rfl, s⟩
    obtain ⟨w, b, ew, eb, rfl, rfl⟩ := rows_get hal hkv
    have hi : i < ws.length := (List.getElem?_eq_some_iff.mp ew).1
    have hwm : w ∈ ws := List.mem_of_getElem? ew
    have flt : ∀ p : Int → Bool, (((ws.take i).filter p).map V.int).length < sizeLine := fun p => by
      rw [List.length_map]
      exact Nat.lt_of_le_of_lt (Nat.le_trans (List.length_filter_le _ _) (by rw [List.length_take]; omega) : _ ≤ 1000) (by decide)
    -- what is read stands
    have hq1 : H1 q = some (.tup (as.map V.ref)) := s.keep _ _ hq (ne_of hq hR (by intro z; cases z))
    have rowOf : ∀ (u : Int), u ∈ ws → ∃ a, valV (rowsKV ws ra) (.inl u) = some (.ref a) ∧ H1 a = some (.lst ((belowL ws ls u).map V.int)) := fun u hu => by
      obtain ⟨m, hm, em⟩ := List.getElem_of_mem hu
      have em2 : ws[m]? = some u := List.getElem?_eq_some_iff.mpr ⟨hm, em⟩
      have ea : ra[m]? = some ra[m] := List.getElem?_eq_getElem (by omega)
      have h1 := hrow m u _ em2 ea
      exact ⟨ra[m], rows_val (rising_nodup g.inc) em2 ea, s.keep _ _ h1 (ne_of h1 hR (by intro z; cases z))⟩
    have ansOf : ∀ {j : Nat} {x : V}, (as.map V.ref)[j]? = some x → ∃ (a : Addr) (e : Int × Bool), x = .ref a ∧ ans[j]? = some e ∧ e.1 ∈ ws ∧ H1 a = some (.tup [.int e.1, .bl e.2]) := fun {j x} hx => by
      rw [List.getElem?_map] at hx
      cases ea : as[j]? with
      | none => rw [ea] at hx; cases hx
      | some a =>
        rw [ea] at hx
        have hj : j < ans.length := by rw [← has]; exact (List.getElem?_eq_some_iff.mp ea).1
        have ee : ans[j]? = some ans[j] := List.getElem?_eq_getElem hj
        have h1 := han j a _ ea ee
        exact ⟨a, _, (Option.some.inj hx).symm, ee, hin _ (List.mem_of_getElem? ee), s.keep _ _ h1 (ne_of h1 hR (by intro z; cases z))⟩
    -- the first count
    refine ⟨_, rfl, q, rfl, ⟨_, sqT hq1⟩, fun M nM => ?_⟩
    have sM : ∀ o, Same H1 (upd H1 M o) := fun o => samNew nM
    refine lc_filtT (K := K) (a := q) (xs := as.map V.ref) (ys := as.map V.ref) (ks := ans.map fun e => e.2 && (belowL ws ls e.1).contains w) (fun acc => sqT (sM _ _ _ hq1)) rfl (by simp [has]) (by rw [List.length_map]; omega) (fun j x y b' acc R' N hx hy hb r n => ?_) ?_
    · cases Option.some.inj (hx.symm.trans hy)
      obtain ⟨a, e, rfl, ee, hem, ha⟩ := ansOf hx
      rw [List.getElem?_map, ee] at hb
      have hb' : (e.2 && (belowL ws ls e.1).contains w) = b' := Option.some.inj hb
      obtain ⟨rw1, hv1, hl1⟩ := rowOf e.1 hem
      refine ⟨rfl, _, rfl, ixT (sM _ _ _ ha) rfl ⟨_, rfl, ite2 (fun z => ?_) (fun z => ?_)⟩⟩
      · refine ⟨_, rfl, _, rfl, _, rfl, ixT (sM _ _ _ ha) rfl ⟨R, .ref rw1, rfl, .inl ⟨_, Sum.inl e.1, .inr ⟨od, sM _ _ _ s.fz⟩, rfl, hv1.symm⟩, rw1, _, rfl, .inl (sqL (sM _ _ _ hl1)), rfl, flat_ints _, _, rfl, ?_⟩⟩
        show if inV (.int w) ((belowL ws ls e.1).map V.int) = true then _ else _
        rw [inV_ints]
        rw [z, Bool.true_and] at hb'
        rw [hb']
        exact ite2 (fun z => ⟨_, rfl, r z⟩) (fun z => n (Bool.eq_false_iff.mpr z))
      · rw [Bool.eq_false_iff.mpr z, Bool.false_and] at hb'
        exact iteF (n hb'.symm)
    have cnt1 : decide ((0 : Int) < ((sel (ans.map fun e => e.2 && (belowL ws ls e.1).contains w) (as.map V.ref)).length : Nat)) = hasP ws ls ans w := by
      rw [sel_pos (by simp [has]), map_any]
      rfl
    refine lenL updS ⟨_, _, rfl, rfl, _, rfl, ?_⟩
    rw [cnt1]
    have s1 : T3 H R A B C od (rowsKV ws ra) ((ws.take i).filter (hasP ws ls ans)) ((ws.take i).filter fun w => !hasP ws ls ans w && lacP ws ls ans w) ((ws.take i).filter fun w => !hasP ws ls ans w && !lacP ws ls ans w) (upd H1 M (.lst (sel (ans.map fun e => e.2 && (belowL ws ls e.1).contains w) (as.map V.ref)))) := s.new nM
    refine ite2 (fun e1 => ?_) (fun e1 => ?_)
    · refine ⟨_, rfl, .inl ⟨rfl, _, sqL s1.ha⟩, _, rfl, A, _, _, rfl, rfl, s1.ha, flt _, _, _, rfl, ?_⟩
      rw [filter_snoc ew, filter_snoc ew, filter_snoc ew, e1]
      simp only [Bool.not_true, Bool.false_and, if_true]
      rw [if_neg Bool.false_ne_true, List.append_nil, List.append_nil]
      exact s1.addA w
    · have e1' : hasP ws ls ans w = false := Bool.eq_false_iff.mpr e1
      generalize hH2 : upd H1 M (.lst (sel (ans.map fun e => e.2 && (belowL ws ls e.1).contains w) (as.map V.ref))) = H2 at *
      have s12 : Same H1 H2 := by rw [← hH2]; exact sM _
      -- the second count
      refine ⟨_, rfl, q, rfl, ⟨_, sqT (s12 _ _ hq1)⟩, fun M2 nM2 => ?_⟩
      have sM2 : ∀ o, Same H1 (upd H2 M2 o) := fun o => s12.trans (samNew nM2)
      refine lc_filtT (K := K) (a := q) (xs := as.map V.ref) (ys := as.map V.ref) (ks := ans.map fun e => !e.2 && (belowL ws ls w).contains e.1) (fun acc => sqT (sM2 _ _ _ hq1)) rfl (by simp [has]) (by rw [List.length_map]; omega) (fun j x y b' acc R' N hx hy hb r n => ?_) ?_
      · cases Option.some.inj (hx.symm.trans hy)
        obtain ⟨a, e, rfl, ee, hem, ha⟩ := ansOf hx
        rw [List.getElem?_map, ee] at hb
        have hb' : (!e.2 && (belowL ws ls w).contains e.1) = b' := Option.some.inj hb
        obtain ⟨rw1, hv1, hl1⟩ := rowOf w hwm
        refine ⟨rfl, _, rfl, ixT (sM2 _ _ _ ha) rfl ⟨_, rfl, ite2 (fun z => ?_) (fun z => ?_)⟩⟩
        · refine ⟨_, rfl, ixT (sM2 _ _ _ ha) rfl ⟨_, rfl, _, rfl, R, .ref rw1, rfl, .inl ⟨_, Sum.inl w, .inr ⟨od, sM2 _ _ _ s.fz⟩, rfl, hv1.symm⟩, rw1, _, rfl, .inl (sqL (sM2 _ _ _ hl1)), rfl, flat_ints _, _, rfl, ?_⟩⟩
          show if inV (.int e.1) ((belowL ws ls w).map V.int) = true then _ else _
          rw [inV_ints]
          rw [z, Bool.true_and] at hb'
          rw [hb']
          exact ite2 (fun z => ⟨_, rfl, r z⟩) (fun z => n (Bool.eq_false_iff.mpr z))
        · rw [Bool.eq_false_iff.mpr z, Bool.false_and] at hb'
          exact iteF (n hb'.symm)
      have cnt2 : decide ((0 : Int) < ((sel (ans.map fun e => !e.2 && (belowL ws ls w).contains e.1) (as.map V.ref)).length : Nat)) = lacP ws ls ans w := by
        rw [sel_pos (by simp [has]), map_any]
        rfl
      refine lenL updS ⟨_, _, rfl, rfl, _, rfl, ?_⟩
      rw [cnt2]
      have s2 : T3 H R A B C od (rowsKV ws ra) ((ws.take i).filter (hasP ws ls ans)) ((ws.take i).filter fun w => !hasP ws ls ans w && lacP ws ls ans w) ((ws.take i).filter fun w => !hasP ws ls ans w && !lacP ws ls ans w) (upd H2 M2 (.lst (sel (ans.map fun e => !e.2 && (belowL ws ls w).contains e.1) (as.map V.ref)))) := s1.new nM2
      refine ite2 (fun e2 => ?_) (fun e2 => ?_)
      · refine ⟨_, rfl, .inl ⟨rfl, _, sqL s2.hb⟩, _, rfl, B, _, _, rfl, rfl, s2.hb, flt _, _, _, rfl, ?_⟩
        rw [filter_snoc ew, filter_snoc ew, filter_snoc ew, e1', e2]
        simp only [Bool.not_true, Bool.not_false, Bool.true_and, Bool.and_false, if_true]
        rw [if_neg Bool.false_ne_true, List.append_nil, List.append_nil]
        exact s2.addB w
      · refine ⟨_, rfl, .inl ⟨rfl, _, sqL s2.hc⟩, _, rfl, C, _, _, rfl, rfl, s2.hc, flt _, _, _, rfl, ?_⟩
        rw [filter_snoc ew, filter_snoc ew, filter_snoc ew, e1', Bool.eq_false_iff.mpr e2]
        simp only [Bool.not_false, Bool.true_and, Bool.and_self, if_true]
        rw [if_neg Bool.false_ne_true, List.append_nil, List.append_nil]
        exact s2.addC w
  · rintro σ H1 ⟨z5, z6, rfl, s⟩
    rw [rowsKV_length hal, List.take_length] at s
    refine ⟨s.fz, ?_⟩
    have nRA2 : A ≠ R := nRA.symm
    have hA : upd H1 R (.dK (rowsKV ws ra)) A = _ := updN nRA.symm s.ha
    have hB : upd H1 R (.dK (rowsKV ws ra)) B = _ := updN nRB.symm s.hb
    have hC : upd H1 R (.dK (rowsKV ws ra)) C = _ := updN nRC.symm s.hc
    have sm : Same H (upd H1 R (.dK (rowsKV ws ra))) := fun b o e => by
      by_cases hb : b = R
      · subst hb
        rw [hR] at e
        cases e
        exact updS
      · exact updN hb (s.keep b o e hb)
    generalize upd H1 R (.dK (rowsKV ws ra)) = H7 at *
    refine ⟨_, rfl, A, _, rfl, .inl ⟨sqL hA, fun a na => ?_⟩⟩
    refine ⟨_, rfl, B, _, rfl, .inl ⟨sqL (samNew na _ _ hB), fun b nb => ?_⟩⟩
    refine ⟨_, rfl, C, _, rfl, .inl ⟨sqL (samNew nb _ _ (samNew na _ _ hC)), fun c nc' => ⟨by show (3 : Nat) ≤ sizeLine; decide, fun r nr => ?_⟩⟩⟩
    refine k r _ ?_ ?_ ⟨a, b, c, updS, ?_, ?_, ?_⟩
    · exact sm.trans (((samNew na).trans (samNew nb)).trans ((samNew nc').trans (samNew nr)))
    · exact sm.free ((samNew na).free ((samNew nb).free ((samNew nc').free nr)))
    · exact samNew nr _ _ (samNew nc' _ _ (samNew nb _ _ updS))
    · exact samNew nr _ _ (samNew nc' _ _ updS)
    · exact samNew nr _ _ updS
/-! ### the law -/
theorem hasP_eq {ws : List Int} {ls : List (Int × Int)} (g : Good ws ls) {ans : List (Int × Bool)} (hin : ∀ e ∈ ans, e.1 ∈ ws) (w : Int) : hasP ws ls ans w = hasB ls ans w := by
  rw [Bool.eq_iff_iff, hasB_iff g]
  unfold hasP
  rw [List.any_eq_true]
  refine ⟨fun ⟨e, he, h⟩ => ?_, fun ⟨s, hs, d⟩ => ⟨(s, true), hs, ?_⟩⟩
  · rw [Bool.and_eq_true, List.contains_iff_mem, mem_belowL g (hin e he)] at h
    obtain ⟨u, b⟩ := e
    cases (show b = true from h.1)
    exact ⟨u, he, h.2⟩
  · rw [Bool.and_eq_true, List.contains_iff_mem, mem_belowL g (hin (s, true) hs)]
    exact ⟨rfl, d⟩
theorem lacP_eq {ws : List Int} {ls : List (Int × Int)} (g : Good ws ls) {ans : List (Int × Bool)} {w : Int} (hw : w ∈ ws) : lacP ws ls ans w = lacB ls ans w := by
  rw [Bool.eq_iff_iff, lacB_iff g]
  unfold lacP
  rw [List.any_eq_true]
  refine ⟨fun ⟨e, he, h⟩ => ?_, fun ⟨s, hs, d⟩ => ⟨(s, false), hs, ?_⟩⟩
  · rw [Bool.and_eq_true, List.contains_iff_mem, mem_belowL g hw] at h
    obtain ⟨u, b⟩ := e
    cases b
    · exact ⟨u, he, h.2⟩
    · cases h.1
  · rw [Bool.and_eq_true, List.contains_iff_mem, mem_belowL g hw]
    exact ⟨rfl, d⟩
theorem trip_same {H : Hp} {r r' : Addr} {x y z : List Int} (h : TripAt H r x y z) (h' : TripAt H r' x y z) (hx : x.length ≤ 1000) (hy : y.length ≤ 1000) (hz : z.length ≤ 1000) : SameV H 6 (.ref r) (.ref r') := by
  obtain ⟨a, b, c, h1, h2, h3, h4⟩ := h
  obtain ⟨a', b', c', h1', h2', h3', h4'⟩ := h'
  refine SameV.tup h1 h1' rfl (by show (3 : Nat) ≤ 100000; decide) fun i u v hu hv => ?_
  match i, hu, hv with
  | 0, hu, hv =>
    cases Option.some.inj hu
    cases Option.some.inj hv
    exact SameV.tup h2 h2' rfl (by rw [List.length_map]; omega) SameV.ints
  | 1, hu, hv =>
    cases Option.some.inj hu
    cases Option.some.inj hv
    exact SameV.tup h3 h3' rfl (by rw [List.length_map]; omega) SameV.ints
  | 2, hu, hv =>
    cases Option.some.inj hu
    cases Option.some.inj hv
    exact SameV.tup h4 h4' rfl (by rw [List.length_map]; omega) SameV.ints
theorem TripAt.mono {H H' : Hp} {r : Addr} {x y z : List Int} (h : TripAt H r x y z) (s : Same H H') : TripAt H' r x y z := by
  obtain ⟨a, b, c, h1, h2, h3, h4⟩ := h
  exact ⟨a, b, c, s _ _ h1, s _ _ h2, s _ _ h3, s _ _ h4⟩
/-- right answers of a holding that has with each version all below it are not contrary -/
theorem right_not_contrary {ls : List (Int × Int)} {ans : List (Int × Bool)} {fs ws : List Int} (hm : ∀ e ∈ ans, e.1 ∈ ws ∧ e.2 = fs.contains e.1) (cl : ∀ x ∈ fs, ∀ y, Dn ls x y → y ∈ fs) : NotContrary ls ans := fun v u hv hu d => by
  have h1 := (hm _ hv).2
  have h2 := (hm _ hu).2
  have := cl v (List.contains_iff_mem.mp h1.symm) u d
  rw [List.contains_iff_mem.mpr this] at h2
  cases h2
end
end Fw

set_option Elab.async false
set_option linter.all false
set_option maxRecDepth 100000
set_option maxHeartbeats 4000000
namespace Fw
open PySem L2 RZ RT
abbrev N_law : List Str := ["_law_script", "_law_deck_here", "_law_web", "_law_rows", "_law_held", "_law_told", "_law_most", "_law_chain", "_law_many", "_law_answers", "_law_turn", "_law_wide", "_law_left", "_law_version", "_law_asks", "_law_at", "_law_one", "_law_lacking"]
def t_law_put (K : PySem.W.Frag) : TS := (tAsg (tOp (rCatA K) (tOp (rCatA K) (tSl (rSlA K) (tVar 9) tNoPart (tPart (tVar 15))) (tTup (tCons (tTup (tCons (tVar 13) (tCons (tOp (rIn K false) (tVar 13) (tVar 4)) tNil))) tNil))) (tSl (rSlA K) (tVar 9) (tPart (tVar 15)) tNoPart)) (gName 9))
def t_law_ver (K : PySem.W.Frag) : TS := (tSeq (tIfS (tTest (tOp (rIn K false) (tVar 13) (tLc (iTup K (tVar 9)) (gName 16) tYes (tOp (rIx K) (tVar 16) (tC (.int 0))) [16]))) (tRet (tC (.bl false))) tNext)
    (tSeq (tAsg (tCall (sp_l_draw K) [] E0 (tCons (tVar 1) (tCons (tOp rAddI (tCB (fLen K) (tCons (tVar 9) tNil)) (tC (.int 1))) tNil))) (gName 15))
    (t_law_put K)))
def t_law_asks (K : PySem.W.Frag) : TS := (tFor (iTup K (tVar 14)) (gName 13) (t_law_ver K))
def t_law_mid (K : PySem.W.Frag) : TS := (tSeq (tIfS (tNot (tB (tCall (sp_l_same K) [] E0 (tCons (tVar 14) (tCons (tCall (sp_l_middlesT K) [] E0 (tCons (tOp (rIx K) (tVar 5) (tC (.int 0))) (tCons (tVar 12) (tCons (tVar 11) tNil)))) tNil))))) (tRet (tC (.bl false))) tNext)
    (t_law_asks K))
def t_law_turn (K : PySem.W.Frag) : TS := (tSeq (tAsg (tOp rAddI (tC (.int 1)) (tCall (sp_l_draw K) [] E0 (tCons (tVar 1) (tCons (tC (.int 20)) tNil)))) (gName 11))
    (tSeq (tAsg (tOp (rIx K) (tCall (sp_l_settled K) [] E0 (tCons (tVar 3) (tCons (tVar 9) tNil))) (tC (.int 2))) (gName 12))
    (tSeq (tIfS (tTest (tOp rEq (tCall (sp_l_draw K) [] E0 (tCons (tVar 1) (tCons (tC (.int 3)) tNil))) (tC (.int 0)))) (tSeq (tAsg (tC (.int 4)) (gName 11))
    (tAsg (tCall (sp_next_asks K) [.int 4] E0 (tCons (tVar 2) (tCons (tVar 5) (tCons (tVar 9) tNil)))) (gName 14))) (tAsg (tCallN 3 (List.length (α := Str) ["few"]) (sp_next_asks K) (fun us ws => (fun mv : List V => us ++ ((ws.drop 0).take 1)) []) E0 (tCons (tVar 2) (tCons (tVar 5) (tCons (tVar 9) tNil))) (tCons (tVar 11) tNil)) (gName 14)))
    (t_law_mid K))))
def t_law_last (K : PySem.W.Frag) : TS := (tRet (tAndV (tOp rLeI (tCB (fLen K) (tCons (tVar 9) tNil)) (tVar 6)) (tAndV (tCall (sp_l_same K) [] E0 (tCons (tCall (sp_most_asks K) [] E0 (tCons (tVar 5) tNil)) (tCons (tVar 6) tNil))) (tCall (sp_l_same K) [] E0 (tCons (tC (.int 4)) (tCons (tC (.int 4)) tNil))))))
def t_law_fin (K : PySem.W.Frag) : TS := (tSeq (tIfS (tNot (tB (tCall (sp_l_same K) [] E0 (tCons (tCall (sp_settled K) [] E0 (tCons (tVar 2) (tCons (tVar 9) tNil))) (tCons (tTup (tCons (tCB (fTupleOf K) (tCons (tVar 4) tNil)) (tCons (tCB (fTupleOf K) (tCons (tVar 17) tNil)) (tCons (tTup tNil) tNil)))) tNil))))) (tRet (tC (.bl false))) tNext)
    (t_law_last K))
def t_law_end (K : PySem.W.Frag) : TS := (tSeq (tAsg (tLc (iTup K (tOp (rIx K) (tVar 2) (tC (.int 0)))) (gName 13) (tTest (tOp (rIn K true) (tVar 13) (tVar 4))) (tVar 13) [13]) (gName 17))
    (t_law_fin K))
def t_law_turns (K : PySem.W.Frag) : TS := (tSeq (tFor (iRng1 (tCons (tC (.int 12)) tNil)) (gName 10) (t_law_turn K))
    (t_law_end K))
def t_law_most (K : PySem.W.Frag) : TS := (tSeq (tFor (iTup K (tOp (rIx K) (tVar 5) (tC (.int 0)))) (gName 7) (tSeq (tAsg (tCB (fLen K) (tCons (tVar 7) tNil)) (gName 8))
    (tWhile (tTest (tOp rGtI (tVar 8) (tC (.int 0)))) (tSeq (tAsg (tOp rAddI (tVar 6) (tC (.int 1))) (gName 6))
    (tAsg (tOp rDivI (tVar 8) (tC (.int 2))) (gName 8))))))
    (tSeq (tAsg (tTup tNil) (gName 9))
    (t_law_turns K)))
def t_law_is (K : PySem.W.Frag) : TS := (tSeq (tIfS (tNot (tB (tCall (sp_l_is_cover K) [] E0 (tCons (tVar 2) (tCons (tVar 3) (tCons (tVar 5) tNil)))))) (tRet (tC (.bl false))) tNext)
    (tSeq (tAsg (tC (.int 0)) (gName 6))
    (t_law_most K)))
def t_law_cov (K : PySem.W.Frag) : TS := (tSeq (tAsg (tCall (sp_cover K) [] E0 (tCons (tVar 2) tNil)) (gName 5))
    (tSeq (tIfS (tTest (tOp rEq (tCall (sp_l_draw K) [] E0 (tCons (tVar 1) (tCons (tC (.int 2)) tNil))) (tC (.int 0)))) (tAsg (tCall (sp_l_own_cover K) [] E0 (tCons (tVar 1) (tCons (tVar 3) tNil))) (gName 5)) tNext)
    (t_law_is K)))
def t_law (K : PySem.W.Frag) : TS := (tSeq (tAsg (tCall (sp_l_deck K) [] E0 (tCons (tVar 0) tNil)) (gName 1))
    (tSeq (tAsg (tCall (sp_l_sladW K) [] E0 (tCons (tVar 1) (tCons (tC (.int 10)) (tCons (tC (.int 60)) tNil)))) (gName 2))
    (tSeq (tAsg (tCall (sp_l_spans K) [] E0 (tCons (tVar 2) tNil)) (gName 3))
    (tSeq (tAsg (tCall (sp_l_lower K) [] E0 (tCons (tVar 1) (tCons (tVar 3) tNil))) (gName 4))
    (t_law_cov K)))))
/-! ### tuples joined and cut, whichever object it is -/
section
variable {K : PySem.W.Frag} {H : Hp} {Q : VK}
theorem catA {a b : Addr} {xs ys : List V} (ha : H a = some (.tup xs)) (hb : H b = some (.tup ys)) (hz : xs.length + ys.length ≤ 1000) (k : ∀ r H', Same H H' → H' r = some (.tup (xs ++ ys)) → Q (.ref r) H') : rCatA K (.ref a) (.ref b) H Q := by
  refine ⟨a, b, xs, ys, rfl, rfl, sqT ha, sqT hb, Nat.le_trans hz (by decide), fun e => ?_, fun _ e => ?_, fun _ _ p np => k p _ (samNew np) updS⟩
  · subst e
    exact k b H (.refl _) hb
  · subst e
    exact k a H (.refl _) (by rw [List.append_nil]; exact ha)
theorem slTo {a : Addr} {xs : List V} {n : Nat} (ha : H a = some (.tup xs)) (k : ∀ r H', Same H H' → H' r = some (.tup (xs.take n)) → Q (.ref r) H') : rSlA K (.ref a) none (some (n : Int)) H Q := by
  refine ⟨a, xs, rfl, sqT ha, fun ⟨_, e⟩ => k a H (.refl _) ?_, fun _ p np => k p _ (samNew np) (by rw [updS, cut_to])⟩
  rw [HT.sIx_nat] at e
  rw [List.take_of_length_le (by omega)]
  exact ha
theorem cut_from {xs : List V} {n : Nat} : cutV xs (some (n : Int)) none = xs.drop n := by
  unfold cutV
  rw [HT.sIx_none, HT.sIx_nat]
  rcases Nat.le_total n xs.length with z | z
  · rw [Nat.min_eq_left z, List.take_of_length_le (by rw [List.length_drop]; omega)]
  · rw [Nat.min_eq_right z, List.drop_length, List.take_nil, List.drop_of_length_le z]
theorem slFrom {a : Addr} {xs : List V} {n : Nat} (ha : H a = some (.tup xs)) (k : ∀ r H', Same H H' → H' r = some (.tup (xs.drop n)) → Q (.ref r) H') : rSlA K (.ref a) (some (n : Int)) none H Q := by
  refine ⟨a, xs, rfl, sqT ha, fun ⟨e, _⟩ => k a H (.refl _) ?_, fun _ p np => k p _ (samNew np) (by rw [updS, cut_from])⟩
  rw [HT.sIx_nat] at e
  by_cases h : xs.length = 0
  · have hx := List.length_eq_zero_iff.mp h
    subst hx
    rw [List.drop_nil]
    exact ha
  · rw [show n = 0 by omega, List.drop_zero]
    exact ha
end
theorem moreA_snoc {hs asks : List Int} {i : Nat} {v : Int} (h : asks[i]? = some v) : moreA hs (asks.take (i + 1)) = moreA hs (asks.take i) ++ [(v, hs.contains v)] := by
  unfold moreA
  rw [take_snoc h, List.map_append]
  rfl
theorem AnsAt.ins {H' : Hp} {q' T : Addr} {ans : List (Int × Bool)} {as : List Addr} {e : Int × Bool} {k : Nat} (hl : as.length = ans.length) (hp : ∀ (i : Nat) (a : Addr) (e : Int × Bool), as[i]? = some a → ans[i]? = some e → H' a = some (.tup [.int e.1, .bl e.2])) (hT : H' T = some (.tup [.int e.1, .bl e.2])) (hq : H' q' = some (.tup (((as.map V.ref).take k ++ [.ref T]) ++ (as.map V.ref).drop k))) : AnsAt H' q' ((ans.take k ++ [e]) ++ ans.drop k) := by
  refine ⟨(as.take k ++ [T]) ++ as.drop k, by rw [hq, List.map_append, List.map_append, List.map_take, List.map_drop]; rfl, by rw [List.length_append, List.length_append, List.length_append, List.length_append, List.length_take, List.length_take, List.length_drop, List.length_drop, hl]; rfl, fun i a x h1 h2 => ?_⟩
  have lt : (as.take k).length = (ans.take k).length := by rw [List.length_take, List.length_take, hl]
  have l1 : (as.take k ++ [T]).length = (ans.take k ++ [e]).length := by rw [List.length_append, List.length_append, lt]; rfl
  by_cases hi : i < (as.take k ++ [T]).length
  · rw [List.getElem?_append_left hi] at h1
    rw [List.getElem?_append_left (by rw [← l1]; exact hi)] at h2
    rcases snoc_get h1 with ⟨hj, h1⟩ | ⟨hj, rfl⟩
    · rcases snoc_get h2 with ⟨_, h2⟩ | ⟨hj2, _⟩
      · rw [List.length_take] at hj
        rw [List.getElem?_take_of_lt (by omega)] at h1 h2
        exact hp i a x h1 h2
      · rw [hj2, ← lt] at hj
        exact absurd hj (Nat.lt_irrefl _)
    · rcases snoc_get h2 with ⟨hj2, _⟩ | ⟨_, rfl⟩
      · rw [hj, lt] at hj2
        exact absurd hj2 (Nat.lt_irrefl _)
      · exact hT
  · rw [List.getElem?_append_right (by omega)] at h1
    rw [List.getElem?_append_right (by omega), ← l1] at h2
    rw [List.getElem?_drop] at h1 h2
    exact hp _ a x h1 h2
/-- what stands while the law goes on -/
structure L20 (c D p R S r : Addr) (ns ws hs : List Int) (ls : List (Int × Int)) (ra : List Addr) (cs : List (List Int)) (ap : List Int) (t : Nat) (H : Hp) : Prop where
  dk : Dk c D ns t H
  sh : ShapeAt H p ws ls
  rows : RowsAt H R ws ls ws ra
  cov : CovAt H r cs ap
  hS : H S = some (.lst (hs.map V.int))
  rD : R ≠ D
  raD : ∀ b ∈ ra, b ≠ D
  sD : S ≠ D
section
variable {K : PySem.W.Frag} {vs : List V} {H : Hp} {Q : VK} {E : XK} {c D p R S r a : Addr} {ns ws hs : List Int} {ls : List (Int × Int)} {ra : List Addr} {cs : List (List Int)} {ap : List Int} {t : Nat}
theorem L20.same {H' : Hp} (h : L20 c D p R S r ns ws hs ls ra cs ap t H) (s : Same H H') : L20 c D p R S r ns ws hs ls ra cs ap t H' :=
  ⟨h.dk.same s, h.sh.mono fun b xs e => s _ _ e, h.rows.mono fun b o e _ => s b o e, by
    obtain ⟨ta, tb, ca, h1, h2, h3, h4, h5⟩ := h.cov
    exact ⟨ta, tb, ca, s _ _ h1, s _ _ h2, s _ _ h3, h4, fun i a c x y => s _ _ (h5 i a c x y)⟩, s _ _ h.hS, h.rD, h.raD, h.sD⟩
theorem L20.draw {H' : Hp} {t' : Nat} (h : L20 c D p R S r ns ws hs ls ra cs ap t H) (d : Dk c D ns t' H') (k : Kp D H H') : L20 c D p R S r ns ws hs ls ra cs ap t' H' :=
  have tp : ∀ b xs, H b = some (.tup xs) → H' b = some (.tup xs) := fun b xs e => k.tup h.dk b xs e
  ⟨d, h.sh.mono tp, h.rows.mono fun b o e hb => k b o e (hb.elim (fun z => by rw [z]; exact h.rD) fun z => h.raD b z), by
    obtain ⟨ta, tb, ca, h1, h2, h3, h4, h5⟩ := h.cov
    exact ⟨ta, tb, ca, tp _ _ h1, tp _ _ h2, tp _ _ h3, h4, fun i a c x y => tp _ _ (h5 i a c x y)⟩, k _ _ h.hS h.sD, h.rD, h.raD, h.sD⟩
theorem law_end {q : Addr} {ans : List (Int × Bool)} {z7 z8 z10 z11 z12 z13 z14 z15 z16 : Option V} (st : L20 c D p R S r ns ws hs ls ra cs ap t H) (g : Good ws ls) (ok : CovOk ws ls cs ap) (cl : Closed ws ls hs) (inc : hs.Pairwise (· < ·)) (hw : ws.length ≤ 60) (hls : ls.length ≤ 4000) (an : AnsAt H q ans) (fi : FewI ws hs ls cs ans) (hn : ¬ ∃ v ∈ ws, lfB ls ans v = true) (k : ∀ H', Q (.bl true) H') :
    t_law_end K { nx := fun _ H' => Q .non H', rt := Q } [some (.ref a), some (.ref D), some (.ref p), some (.ref R), some (.ref S), some (.ref r), some (.int (bsum cs : Nat)), z7, z8, some (.ref q), z10, z11, z12, z13, z14, z15, z16, none] H := by
  obtain ⟨a0, r0, rs, hp, ha0, hr0, lk⟩ := id st.sh
  have hal := fi.a.len g
  dsimp only [t_law_end, tSeq, tAsg]
  refine tLc_tupF (K := K) (σ := [some (.ref a), some (.ref D), some (.ref p), some (.ref R), some (.ref S), some (.ref r), some (.int (bsum cs : Nat)), z7, z8, some (.ref q), z10, z11, z12, z13, z14, z15, z16, none]) (s := 13) (te := tOp (rIx K) (tVar 2) (tC (.int 0))) (a := a0) (p := fun w => !hs.contains w) (fun R z => ⟨_, rfl, ixT hp rfl z⟩) (by show (13 : Nat) < 18; decide) ha0 (by omega) (fun w H' Y hw s y => ?_) fun X H1 nX s1 hX => ?_
  · refine ⟨_, rfl, _, rfl, S, _, rfl, .inl (sqL (s _ _ st.hS)), rfl, flat_ints _, _, rfl, ?_⟩
    rw [inV_ints]
    exact y H' (.refl _)
  have st1 := st.same s1
  obtain ⟨e1, e2, e3⟩ := all_settled g cl inc fi.a.r hn
  have hhl : hs.length ≤ 60 := Nat.le_trans (length_sub (rising_nodup inc) fun x hx => (cl x hx).1) hw
  show t_law_fin K { nx := fun _ H' => Q .non H', rt := Q } [some (.ref a), some (.ref D), some (.ref p), some (.ref R), some (.ref S), some (.ref r), some (.int (bsum cs : Nat)), z7, z8, some (.ref q), z10, z11, z12, z13, z14, z15, z16, some (.ref X)] H1
  refine ⟨_, rfl, _, rfl, p, q, ws, ls, ans, rfl, st1.sh, g, by omega, by omega, an.mono fun b xs e => s1 _ _ e, by omega, fi.a.nd, fi.a.r.nc cl, fun f H2 s2 nf tr => ?_⟩
  rw [e1, e2, e3] at tr
  have s12 := s1.trans s2
  refine ⟨_, rfl, S, _, rfl, .inl ⟨sqL (s12 _ _ st.hS), fun T1 n1 => ?_⟩⟩
  have s3 : Same H2 (upd H2 T1 (.tup (hs.map V.int))) := samNew n1
  have hT1 : upd H2 T1 (.tup (hs.map V.int)) T1 = some (.tup (hs.map V.int)) := updS
  generalize upd H2 T1 (.tup (hs.map V.int)) = H3 at s3 hT1
  refine ⟨_, rfl, X, _, rfl, .inl ⟨sqL (s3 _ _ (s2 _ _ hX)), fun T2 n2 => ?_⟩⟩
  have s4 : Same H3 (upd H3 T2 (.tup ((ws.filter fun w => !hs.contains w).map V.int))) := samNew n2
  have hT2 : upd H3 T2 (.tup ((ws.filter fun w => !hs.contains w).map V.int)) T2 = some (.tup ((ws.filter fun w => !hs.contains w).map V.int)) := updS
  generalize upd H3 T2 (.tup ((ws.filter fun w => !hs.contains w).map V.int)) = H4 at s4 hT2
  refine ⟨by show (0 : Nat) ≤ sizeLine; decide, fun T3 n3 => ?_⟩
  have s5 : Same H4 (upd H4 T3 (.tup [])) := samNew n3
  have hT3 : upd H4 T3 (.tup []) T3 = some (.tup []) := updS
  generalize upd H4 T3 (.tup []) = H5 at s5 hT3
  refine ⟨by show (3 : Nat) ≤ sizeLine; decide, fun T n => ?_⟩
  have s6 : Same H5 (upd H5 T (.tup [.ref T1, .ref T2, .ref T3])) := samNew n
  have hT : upd H5 T (.tup [.ref T1, .ref T2, .ref T3]) T = some (.tup [.ref T1, .ref T2, .ref T3]) := updS
  generalize upd H5 T (.tup [.ref T1, .ref T2, .ref T3]) = H6 at s6 hT
  have s26 := ((s3.trans s4).trans s5).trans s6
  have tr2 : TripAt H6 T hs (ws.filter fun w => !hs.contains w) [] := ⟨T1, T2, T3, hT, s6 _ _ (s5 _ _ (s4 _ _ hT1)), s6 _ _ (s5 _ _ hT2), s6 _ _ hT3⟩
  refine ⟨_, _, rfl, trip_same (tr.mono s26) tr2 (by omega) (Nat.le_trans (List.length_filter_le _ _) (by omega)) (by show (0 : Nat) ≤ 1000; decide), _, rfl, iteF ?_⟩
  have sA := s12.trans s26
  obtain ⟨as, hq, hl, hpr⟩ := an
  have st6 := st.same sA
  have zc : cs.length ≤ 1000 := by
    have := length_sub (rising_nodup ok.api) ok.apm
    have := ok.len
    omega
  show t_law_last K { nx := fun _ H' => Q .non H', rt := Q } [some (.ref a), some (.ref D), some (.ref p), some (.ref R), some (.ref S), some (.ref r), some (.int (bsum cs : Nat)), z7, z8, some (.ref q), z10, z11, z12, z13, z14, z15, z16, some (.ref X)] H6
  refine ⟨_, rfl, lenT (sA _ _ hq) ⟨_, rfl, _, _, rfl, rfl, _, rfl, ?_⟩⟩
  rw [decide_eq_true (show ((as.map V.ref).length : Int) ≤ (bsum cs : Nat) by rw [List.length_map, hl]; have := fi.n; omega)]
  refine iteT ⟨_, rfl, r, cs, ap, rfl, st6.cov, zc, fun H7 s7 => ?_⟩
  refine ⟨_, rfl, _, _, rfl, SameV.int rfl, _, rfl, iteT ?_⟩
  exact ⟨_, _, rfl, SameV.int rfl, k _⟩
theorem law_asks {E1 : Ends} {q T : Addr} {ans0 : List (Int × Bool)} {asks : List Int} {z6 z7 z8 z10 z11 z12 z13 z15 z16 : Option V} (st : L20 c D p R S r ns ws hs ls ra cs ap t H) (ht : t + 100 < 1000000) (hw : ws.length ≤ 60) (an : AnsAt H q ans0) (hT : H T = some (.tup (asks.map V.int))) (hz : ans0.length + asks.length ≤ 60) (nda : asks.Nodup) (new : ∀ x ∈ asks, x ∉ ans0.map (·.1))
    (k : ∀ (q' : Addr) (ans : List (Int × Bool)) (H' : Hp) (z13 z15 z16 : Option V), L20 c D p R S r ns ws hs ls ra cs ap (t + 60) H' → ans.Perm (ans0 ++ moreA hs asks) → AnsAt H' q' ans → E1.nx [some (.ref a), some (.ref D), some (.ref p), some (.ref R), some (.ref S), some (.ref r), z6, z7, z8, some (.ref q'), z10, z11, z12, z13, some (.ref T), z15, z16, none] H') :
    t_law_asks K E1 [some (.ref a), some (.ref D), some (.ref p), some (.ref R), some (.ref S), some (.ref r), z6, z7, z8, some (.ref q), z10, z11, z12, z13, some (.ref T), z15, z16, none] H := by
  refine ⟨_, rfl, T, rfl, ⟨_, sqT hT⟩, ?_⟩
  refine for_tup (K := K) (a := T) (xs := asks.map V.int) (fun i σ H' => ∃ (q' : Addr) (ans : List (Int × Bool)) (z13 z15 z16 : Option V), σ = [some (.ref a), some (.ref D), some (.ref p), some (.ref R), some (.ref S), some (.ref r), z6, z7, z8, some (.ref q'), z10, z11, z12, z13, some (.ref T), z15, z16, none] ∧ L20 c D p R S r ns ws hs ls ra cs ap (t + i) H' ∧ H' T = some (.tup (asks.map V.int)) ∧ ans.Perm (ans0 ++ moreA hs (asks.take i)) ∧ AnsAt H' q' ans) ⟨q, ans0, z13, z15, z16, rfl, st, hT, by rw [List.take_zero]; show ans0.Perm (ans0 ++ []); rw [List.append_nil], an⟩ (fun i σ H' _ ⟨_, _, _, _, _, _, _, h, _⟩ => sqT h) ?_ ?_
  · rintro i x σ H1 hx ⟨q1, ans, z13, z15, z16, rfl, s1, hT1, pm, an1⟩
    obtain ⟨v, rfl, ev⟩ := int_at hx
    obtain ⟨hi, _⟩ := List.getElem?_eq_some_iff.mp ev
    have hlen : ans.length = ans0.length + i := by
      rw [pm.length_eq, List.length_append]
      unfold moreA
      rw [List.length_map, List.length_take]
      omega
    have nin : v ∉ ans.map (·.1) := fun hm => by
      have := (pm.map (·.1)).mem_iff.mp hm
      rw [List.map_append, moreA_map] at this
      rcases List.mem_append.mp this with h | h
      · exact new v (List.mem_of_getElem? ev) h
      · obtain ⟨j, hj, e⟩ := List.getElem_of_mem h
        rw [List.length_take] at hj
        rw [List.getElem_take] at e
        have := (List.getElem_inj nda).mp (e.trans (List.getElem?_eq_some_iff.mp ev).2.symm)
        omega
    obtain ⟨as, hq, hl, hpr⟩ := an1
    show t_law_ver K _ [some (.ref a), some (.ref D), some (.ref p), some (.ref R), some (.ref S), some (.ref r), z6, z7, z8, some (.ref q1), z10, z11, z12, some (.int v), some (.ref T), z15, z16, none] H1
    -- not asked before
    refine ⟨_, rfl, _, rfl, q1, rfl, ⟨_, sqT hq⟩, fun A nA => ?_⟩
    refine lc_it (walk_tup (xs := as.map V.ref)) (fun j H' => Same H1 H' ∧ H' A = some (.lst (((ans.take j).map (·.1)).map V.int))) ⟨samNew nA, updS⟩ (fun j H' _ q' => sqT (q'.1 _ _ hq)) ?_ ?_
    · rintro j y H2 H3 hj ⟨s2, hD⟩ ⟨rfl, hy⟩
      obtain ⟨b, rfl, eb⟩ := ref_at hy
      have hj2 : j < ans.length := by rw [← hl]; exact (List.getElem?_eq_some_iff.mp eb).1
      have ee := List.getElem?_eq_getElem hj2
      generalize ans[j] = e at ee
      have hb := s2 _ _ (hpr j b e eb ee)
      refine ⟨rfl, _, rfl, ixT hb rfl ⟨_, hD, ?_, Same.updF s2 nA, ?_⟩⟩
      · rw [List.length_map, List.length_map, List.length_take]
        exact Nat.lt_of_le_of_lt (show min j ans.length ≤ 1000 by omega) (by decide)
      · rw [updS, take_snoc ee, List.map_append, List.map_append]
        rfl
    rintro H2 ⟨s2, hA⟩
    rw [List.length_map, hl, List.take_length] at hA
    refine ⟨A, _, rfl, .inl (sqL hA), rfl, flat_ints _, _, rfl, ?_⟩
    have ein : (if false = true then !inV (.int v) ((ans.map (·.1)).map V.int) else inV (.int v) ((ans.map (·.1)).map V.int)) = false := by rw [if_neg (by decide), inV_ints, contains_not nin]
    rw [ein]
    refine iteF ?_
    have s1' := s1.same s2
    have hq2 := s2 _ _ hq
    refine ⟨_, rfl, _, rfl, lenT hq2 ⟨_, _, rfl, rfl, c, D, ns, _, _, rfl, s1'.dk, by omega, by rw [List.length_map]; omega, small100 (by rw [List.length_map]; omega), fun y H3 y0 y1 d3 f3 => ?_⟩⟩
    obtain ⟨Y, rfl⟩ := Int.eq_ofNat_of_zero_le y0
    have k3 : Kp D H2 H3 := .fr f3
    have s3 := s1'.draw d3 k3
    have tp : ∀ b xs, H1 b = some (.tup xs) → H3 b = some (.tup xs) := fun b xs e => k3.tup s1'.dk b xs (s2 _ _ e)
    have hq3 := tp _ _ hq
    have hT3 := tp _ _ hT1
    have hpr3 : ∀ (i : Nat) (a : Addr) (e : Int × Bool), as[i]? = some a → ans[i]? = some e → H3 a = some (.tup [.int e.1, .bl e.2]) := fun j b e h1 h2 => tp _ _ (hpr j b e h1 h2)
    show t_law_put K _ [some (.ref a), some (.ref D), some (.ref p), some (.ref R), some (.ref S), some (.ref r), z6, z7, z8, some (.ref q1), z10, z11, z12, some (.int v), some (.ref T), some (.int (Y : Int)), z16, none] H3
    dsimp only [t_law_put, tAsg, tOp, tSl, tNoPart, tPart]
    refine ⟨_, rfl, _, rfl, _, rfl, slTo hq3 fun x1 H4 s4 hx1 => ?_⟩
    refine ⟨_, rfl, _, rfl, _, rfl, S, _, rfl, .inl (sqL (s4 _ _ s3.hS)), rfl, flat_ints _, by show (2 : Nat) ≤ sizeLine; decide, fun T1 n1 => ⟨by show (1 : Nat) ≤ sizeLine; decide, fun T2 n2 => ?_⟩⟩
    have ein2 : (if false = true then !inV (.int v) (hs.map V.int) else inV (.int v) (hs.map V.int)) = hs.contains v := by rw [if_neg (by decide), inV_ints]
    rw [ein2] at n2 ⊢
    have s5 : Same H4 (upd (upd H4 T1 (.tup [.int v, .bl (hs.contains v)])) T2 (.tup [.ref T1])) := (samNew n1).trans (samNew n2)
    have hT1' : upd (upd H4 T1 (.tup [.int v, .bl (hs.contains v)])) T2 (.tup [.ref T1]) T1 = some (.tup [.int v, .bl (hs.contains v)]) := samNew n2 _ _ updS
    have hT2' : upd (upd H4 T1 (.tup [.int v, .bl (hs.contains v)])) T2 (.tup [.ref T1]) T2 = some (.tup [.ref T1]) := updS
    generalize upd (upd H4 T1 (.tup [.int v, .bl (hs.contains v)])) T2 (.tup [.ref T1]) = H5 at s5 hT1' hT2'
    have al : (as.map V.ref).length ≤ 60 := by rw [List.length_map, hl]; omega
    refine catA (s5 _ _ hx1) hT2' (by rw [List.length_take, List.length_singleton]; omega) fun x2 H6 s6 hx2 => ?_
    have hq6 := s6 _ _ (s5 _ _ (s4 _ _ hq3))
    refine ⟨_, rfl, _, rfl, _, rfl, slFrom hq6 fun x3 H7 s7 hx3 => ?_⟩
    refine catA (s7 _ _ hx2) hx3 (by rw [List.length_append, List.length_take, List.length_drop, List.length_singleton]; omega) fun x4 H8 s8 hx4 => ?_
    have s38 := (((s4.trans s5).trans s6).trans s7).trans s8
    refine ⟨x4, _, _, _, _, rfl, (s3.same s38 : _), s38 _ _ hT3, ?_, AnsAt.ins (e := (v, hs.contains v)) hl (fun j b e h1 h2 => s38 _ _ (hpr3 j b e h1 h2)) (s8 _ _ (s7 _ _ (s6 _ _ hT1'))) hx4⟩
    rw [moreA_snoc ev, ← List.append_assoc]
    have pm1 : ((ans.take Y ++ [(v, hs.contains v)]) ++ ans.drop Y).Perm (ans ++ [(v, hs.contains v)]) := by
      rw [List.append_assoc]
      refine (List.perm_append_left_iff _).mpr (List.perm_append_comm) |>.trans ?_
      rw [← List.append_assoc, List.take_append_drop]
    exact pm1.trans (pm.append_right _)
  · rintro σ H1 ⟨q1, ans, z13, z15, z16, rfl, s1, hT1, pm, an1⟩
    rw [List.length_map] at s1 pm
    rw [List.take_length] at pm
    exact k q1 ans H1 _ _ _ ⟨s1.dk.le (by omega), s1.sh, s1.rows, s1.cov, s1.hS, s1.rD, s1.raD, s1.sD⟩ pm an1
theorem law_mid {E1 : Ends} {q T L : Addr} {X : Nat} {ans : List (Int × Bool)} {z6 z7 z8 z10 z13 z15 z16 : Option V} (hX : 1 ≤ X) (st : L20 c D p R S r ns ws hs ls ra cs ap t H) (g : Good ws ls) (ok : CovOk ws ls cs ap) (ht : t + 100 < 1000000) (hw : ws.length ≤ 60) (an : AnsAt H q ans) (fi : FewI ws hs ls cs ans) (hT : H T = some (.tup (((mids (lfB ls ans) cs).take X).map V.int))) (hL : H L = some (.tup ((ws.filter fun w => !hasP ws ls ans w && !lacP ws ls ans w).map V.int)))
    (k : ∀ (q' : Addr) (ans' : List (Int × Bool)) (H' : Hp) (z11 z12 z13 z14 z15 z16 : Option V), L20 c D p R S r ns ws hs ls ra cs ap (t + 60) H' → ans'.Perm (ans ++ moreA hs ((mids (lfB ls ans) cs).take X)) → AnsAt H' q' ans' → E1.nx [some (.ref a), some (.ref D), some (.ref p), some (.ref R), some (.ref S), some (.ref r), z6, z7, z8, some (.ref q'), z10, z11, z12, z13, z14, z15, z16, none] H') :
    t_law_mid K E1 [some (.ref a), some (.ref D), some (.ref p), some (.ref R), some (.ref S), some (.ref r), z6, z7, z8, some (.ref q), z10, some (.int (X : Int)), some (.ref L), z13, some (.ref T), z15, z16, none] H := by
  obtain ⟨ta, tb, ca, h1, h2, h3, h4, h5⟩ := id st.cov
  have z3 : ∀ c ∈ cs, c.length ≤ ws.length := fun c hc => length_sub (rising_nodup (ok.up c hc)) fun x hx => (ok.mem x).mp (List.mem_flatten.mpr ⟨c, hc, hx⟩)
  have zc : cs.length ≤ 60 := by
    have := length_sub (rising_nodup ok.api) ok.apm
    have := ok.len
    omega
  have hin : ∀ e ∈ ans, e.1 ∈ ws := fun e he => (fi.a.r e he).1
  have em : mids (ws.filter fun w => !hasP ws ls ans w && !lacP ws ls ans w).contains cs = mids (lfB ls ans) cs := mids_congr fun c hc v hv => by
    have vw : v ∈ ws := (ok.mem v).mp (List.mem_flatten.mpr ⟨c, hc, hv⟩)
    rw [Bool.eq_iff_iff, List.contains_iff_mem, List.mem_filter, hasP_eq g hin v, lacP_eq g vw]
    exact ⟨fun h => h.2, fun h => ⟨vw, h⟩⟩
  refine ⟨_, rfl, _, rfl, ixT h1 rfl ⟨_, rfl, _, rfl, ta, L, X, _, ca, cs, rfl, h2, ⟨h4, h5⟩, by omega, fun l hl => Nat.le_trans (z3 l hl) (by omega), hL, fun m H1 s1 hm => ?_⟩⟩
  rw [em] at hm
  obtain ⟨ai', sub⟩ := fi.a.step g ok X
  have hal := ai'.len g
  rw [List.length_append] at hal
  have hml : (moreA hs ((mids (lfB ls ans) cs).take X)).length = ((mids (lfB ls ans) cs).take X).length := List.length_map ..
  rw [hml] at hal
  refine ⟨_, _, rfl, SameV.tup (s1 _ _ hT) hm rfl (by rw [List.length_map]; omega) SameV.ints, _, rfl, iteF ?_⟩
  exact law_asks (st.same s1) ht hw (an.mono fun b xs e => s1 _ _ e) (s1 _ _ hT) (by omega) ((ok.nd.sublist (mids_sub _ _).1).sublist (List.take_sublist _ _)) (fun x hx => (sub x hx).2.2) fun q' ans' H' z13 z15 z16 s' pm an' => k q' ans' H' _ _ _ _ _ _ s' pm an'
theorem law_turns {q : Addr} {z7 z8 : Option V} (st : L20 c D p R S r ns ws hs ls ra cs ap t H) (ht : t < 100000) (g : Good ws ls) (ok : CovOk ws ls cs ap) (cl : Closed ws ls hs) (inc : hs.Pairwise (· < ·)) (hw : ws.length ≤ 60) (hls : ls.length ≤ 4000) (few : bsum cs ≤ 12) (hq : H q = some (.tup [])) (k : ∀ H', Q (.bl true) H') :
    t_law_turns K { nx := fun _ H' => Q .non H', rt := Q } [some (.ref a), some (.ref D), some (.ref p), some (.ref R), some (.ref S), some (.ref r), some (.int (bsum cs : Nat)), z7, z8, some (.ref q), none, none, none, none, none, none, none, none] H := by
  have z3 : ∀ c ∈ cs, c.length ≤ ws.length := fun c hc => length_sub (rising_nodup (ok.up c hc)) fun x hx => (ok.mem x).mp (List.mem_flatten.mpr ⟨c, hc, hx⟩)
  have zc : cs.length ≤ 60 := by
    have := length_sub (rising_nodup ok.api) ok.apm
    have := ok.len
    omega
  refine ⟨12, rfl, by decide, by decide, ?_⟩
  refine for_range (lo := 0) (n := 12) (fun j σ H' => ∃ (q' : Addr) (ans : List (Int × Bool)) (z10 z11 z12 z13 z14 z15 z16 : Option V), σ = [some (.ref a), some (.ref D), some (.ref p), some (.ref R), some (.ref S), some (.ref r), some (.int (bsum cs : Nat)), z7, z8, some (.ref q'), z10, z11, z12, z13, z14, z15, z16, none] ∧ L20 c D p R S r ns ws hs ls ra cs ap (t + 62 * j) H' ∧ AnsAt H' q' ans ∧ FewI ws hs ls cs ans ∧ ((∃ v ∈ ws, lfB ls ans v = true) → j ≤ ans.length)) ⟨q, [], _, _, _, _, _, _, _, rfl, st, ⟨[], hq, rfl, fun i a e h => by cases h⟩, .nil g, fun _ => Nat.zero_le _⟩ ?_ ?_
  · rintro j σ H1 hj ⟨q1, ans, z10, z11, z12, z13, z14, z15, z16, rfl, s1, an1, fi, hc⟩
    have hal := fi.a.len g
    have hin : ∀ e ∈ ans, e.1 ∈ ws := fun e he => (fi.a.r e he).1
    suffices hh : ∀ D1 : Ends, (∀ σ' H', (∃ (q' : Addr) (ans : List (Int × Bool)) (z10 z11 z12 z13 z14 z15 z16 : Option V), σ' = [some (.ref a), some (.ref D), some (.ref p), some (.ref R), some (.ref S), some (.ref r), some (.int (bsum cs : Nat)), z7, z8, some (.ref q'), z10, z11, z12, z13, z14, z15, z16, none] ∧ L20 c D p R S r ns ws hs ls ra cs ap (t + 62 * (j + 1)) H' ∧ AnsAt H' q' ans ∧ FewI ws hs ls cs ans ∧ ((∃ v ∈ ws, lfB ls ans v = true) → j + 1 ≤ ans.length)) → D1.nx σ' H') → t_law_turn K D1 [some (.ref a), some (.ref D), some (.ref p), some (.ref R), some (.ref S), some (.ref r), some (.int (bsum cs : Nat)), z7, z8, some (.ref q1), some (.int (0 + (j : Int))), z11, z12, z13, z14, z15, z16, none] H1 from hh _ fun _ _ h => h
    intro D1 kD
    show t_law_turn K D1 [some (.ref a), some (.ref D), some (.ref p), some (.ref R), some (.ref S), some (.ref r), some (.int (bsum cs : Nat)), z7, z8, some (.ref q1), some (.int (0 + (j : Int))), z11, z12, z13, z14, z15, z16, none] H1
    refine ⟨_, rfl, c, D, ns, _, 20, rfl, s1.dk, by omega, by decide, by decide, fun x H2 x0 x1 d2 f2 => ⟨_, _, rfl, rfl, ?_⟩⟩
    obtain ⟨X, rfl⟩ := Int.eq_ofNat_of_zero_le x0
    have k2 : Kp D H1 H2 := .fr f2
    have s2 := s1.draw d2 k2
    have an2 : AnsAt H2 q1 ans := an1.mono fun b xs e => k2.tup s1.dk b xs e
    refine ⟨_, rfl, _, rfl, R, q1, ws, ls, ra, ans, rfl, s2.rows, an2, hin, g, by omega, by omega, fun f H3 s3 nf tr => ?_⟩
    obtain ⟨x1', x2', L, e1, _, _, e4⟩ := tr
    refine ixT e1 rfl ?_
    have s3' := s2.same s3
    refine ⟨_, rfl, c, D, ns, _, 3, rfl, s3'.dk, by omega, by decide, by decide, fun y H4 y0 y1 d4 f4 => ⟨rfl, _, rfl, ?_⟩⟩
    have k4 : Kp D H3 H4 := .fr f4
    have s4 := s3'.draw d4 k4
    have tp4 : ∀ b xs, H3 b = some (.tup xs) → H4 b = some (.tup xs) := fun b xs e => k4.tup s3'.dk b xs e
    have an4 : AnsAt H4 q1 ans := (an2.mono fun b xs e => s3 _ _ e).mono tp4
    have hL4 := tp4 _ _ e4
    obtain ⟨ta, tb, ca, h1, h2, h3, h4, h5⟩ := id s4.cov
    have fin : ∀ {E1 : Ends} (X : Nat) (T : Addr) (H5 : Hp) (z10 z13 : Option V), 1 ≤ X → Same H4 H5 → H5 T = some (.tup (((mids (lfB ls ans) cs).take X).map V.int)) → (∀ σ' H', (∃ (q' : Addr) (ans : List (Int × Bool)) (z10 z11 z12 z13 z14 z15 z16 : Option V), σ' = [some (.ref a), some (.ref D), some (.ref p), some (.ref R), some (.ref S), some (.ref r), some (.int (bsum cs : Nat)), z7, z8, some (.ref q'), z10, z11, z12, z13, z14, z15, z16, none] ∧ L20 c D p R S r ns ws hs ls ra cs ap (t + 62 * (j + 1)) H' ∧ AnsAt H' q' ans ∧ FewI ws hs ls cs ans ∧ ((∃ v ∈ ws, lfB ls ans v = true) → j + 1 ≤ ans.length)) → E1.nx σ' H') → t_law_mid K E1 [some (.ref a), some (.ref D), some (.ref p), some (.ref R), some (.ref S), some (.ref r), some (.int (bsum cs : Nat)), z7, z8, some (.ref q1), z10, some (.int (X : Int)), some (.ref L), z13, some (.ref T), z15, z16, none] H5 := fun {E1} X T H5 z10 z13 hX s5 hT kn => by
      refine law_mid hX (s4.same s5) g ok (by omega) hw (an4.mono fun b xs e => s5 _ _ e) fi hT (s5 _ _ hL4) fun q' ans' H' z11 z12 z13 z14 z15 z16 s' pm an' => kn _ _ ⟨q', ans', _, z11, z12, z13, z14, z15, z16, rfl, ⟨s'.dk.le (by omega), s'.sh, s'.rows, s'.cov, s'.hS, s'.rD, s'.raD, s'.sD⟩, an', fi.step g ok X pm, fun ⟨v, hv, hl⟩ => ?_⟩
      have hl0 : lfB ls ans v = true := lfB_mono g (by rw [← lfB_perm g (fun e => pm.mem_iff)]; exact hl)
      have h1 := asked_some (few := X) ok hX ⟨v, hv, hl0⟩
      have h2 := hc ⟨v, hv, hl0⟩
      rw [pm.length_eq, List.length_append]
      have hml : (moreA hs ((mids (lfB ls ans) cs).take X)).length = ((mids (lfB ls ans) cs).take X).length := List.length_map ..
      omega
    have nx : ∀ {X : Nat} {vs : List V} {Q1 : VK}, vs = [.ref p, .ref r, .ref q1, .int (X : Int)] → (∀ T H5, Same H4 H5 → H5 T = some (.tup (((mids (lfB ls ans) cs).take X).map V.int)) → Q1 (.ref T) H5) → sp_next_asks K vs H4 Q1 E0 := fun {X vs Q1} e kk => by
      subst e
      exact ⟨p, r, ta, q1, .ref tb, X, ws, ls, ans, ca, cs, rfl, s4.sh, g, by omega, by omega, an4, by omega, fi.a.nd, fi.a.r.nc cl, h1, h2, ⟨h4, h5⟩, by omega, fun l hl => ⟨Nat.le_trans (z3 l hl) (by omega), fun v hv => (ok.mem v).mp (List.mem_flatten.mpr ⟨l, hl, hv⟩)⟩, fun T H5 s5 _ hT => kk T H5 s5 hT⟩
    refine ite2 (fun _ => ?_) fun _ => ?_
    · refine ⟨_, rfl, _, rfl, _, rfl, ?_⟩
      dsimp only [tNil]
      refine nx (X := 4) rfl ?_
      intro T H5 s5 hT
      exact fin (E1 := D1) 4 T H5 _ _ (by decide) s5 hT kD
    · refine ⟨_, rfl, _, rfl, _, rfl, _, rfl, rfl, rfl, ?_⟩
      refine nx (X := 1 + X) (by rw [show ((1 + X : Nat) : Int) = 1 + (X : Int) by omega]; rfl) ?_
      intro T H5 s5 hT
      have := fin (E1 := D1) (1 + X) T H5 (some (.int (0 + (j : Int)))) z13 (by omega) s5 hT kD
      rw [show ((1 + X : Nat) : Int) = 1 + (X : Int) by omega] at this
      exact this
  · rintro σ H1 ⟨q1, ans, z10, z11, z12, z13, z14, z15, z16, rfl, s1, an1, fi, hc⟩
    refine law_end s1 g ok cl inc hw hls an1 fi (fun h => ?_) k
    have h1 := hc h
    have h2 := pot_pos ok h
    have h3 := fi.n
    omega
theorem law_is (st : L20 c D p R S r ns ws hs ls ra cs ap t H) (ht : t < 100000) (g : Good ws ls) (ok : CovOk ws ls cs ap) (cl : Closed ws ls hs) (inc : hs.Pairwise (· < ·)) (hw : ws.length ≤ 60) (hls : ls.length ≤ 4000) (few : bsum cs ≤ 12) (k : ∀ H', Q (.bl true) H') :
    t_law_is K { nx := fun _ H' => Q .non H', rt := Q } [some (.ref a), some (.ref D), some (.ref p), some (.ref R), some (.ref S), some (.ref r), none, none, none, none, none, none, none, none, none, none, none, none] H := by
  refine ⟨_, rfl, _, rfl, _, rfl, p, R, r, ws, ls, ra, cs, ap, rfl, st.sh, st.rows, st.cov, ok, g, by omega, fun H1 s1 => ⟨_, rfl, iteF ?_⟩⟩
  have st1 := st.same s1
  obtain ⟨ta, tb, ca, h1, h2, h3, h4, h5⟩ := id st1.cov
  have zc : cs.length ≤ 60 := by
    have := length_sub (rising_nodup ok.api) ok.apm
    have := ok.len
    omega
  show t_law_most K { nx := fun _ H' => Q .non H', rt := Q } [some (.ref a), some (.ref D), some (.ref p), some (.ref R), some (.ref S), some (.ref r), some (.int 0), none, none, none, none, none, none, none, none, none, none, none] H1
  refine ⟨_, rfl, ixT h1 rfl ⟨ta, rfl, ⟨_, sqT h2⟩, ?_⟩⟩
  refine for_tup (K := K) (a := ta) (xs := ca.map V.ref) (fun i σ H' => ∃ z7 z8 : Option V, σ = [some (.ref a), some (.ref D), some (.ref p), some (.ref R), some (.ref S), some (.ref r), some (.int (bsum (cs.take i) : Nat)), z7, z8, none, none, none, none, none, none, none, none, none] ∧ H' = H1) ⟨none, none, rfl, rfl⟩ (fun i σ H' _ ⟨_, _, _, e⟩ => by rw [e]; exact sqT h2) ?_ ?_
  · rintro i x σ H2 hx ⟨z7, z8, rfl, rfl⟩
    obtain ⟨b, rfl, eb⟩ := ref_at hx
    have hi2 : i < cs.length := by rw [← h4]; exact (List.getElem?_eq_some_iff.mp eb).1
    have ec := List.getElem?_eq_getElem hi2
    generalize cs[i] = c' at ec
    have hb := h5 i b c' eb ec
    refine ⟨_, rfl, lenT hb ?_⟩
    show tWhile _ _ _ [some (.ref a), some (.ref D), some (.ref p), some (.ref R), some (.ref S), some (.ref r), some (.int (bsum (cs.take i) : Nat)), some (.ref b), some (.int ((c'.map V.int).length : Nat)), none, none, none, none, none, none, none, none, none] H2
    rw [List.length_map]
    refine while_by (fun σ H' => ∃ (m n : Nat), σ = [some (.ref a), some (.ref D), some (.ref p), some (.ref R), some (.ref S), some (.ref r), some (.int (m : Int)), some (.ref b), some (.int (n : Int)), none, none, none, none, none, none, none, none, none] ∧ H' = H2 ∧ m + bn n = bsum (cs.take (i + 1))) (fun σ _ => slotN 8 σ) ⟨_, _, rfl, rfl, (bsum_take ec).symm⟩ ?_ ?_
    · rintro σ H3 ⟨m, n, rfl, rfl, hmn⟩
      refine ⟨_, rfl, _, _, rfl, rfl, _, rfl, ite2 (fun e => ?_) fun e => ?_⟩
      · have pos : 0 < n := by have := of_decide_eq_true e; omega
        refine ⟨_, rfl, _, _, rfl, rfl, ?_⟩
        refine ⟨_, rfl, _, _, rfl, rfl, ⟨by decide, by decide⟩, ?_⟩
        have en : (n : Int) / 2 = ((n / 2 : Nat) : Int) := by omega
        have e1 : (m : Int) + 1 = ((m + 1 : Nat) : Int) := by omega
        refine ⟨⟨m + 1, n / 2, by rw [← en, ← e1]; rfl, rfl, ?_⟩, ?_⟩
        · rw [bn_half pos] at hmn
          omega
        · show ((n : Int) / 2).toNat < ((n : Int)).toNat
          omega
      · have zero : n = 0 := by
          have : ¬ (0 : Int) < n := fun h => e (decide_eq_true h)
          omega
        subst zero
        rw [bn_zero, Nat.add_zero] at hmn
        subst hmn
        exact ⟨_, _, rfl, rfl⟩
    · intro σ H Q Q' f h
      obtain ⟨v, e, i, j, e2, e3, b, e4, q⟩ := h
      exact ⟨v, e, i, j, e2, e3, b, e4, f _ _ q⟩
  · rintro σ H2 ⟨z7, z8, rfl, rfl⟩
    rw [List.length_map, h4, List.take_length]
    refine ⟨by show (0 : Nat) ≤ sizeLine; decide, fun q nq => ?_⟩
    exact law_turns (st1.same (samNew nq)) ht g ok cl inc hw hls few updS k
theorem pure_law (pc : PairC K) (h : sp_law K vs H Q E) : t_law K { nx := fun _ H' => Q .non H', rt := Q } (start N_law vs) H := by
  obtain ⟨a, ns, rfl, hS, hl, k⟩ := h
  refine ⟨_, rfl, a, ns, rfl, hS, hl, fun c D H1 sm nc nD dk => ?_⟩
  refine ⟨_, rfl, c, D, ns, 0, 10, 60, rfl, dk, by decide, by decide, by decide, by decide, by decide, fun p ws ls H2 k2 d2 sh g hw hls hor => ?_⟩
  refine ⟨_, rfl, p, ws, ls, rfl, sh, g, by omega, by omega, fun R ra H3 s3 nR rows hfree => ?_⟩
  have kD : ∀ b, H2 b = none → b ≠ D := fun b hb => d2.neD hb
  have d3 : Dk c D ns (0 + 4001) H3 := d2.same s3
  have nRD : R ≠ D := kD R nR
  have raD : ∀ b ∈ ra, b ≠ D := fun b hb => kD b (hfree b hb)
  have sh3 : ShapeAt H3 p ws ls := sh.mono fun b xs e => s3 _ _ e
  refine ⟨_, rfl, _, rfl, c, D, R, ns, _, ws, ls, ra, rfl, d3, rows, raD, g, by omega, by decide, fun S hs H4 k4 d4 nS hS4 hcl hin hinc => ?_⟩
  have sD : S ≠ D := d3.neD nS
  have cl : Closed ws ls hs := fun v hv => ⟨hin v hv, hcl v hv⟩
  have sh4 : ShapeAt H4 p ws ls := sh3.mono fun b xs e => k4.tup d3 b xs e
  have rows4 : RowsAt H4 R ws ls ws ra := rows.mono fun b o e hb => k4 b o e (hb.elim (fun z => by rw [z]; exact nRD) fun z => raD b z)
  have few : ∀ {cs : List (List Int)} {ap : List Int}, CovOk ws ls cs ap → bsum cs ≤ 12 := fun {cs ap} ok => bsum_few g ok (hor.imp (fun h => by omega) fun h => ⟨by omega, h⟩)
  show t_law_cov K { nx := fun _ H' => Q .non H', rt := Q } [some (.ref a), some (.ref D), some (.ref p), some (.ref R), some (.ref S), none, none, none, none, none, none, none, none, none, none, none, none, none] H4
  refine ⟨_, rfl, p, ws, ls, rfl, pc, sh4, g, by omega, by omega, fun r H5 cs ap nf lo up cl5 s5 ct ci => ?_⟩
  have st5 : L20 c D p R S r ns ws hs ls ra cs ap (0 + 4001 + 100) H5 := ⟨d4.same s5, sh4.mono fun b xs e => s5 _ _ e, rows4.mono fun b o e _ => s5 b o e, ct, s5 _ _ hS4, nRD, raD, sD⟩
  refine ⟨_, rfl, c, D, ns, _, 2, rfl, st5.dk, by decide, by decide, by decide, fun x H6 x0 x1 d6 f6 => ⟨rfl, _, rfl, ite2 (fun _ => ?_) fun _ => ?_⟩⟩
  · have st6 := st5.draw d6 (.fr f6)
    refine ⟨_, rfl, _, rfl, c, D, R, ns, _, ws, ls, ra, rfl, d6, st6.rows, raD, nRD, g, by omega, by decide, fun r2 cs2 ap2 H7 k7 d7 ct2 ok2 => ?_⟩
    have tp : ∀ b xs, H6 b = some (.tup xs) → H7 b = some (.tup xs) := fun b xs e => k7.tup d6 b xs e
    exact law_is ⟨d7, st6.sh.mono tp, st6.rows.mono fun b o e hb => k7 b o e (hb.elim (fun z => by rw [z]; exact nRD) fun z => raD b z), ct2, k7 _ _ st6.hS sD, nRD, raD, sD⟩ (by decide) g ok2 cl hinc (by omega) hls (few ok2) k
  · exact law_is (st5.draw d6 (.fr f6)) (by decide) g (ci.ok g) cl hinc (by omega) hls (few (ci.ok g)) k
end
end Fw

set_option Elab.async false
set_option linter.all false
set_option maxRecDepth 100000
set_option maxHeartbeats 4000000
namespace K20
open PySem L2 RZ RT Fw
def top (i : Nat) : Stmt := PySem.Challenge.pw_fewasks_k20_whole_few_asks.main.body.getD i (.Pass ⟨0, 0, 0, 0⟩)
abbrev FnP (K : PySem.W.Frag) (x : Str) (st : Stmt) (f : Addr) (fd : FuncData) : Prop := FunD K x x (defArgs st) (defBody st) (defScope st) [] [] f fd
def cBody : Stmt → List Stmt
  | .ClassDef _ _ _ body .. => body
  | _ => []
abbrev s_with_lower : Stmt := top 4
theorem sc_with_lower : FnScope N_with_lower ["shape", "starts"] (defScope s_with_lower) := ⟨rfl, rfl, rfl, by decide +kernel, rfl, by decide +kernel, by decide +kernel⟩
abbrev s_lowest_lacking : Stmt := top 9
theorem sc_lowest_lacking : FnScope N_lowest_lacking ["shape", "answers"] (defScope s_lowest_lacking) := ⟨rfl, rfl, rfl, by decide +kernel, rfl, by decide +kernel, by decide +kernel⟩
abbrev s_refuse_contrary : Stmt := top 10
theorem sc_refuse_contrary : FnScope N_refuse_contrary ["yes", "lacking"] (defScope s_refuse_contrary) := ⟨rfl, rfl, rfl, by decide +kernel, rfl, by decide +kernel, by decide +kernel⟩
abbrev s_settled : Stmt := top 8
theorem sc_settled : FnScope N_settled ["shape", "answers"] (defScope s_settled) := ⟨rfl, rfl, rfl, by decide +kernel, rfl, by decide +kernel, by decide +kernel⟩
abbrev s_next_asks : Stmt := top 11
theorem sc_next_asks : FnScope N_next_asks ["shape", "cover", "answers", "few"] (defScope s_next_asks) := ⟨rfl, rfl, rfl, by decide +kernel, rfl, by decide +kernel, by decide +kernel⟩
abbrev s_most_asks : Stmt := top 12
theorem sc_most_asks : FnScope N_most_asks ["cover"] (defScope s_most_asks) := ⟨rfl, rfl, rfl, by decide +kernel, rfl, by decide +kernel, by decide +kernel⟩
abbrev s_all_below : Stmt := top 5
theorem sc_all_below : FnScope N_all_below ["shape"] (defScope s_all_below) := ⟨rfl, rfl, rfl, by decide +kernel, rfl, by decide +kernel, by decide +kernel⟩
abbrev s_Pairing_init : Stmt := (cBody (top 14)).getD 0 (.Pass ⟨0, 0, 0, 0⟩)
theorem sc_Pairing_init : FnScope N_Pairing_init ["self", "under"] (defScope s_Pairing_init) := ⟨rfl, rfl, rfl, by decide +kernel, rfl, by decide +kernel, by decide +kernel⟩
abbrev s_Pairing_give_way : Stmt := (cBody (top 14)).getD 2 (.Pass ⟨0, 0, 0, 0⟩)
theorem sc_Pairing_give_way : FnScope N_Pairing_give_way ["self", "free", "came_from"] (defScope s_Pairing_give_way) := ⟨rfl, rfl, rfl, by decide +kernel, rfl, by decide +kernel, by decide +kernel⟩
abbrev s_Pairing_pair : Stmt := (cBody (top 14)).getD 1 (.Pass ⟨0, 0, 0, 0⟩)
theorem sc_Pairing_pair : FnScope N_Pairing_pair ["self", "version"] (defScope s_Pairing_pair) := ⟨rfl, rfl, rfl, by decide +kernel, rfl, by decide +kernel, by decide +kernel⟩
abbrev s_Pairing_chain : Stmt := (cBody (top 14)).getD 3 (.Pass ⟨0, 0, 0, 0⟩)
theorem sc_Pairing_chain : FnScope N_Pairing_chain ["self", "first"] (defScope s_Pairing_chain) := ⟨rfl, rfl, rfl, by decide +kernel, rfl, by decide +kernel, by decide +kernel⟩
abbrev s_Pairing_stands_apart : Stmt := (cBody (top 14)).getD 4 (.Pass ⟨0, 0, 0, 0⟩)
theorem sc_Pairing_stands_apart : FnScope N_Pairing_stands_apart ["self", "version"] (defScope s_Pairing_stands_apart) := ⟨rfl, rfl, rfl, by decide +kernel, rfl, by decide +kernel, by decide +kernel⟩
abbrev s_cover : Stmt := top 15
theorem sc_cover : FnScope N_cover ["shape"] (defScope s_cover) := ⟨rfl, rfl, rfl, by decide +kernel, rfl, by decide +kernel, by decide +kernel⟩
abbrev s_l_deck : Stmt := top 17
theorem sc_l_deck : FnScope N_l_deck ["_law_script"] (defScope s_l_deck) := ⟨rfl, rfl, rfl, by decide +kernel, rfl, by decide +kernel, by decide +kernel⟩
abbrev s_l_mixed : Stmt := top 18
theorem sc_l_mixed : FnScope N_l_mixed ["_law_cell", "_law_turn"] (defScope s_l_mixed) := ⟨rfl, rfl, rfl, by decide +kernel, rfl, by decide +kernel, by decide +kernel⟩
abbrev s_l_draw : Stmt := top 19
theorem sc_l_draw : FnScope N_l_draw ["_law_deck_here", "_law_many"] (defScope s_l_draw) := ⟨rfl, rfl, rfl, by decide +kernel, rfl, by decide +kernel, by decide +kernel⟩
abbrev s_l_int : Stmt := top 20
theorem sc_l_int : FnScope N_l_int ["_law_thing"] (defScope s_l_int) := ⟨rfl, rfl, rfl, by decide +kernel, rfl, by decide +kernel, by decide +kernel⟩
abbrev s_l_same : Stmt := top 21
theorem sc_l_same : FnScope N_l_same ["_law_found", "_law_due"] (defScope s_l_same) := ⟨rfl, rfl, rfl, by decide +kernel, rfl, by decide +kernel, by decide +kernel⟩
abbrev s_l_shape : Stmt := top 22
theorem sc_l_shape : FnScope N_l_shape ["_law_deck_here", "_law_most"] (defScope s_l_shape) := ⟨rfl, rfl, rfl, by decide +kernel, rfl, by decide +kernel, by decide +kernel⟩
abbrev s_l_spans : Stmt := top 23
theorem sc_l_spans : FnScope N_l_spans ["_law_web"] (defScope s_l_spans) := ⟨rfl, rfl, rfl, by decide +kernel, rfl, by decide +kernel, by decide +kernel⟩
abbrev s_l_lower : Stmt := top 24
theorem sc_l_lower : FnScope N_l_lower ["_law_deck_here", "_law_rows"] (defScope s_l_lower) := ⟨rfl, rfl, rfl, by decide +kernel, rfl, by decide +kernel, by decide +kernel⟩
abbrev s_l_settled : Stmt := top 26
abbrev N_l_settled : List Str := ["_law_rows", "_law_answers", "_law_has", "_law_lacking", "_law_left", "_law_version", "_law_one"]
theorem sc_l_settled : FnScope N_l_settled ["_law_rows", "_law_answers"] (defScope s_l_settled) := ⟨rfl, rfl, rfl, by decide +kernel, rfl, by decide +kernel, by decide +kernel⟩
abbrev s_l_middlesT : Stmt := top 28
theorem sc_l_middlesT : FnScope N_l_middlesT ["_law_chains", "_law_left", "_law_wide"] (defScope s_l_middlesT) := ⟨rfl, rfl, rfl, by decide +kernel, rfl, by decide +kernel, by decide +kernel⟩
abbrev s_l_rising : Stmt := top 25
theorem sc_l_rising : FnScope N_l_rising ["_law_thing"] (defScope s_l_rising) := ⟨rfl, rfl, rfl, by decide +kernel, rfl, by decide +kernel, by decide +kernel⟩
abbrev s_l_is_cover : Stmt := top 27
theorem sc_l_is_cover : FnScope N_l_is_cover ["_law_web", "_law_rows", "_law_thing"] (defScope s_l_is_cover) := ⟨rfl, rfl, rfl, by decide +kernel, rfl, by decide +kernel, by decide +kernel⟩
abbrev s_l_ladder : Stmt := top 29
theorem sc_l_ladder : FnScope N_l_ladder ["_law_deck_here", "_law_most"] (defScope s_l_ladder) := ⟨rfl, rfl, rfl, by decide +kernel, rfl, by decide +kernel, by decide +kernel⟩
abbrev s_l_sladW : Stmt := top 30
theorem sc_l_sladW : FnScope N_l_sladW ["_law_deck_here", "_law_most", "_law_high"] (defScope s_l_sladW) := ⟨rfl, rfl, rfl, by decide +kernel, rfl, by decide +kernel, by decide +kernel⟩
abbrev s_l_pair_up : Stmt := top 31
theorem sc_l_pair_up : FnScope N_l_pair_up ["_law_deck_here", "_law_rows", "_law_ups", "_law_downs", "_law_one"] (defScope s_l_pair_up) := ⟨rfl, rfl, rfl, by decide +kernel, rfl, by decide +kernel, by decide +kernel⟩
abbrev s_l_high_apart : Stmt := top 32
theorem sc_l_high_apart : FnScope N_l_high_apart ["_law_rows", "_law_ups", "_law_downs"] (defScope s_l_high_apart) := ⟨rfl, rfl, rfl, by decide +kernel, rfl, by decide +kernel, by decide +kernel⟩
abbrev s_l_low_apart : Stmt := top 33
theorem sc_l_low_apart : FnScope N_l_low_apart ["_law_rows", "_law_ups", "_law_downs"] (defScope s_l_low_apart) := ⟨rfl, rfl, rfl, by decide +kernel, rfl, by decide +kernel, by decide +kernel⟩
abbrev s_l_own_cover : Stmt := top 34
theorem sc_l_own_cover : FnScope N_l_own_cover ["_law_deck_here", "_law_rows"] (defScope s_l_own_cover) := ⟨rfl, rfl, rfl, by decide +kernel, rfl, by decide +kernel, by decide +kernel⟩
abbrev s_law : Stmt := top 35
theorem sc_law : FnScope N_law ["_law_script"] (defScope s_law) := ⟨rfl, rfl, rfl, by decide +kernel, rfl, by decide +kernel, by decide +kernel⟩
structure Tx (K : PySem.W.Frag) (mg : Str → Option Value) : Type where
  fd_with_lower : FuncData
  F_with_lower : FnP K "with_lower" s_with_lower (He.fAd K ("with_lower", none)) fd_with_lower
  g_with_lower : mg "with_lower" = some (.ref (He.fAd K ("with_lower", none)))
  fd_lowest_lacking : FuncData
  F_lowest_lacking : FnP K "lowest_lacking" s_lowest_lacking (He.fAd K ("lowest_lacking", none)) fd_lowest_lacking
  g_lowest_lacking : mg "lowest_lacking" = some (.ref (He.fAd K ("lowest_lacking", none)))
  fd_refuse_contrary : FuncData
  F_refuse_contrary : FnP K "refuse_contrary" s_refuse_contrary (He.fAd K ("refuse_contrary", none)) fd_refuse_contrary
  g_refuse_contrary : mg "refuse_contrary" = some (.ref (He.fAd K ("refuse_contrary", none)))
  fd_settled : FuncData
  F_settled : FnP K "settled" s_settled (He.fAd K ("settled", none)) fd_settled
  g_settled : mg "settled" = some (.ref (He.fAd K ("settled", none)))
  fd_next_asks : FuncData
  F_next_asks : FunD K "next_asks" "next_asks" (defArgs s_next_asks) (defBody s_next_asks) (defScope s_next_asks) [] [("few", V.int 4)] (He.fAd K ("next_asks", none)) fd_next_asks
  g_next_asks : mg "next_asks" = some (.ref (He.fAd K ("next_asks", none)))
  fd_most_asks : FuncData
  F_most_asks : FnP K "most_asks" s_most_asks (He.fAd K ("most_asks", none)) fd_most_asks
  g_most_asks : mg "most_asks" = some (.ref (He.fAd K ("most_asks", none)))
  fd_all_below : FuncData
  F_all_below : FnP K "all_below" s_all_below (He.fAd K ("all_below", none)) fd_all_below
  g_all_below : mg "all_below" = some (.ref (He.fAd K ("all_below", none)))
  fd_Pairing_init : FuncData
  F_Pairing_init : FunD K "__init__" "Pairing.__init__" (defArgs s_Pairing_init) (defBody s_Pairing_init) (defScope s_Pairing_init) [] [] (He.fAd K ("Pairing", some "__init__")) fd_Pairing_init
  fd_Pairing_give_way : FuncData
  F_Pairing_give_way : FunD K "give_way" "Pairing.give_way" (defArgs s_Pairing_give_way) (defBody s_Pairing_give_way) (defScope s_Pairing_give_way) [] [] (He.fAd K ("Pairing", some "give_way")) fd_Pairing_give_way
  fd_Pairing_pair : FuncData
  F_Pairing_pair : FunD K "pair" "Pairing.pair" (defArgs s_Pairing_pair) (defBody s_Pairing_pair) (defScope s_Pairing_pair) [] [] (He.fAd K ("Pairing", some "pair")) fd_Pairing_pair
  fd_Pairing_chain : FuncData
  F_Pairing_chain : FunD K "chain" "Pairing.chain" (defArgs s_Pairing_chain) (defBody s_Pairing_chain) (defScope s_Pairing_chain) [] [] (He.fAd K ("Pairing", some "chain")) fd_Pairing_chain
  fd_Pairing_stands_apart : FuncData
  F_Pairing_stands_apart : FunD K "stands_apart" "Pairing.stands_apart" (defArgs s_Pairing_stands_apart) (defBody s_Pairing_stands_apart) (defScope s_Pairing_stands_apart) [] [] (He.fAd K ("Pairing", some "stands_apart")) fd_Pairing_stands_apart
  fd_cover : FuncData
  F_cover : FnP K "cover" s_cover (He.fAd K ("cover", none)) fd_cover
  g_cover : mg "cover" = some (.ref (He.fAd K ("cover", none)))
  fd_l_deck : FuncData
  F_l_deck : FnP K "_law_deck" s_l_deck (He.fAd K ("_law_deck", none)) fd_l_deck
  g_l_deck : mg "_law_deck" = some (.ref (He.fAd K ("_law_deck", none)))
  fd_l_mixed : FuncData
  F_l_mixed : FnP K "_law_mixed" s_l_mixed (He.fAd K ("_law_mixed", none)) fd_l_mixed
  g_l_mixed : mg "_law_mixed" = some (.ref (He.fAd K ("_law_mixed", none)))
  fd_l_draw : FuncData
  F_l_draw : FnP K "_law_draw" s_l_draw (He.fAd K ("_law_draw", none)) fd_l_draw
  g_l_draw : mg "_law_draw" = some (.ref (He.fAd K ("_law_draw", none)))
  fd_l_int : FuncData
  F_l_int : FnP K "_law_int" s_l_int (He.fAd K ("_law_int", none)) fd_l_int
  g_l_int : mg "_law_int" = some (.ref (He.fAd K ("_law_int", none)))
  fd_l_same : FuncData
  F_l_same : FnP K "_law_same" s_l_same (He.fAd K ("_law_same", none)) fd_l_same
  g_l_same : mg "_law_same" = some (.ref (He.fAd K ("_law_same", none)))
  fd_l_shape : FuncData
  F_l_shape : FnP K "_law_shape" s_l_shape (He.fAd K ("_law_shape", none)) fd_l_shape
  g_l_shape : mg "_law_shape" = some (.ref (He.fAd K ("_law_shape", none)))
  fd_l_spans : FuncData
  F_l_spans : FnP K "_law_spans" s_l_spans (He.fAd K ("_law_spans", none)) fd_l_spans
  g_l_spans : mg "_law_spans" = some (.ref (He.fAd K ("_law_spans", none)))
  fd_l_lower : FuncData
  F_l_lower : FnP K "_law_lower" s_l_lower (He.fAd K ("_law_lower", none)) fd_l_lower
  g_l_lower : mg "_law_lower" = some (.ref (He.fAd K ("_law_lower", none)))
  fd_l_settled : FuncData
  F_l_settled : FnP K "_law_settled" s_l_settled (He.fAd K ("_law_settled", none)) fd_l_settled
  g_l_settled : mg "_law_settled" = some (.ref (He.fAd K ("_law_settled", none)))
  fd_l_middlesT : FuncData
  F_l_middlesT : FnP K "_law_middles" s_l_middlesT (He.fAd K ("_law_middles", none)) fd_l_middlesT
  g_l_middlesT : mg "_law_middles" = some (.ref (He.fAd K ("_law_middles", none)))
  fd_l_rising : FuncData
  F_l_rising : FnP K "_law_rising" s_l_rising (He.fAd K ("_law_rising", none)) fd_l_rising
  g_l_rising : mg "_law_rising" = some (.ref (He.fAd K ("_law_rising", none)))
  fd_l_is_cover : FuncData
  F_l_is_cover : FnP K "_law_is_cover" s_l_is_cover (He.fAd K ("_law_is_cover", none)) fd_l_is_cover
  g_l_is_cover : mg "_law_is_cover" = some (.ref (He.fAd K ("_law_is_cover", none)))
  fd_l_ladder : FuncData
  F_l_ladder : FnP K "_law_ladder" s_l_ladder (He.fAd K ("_law_ladder", none)) fd_l_ladder
  g_l_ladder : mg "_law_ladder" = some (.ref (He.fAd K ("_law_ladder", none)))
  fd_l_sladW : FuncData
  F_l_sladW : FnP K "_law_shape_or_ladder" s_l_sladW (He.fAd K ("_law_shape_or_ladder", none)) fd_l_sladW
  g_l_sladW : mg "_law_shape_or_ladder" = some (.ref (He.fAd K ("_law_shape_or_ladder", none)))
  fd_l_pair_up : FuncData
  F_l_pair_up : FnP K "_law_pair_up" s_l_pair_up (He.fAd K ("_law_pair_up", none)) fd_l_pair_up
  g_l_pair_up : mg "_law_pair_up" = some (.ref (He.fAd K ("_law_pair_up", none)))
  fd_l_high_apart : FuncData
  F_l_high_apart : FnP K "_law_high_apart" s_l_high_apart (He.fAd K ("_law_high_apart", none)) fd_l_high_apart
  g_l_high_apart : mg "_law_high_apart" = some (.ref (He.fAd K ("_law_high_apart", none)))
  fd_l_low_apart : FuncData
  F_l_low_apart : FnP K "_law_low_apart" s_l_low_apart (He.fAd K ("_law_low_apart", none)) fd_l_low_apart
  g_l_low_apart : mg "_law_low_apart" = some (.ref (He.fAd K ("_law_low_apart", none)))
  fd_l_own_cover : FuncData
  F_l_own_cover : FnP K "_law_own_cover" s_l_own_cover (He.fAd K ("_law_own_cover", none)) fd_l_own_cover
  g_l_own_cover : mg "_law_own_cover" = some (.ref (He.fAd K ("_law_own_cover", none)))
  fd_law : FuncData
  F_law : FnP K "law" s_law (He.fAd K ("law", none)) fd_law
  z_bool : mg "bool" = none
  z_int : mg "int" = none
  z_isinstance : mg "isinstance" = none
  z_len : mg "len" = none
  z_list : mg "list" = none
  z_min : mg "min" = none
  z_range : mg "range" = none
  z_reversed : mg "reversed" = none
  z_sorted : mg "sorted" = none
  z_str : mg "str" = none
  z_sum : mg "sum" = none
  z_tuple : mg "tuple" = none
  c_FEW : ∃ t, mg "FEW" = some (.int 4 t)
  gc_Pairing : mg "Pairing" = some (.ref (He.ga K "Pairing"))
  cl_Pairing : Cls K (He.ga K "Pairing")
  na_Pairing_near : NoAttr K (He.ga K "Pairing") "near"
  na_Pairing_lower_of : NoAttr K (He.ga K "Pairing") "lower_of"
  na_Pairing_upper_of : NoAttr K (He.ga K "Pairing") "upper_of"
  na_Pairing_closed : NoAttr K (He.ga K "Pairing") "closed"
  me_Pairing_give_way : Meth K (He.ga K "Pairing") "give_way" (He.fAd K ("Pairing", some "give_way"))
  me_Pairing_pair : Meth K (He.ga K "Pairing") "pair" (He.fAd K ("Pairing", some "pair"))
  me_Pairing_chain : Meth K (He.ga K "Pairing") "chain" (He.fAd K ("Pairing", some "chain"))
  me_Pairing_stands_apart : Meth K (He.ga K "Pairing") "stands_apart" (He.fAd K ("Pairing", some "stands_apart"))
  mk_Pairing : Mk K (He.ga K "Pairing") (He.fAd K ("Pairing", some "__init__"))
theorem Tx.kk {K : PySem.W.Frag} {mg : Str → Option Value} (T : Tx K mg) : PairC K := ⟨T.cl_Pairing, T.na_Pairing_near, T.na_Pairing_lower_of, T.na_Pairing_upper_of, T.na_Pairing_closed⟩
section
variable {P : Program} {w : World} {K : PySem.W.Frag} {mg : Str → Option Value} {base : Heap}
theorem b_with_lower (T : Tx K mg) : Binds K T.fd_with_lower ["shape", "starts"] [] := T.F_with_lower.bindsN fun _ _ _ _ _ _ us hl => match us, hl with | [_, _], _ => rfl
theorem ok_with_lower (T : Tx K mg) : FnOk P w K mg base CX0 1 (He.fAd K ("with_lower", none)) T.fd_with_lower ["shape", "starts"] (sp_with_lower K) := by
  refine T.F_with_lower.ok sc_with_lower (fun vs H Q E h => len_with_lower h) (fun cdv A outer s H vs Q E hr h => ⟨t_with_lower K, PSs.nox ?_, pure_with_lower h⟩)
  exact (pss_cons (ps_setDc (i := 2) (own := [("version", 3)]) (g := (gName 3)) (tt := tYes) (tk := (tVar 3)) (tv := (tC (.bl true))) rfl sc_with_lower.nd rfl rfl (sw_dict rfl rfl rfl (by decide +kernel)) (pi_list (pv 1)) (blkOk_by (own := [("version", 3)]) (N := N_with_lower) (sc := defScope s_with_lower) (by decide +kernel)) (fun _ _ _ _ _ => (pg_name (i := 3) sc_with_lower.nd rfl (Or.inl rfl))) (fun _ _ _ _ _ => pts_nil) (fun _ _ _ _ _ => (pv 3)) (fun _ _ _ _ _ => pe_bl))
      (pss_cons (ps_for PassesOwn.never rfl (pi_revA (by rfl) T.z_reversed (pe_ix ix_seq (pv 0) pe_int (fun _ _ => rfl))) (pg_tup rfl (pgs_cons (pg_name (i := 4) sc_with_lower.nd rfl (Or.inl rfl)) (pgs_cons (pg_name (i := 5) sc_with_lower.nd rfl (Or.inl rfl)) pgs_nil))) (pss_one (ps_if (pt_cmp (pc_din (hu_of hr) (pv 4) (pv 2))) (pss_one (ps_dput (hu_of hr) (pv 2) (pv 5) pe_bl rfl)) pss_nil)))
      (pss_one (ps_ret (pv 2)))))
theorem b_lowest_lacking (T : Tx K mg) : Binds K T.fd_lowest_lacking ["shape", "answers"] [] := T.F_lowest_lacking.bindsN fun _ _ _ _ _ _ us hl => match us, hl with | [_, _], _ => rfl
theorem ok_lowest_lacking (T : Tx K mg) : FnOk P w K mg base CX0 1 (He.fAd K ("lowest_lacking", none)) T.fd_lowest_lacking ["shape", "answers"] (sp_lowest_lacking K) := by
  refine T.F_lowest_lacking.ok sc_lowest_lacking (fun vs H Q E h => len_lowest_lacking h) (fun cdv A outer s H vs Q E hr h => ⟨t_lowest_lacking K, PSs.nox ?_, pure_lowest_lacking h⟩)
  exact (pss_cons (ps_setDc (i := 2) (own := [("version", 3), ("truth", 4)]) (g := (gTup K 2 (gCons (gName 3) (gCons (gName 4) gNil)))) (tt := (tNot (tB (tVar 4)))) (tk := (tVar 3)) (tv := (tVar 3)) rfl sc_lowest_lacking.nd rfl rfl (sw_dict rfl rfl rfl (by decide +kernel)) (pi_tup (pv 1)) (blkOk_by (own := [("version", 3), ("truth", 4)]) (N := N_lowest_lacking) (sc := defScope s_lowest_lacking) (by decide +kernel)) (fun _ _ _ _ _ => (pg_tup rfl (pgs_cons (pg_name (i := 3) sc_lowest_lacking.nd rfl (Or.inl rfl)) (pgs_cons (pg_name (i := 4) sc_lowest_lacking.nd rfl (Or.inl rfl)) pgs_nil)))) (fun _ _ _ _ _ => (pts_one (pt_not (pt_val (pv 4))))) (fun _ _ _ _ _ => (pv 3)) (fun _ _ _ _ _ => (pv 3)))
      (pss_cons (ps_for PassesOwn.never rfl (pi_tup (pe_ix ix_seq (pv 0) pe_int (fun _ _ => rfl))) (pg_tup rfl (pgs_cons (pg_name (i := 5) sc_lowest_lacking.nd rfl (Or.inl rfl)) (pgs_cons (pg_name (i := 6) sc_lowest_lacking.nd rfl (Or.inl rfl)) pgs_nil))) (pss_one (ps_if (pt_cmp (pc_din (hu_of hr) (pv 6) (pv 2))) (pss_one (ps_dput (hu_of hr) (pv 2) (pv 5) (pe_callB (call_min2 rfl) (by rfl) T.z_min (by decide +kernel) (pa_cons (pe_dget (hu_of hr) (pv 2) (pv 6) (fun _ _ => rfl)) (pa_cons (pe_dget2 (hu_of hr) (pv 2) (pv 5) (pv 5) ⟨rfl, rfl, rfl, rfl⟩) pa_nil))) rfl)) pss_nil)))
      (pss_one (ps_ret (pv 2)))))
theorem b_refuse_contrary (T : Tx K mg) : Binds K T.fd_refuse_contrary ["yes", "lacking"] [] := T.F_refuse_contrary.bindsN fun _ _ _ _ _ _ us hl => match us, hl with | [_, _], _ => rfl
theorem ok_refuse_contrary (T : Tx K mg) : FnOk P w K mg base CX0 1 (He.fAd K ("refuse_contrary", none)) T.fd_refuse_contrary ["yes", "lacking"] (sp_refuse_contrary K) := by
  refine T.F_refuse_contrary.ok sc_refuse_contrary (fun vs H Q E h => len_refuse_contrary h) (fun cdv A outer s H vs Q E hr h => ⟨t_refuse_contrary K, PSs.nox ?_, pure_refuse_contrary h⟩)
  exact (pss_one (ps_for PassesOwn.never rfl (pi_list (pe_callB cr_sortedI (by rfl) T.z_sorted (by decide +kernel) (pa_cons (pv 0) pa_nil))) (pg_name (i := 2) sc_refuse_contrary.nd rfl (Or.inl rfl)) (pss_one (ps_if (pt_cmp (pc_din (hu_of hr) (pv 2) (pv 1))) (pss_one ps_never) pss_nil))))
theorem b_settled (T : Tx K mg) : Binds K T.fd_settled ["shape", "answers"] [] := T.F_settled.bindsN fun _ _ _ _ _ _ us hl => match us, hl with | [_, _], _ => rfl
theorem ok_settled (T : Tx K mg) : FnOk P w K mg base CX0 2 (He.fAd K ("settled", none)) T.fd_settled ["shape", "answers"] (sp_settled K) := by
  refine T.F_settled.ok sc_settled (fun vs H Q E h => len_settled h) (fun cdv A outer s H vs Q E hr h => ⟨t_settled K, PSs.nox ?_, pure_settled h⟩)
  exact (pss_cons (ps_set (i := 2) sc_settled.nd rfl (Or.inr rfl) (pe_call (ok_lowest_lacking T) (hr.mono (by decide)) (by rfl) T.g_lowest_lacking T.F_lowest_lacking.kp (b_lowest_lacking T) .nil pass0 (pa_cons (pv 0) (pa_cons (pv 1) pa_nil))))
      (pss_cons (ps_setLc (i := 3) (own := [("version", 4), ("truth", 5)]) (g := (gTup K 2 (gCons (gName 4) (gCons (gName 5) gNil)))) (tt := (tB (tVar 5))) (te := (tVar 4)) rfl sc_settled.nd rfl rfl (sw_true rfl rfl rfl (by decide +kernel)) (pi_tup (pv 1)) (blkOk_by (own := [("version", 4), ("truth", 5)]) (N := N_settled) (sc := defScope s_settled) (by decide +kernel)) (fun _ _ _ _ _ => (pg_tup rfl (pgs_cons (pg_name (i := 4) sc_settled.nd rfl (Or.inl rfl)) (pgs_cons (pg_name (i := 5) sc_settled.nd rfl (Or.inl rfl)) pgs_nil)))) (fun _ _ _ _ _ => (pts_one (pt_val (pv 5)))) (fun _ _ _ _ _ => (pv 4)))
      (pss_cons (ps_expr (pe_call (ok_refuse_contrary T) (hr.mono (by decide)) (by rfl) T.g_refuse_contrary T.F_refuse_contrary.kp (b_refuse_contrary T) .nil pass0 (pa_cons (pv 3) (pa_cons (pv 2) pa_nil))))
      (pss_cons (ps_set (i := 6) sc_settled.nd rfl (Or.inr rfl) (pe_call (ok_with_lower T) (hr.mono (by decide)) (by rfl) T.g_with_lower T.F_with_lower.kp (b_with_lower T) .nil pass0 (pa_cons (pv 0) (pa_cons (pv 3) pa_nil))))
      (pss_cons (ps_setLc (i := 7) (own := [("version", 4)]) (g := (gName 4)) (tt := (tB (tDIn (tVar 4) (tVar 6)))) (te := (tVar 4)) rfl sc_settled.nd rfl rfl (sw_true rfl rfl rfl (by decide +kernel)) (pi_tup (pe_ix ix_seq (pv 0) pe_int (fun _ _ => rfl))) (blkOk_by (own := [("version", 4)]) (N := N_settled) (sc := defScope s_settled) (by decide +kernel)) (fun _ _ _ _ _ => (pg_name (i := 4) sc_settled.nd rfl (Or.inl rfl))) (fun _ _ _ _ _ => (pts_one (pt_cmp (pc_din (hu_of hr) (pv 4) (pv 6))))) (fun _ _ _ _ _ => (pv 4)))
      (pss_cons (ps_setLc (i := 8) (own := [("version", 4)]) (g := (gName 4)) (tt := (tB (tDIn (tVar 4) (tVar 2)))) (te := (tVar 4)) rfl sc_settled.nd rfl rfl (sw_true rfl rfl rfl (by decide +kernel)) (pi_tup (pe_ix ix_seq (pv 0) pe_int (fun _ _ => rfl))) (blkOk_by (own := [("version", 4)]) (N := N_settled) (sc := defScope s_settled) (by decide +kernel)) (fun _ _ _ _ _ => (pg_name (i := 4) sc_settled.nd rfl (Or.inl rfl))) (fun _ _ _ _ _ => (pts_one (pt_cmp (pc_din (hu_of hr) (pv 4) (pv 2))))) (fun _ _ _ _ _ => (pv 4)))
      (pss_cons (ps_setLc (i := 9) (own := [("version", 4)]) (g := (gName 4)) (tt := (tAnd (tB (tDNotIn (tVar 4) (tVar 6))) (tB (tDNotIn (tVar 4) (tVar 2))))) (te := (tVar 4)) rfl sc_settled.nd rfl rfl (sw_true rfl rfl rfl (by decide +kernel)) (pi_tup (pe_ix ix_seq (pv 0) pe_int (fun _ _ => rfl))) (blkOk_by (own := [("version", 4)]) (N := N_settled) (sc := defScope s_settled) (by decide +kernel)) (fun _ _ _ _ _ => (pg_name (i := 4) sc_settled.nd rfl (Or.inl rfl))) (fun _ _ _ _ _ => (pts_one (PW.pt (pw_and (pt_cmp (pc_dnotin (hu_of hr) (pv 4) (pv 6))) (pw_and1 (pt_cmp (pc_dnotin (hu_of hr) (pv 4) (pv 2)))))))) (fun _ _ _ _ _ => (pv 4)))
      (pss_one (ps_ret (pe_tup (pa_cons (pe_callTy call_tuple_of (by rfl) T.z_tuple (by decide +kernel) (pa_cons (pv 7) pa_nil)) (pa_cons (pe_callTy call_tuple_of (by rfl) T.z_tuple (by decide +kernel) (pa_cons (pv 8) pa_nil)) (pa_cons (pe_callTy call_tuple_of (by rfl) T.z_tuple (by decide +kernel) (pa_cons (pv 9) pa_nil)) pa_nil)))))))))))))
theorem b_next_asks (T : Tx K mg) : ∃ ds, Vals [V.int 4] ds ∧ Binds K T.fd_next_asks ["shape", "cover", "answers", "few"] ds := T.F_next_asks.binds0 3 (by simp) rfl fun _ _ _ _ _ _ us ks hu hk => match us, ks, hu, hk with | [_, _, _], [_], _, _ => ⟨_, _, _, _, _, _, rfl, rfl, rfl⟩
theorem kb_next_asks_few (T : Tx K mg) : ∃ mv : List Value, KBn K T.fd_next_asks ["shape", "cover", "answers", "few"] 3 ["few"] (fun us ws => us ++ ((ws.drop 0).take 1)) (fun us ws => (fun mv : List V => us ++ ((ws.drop 0).take 1)) []) :=
  T.F_next_asks.kbinds0 3 ["few"] [] (fun us mv ws => us ++ ((ws.drop 0).take 1)) (by simp) (by simp) (fun r1 r2 r3 => r1.append ((r3.drop 0).take 1)) fun _ _ _ _ _ _ us mv ws hu hm hw => match us, mv, ws, hu, hm, hw with | [_, _, _], [], [_], _, _, _ => rfl
theorem ok_next_asks (T : Tx K mg) : FnOk P w K mg base CX0 3 (He.fAd K ("next_asks", none)) T.fd_next_asks ["shape", "cover", "answers", "few"] (sp_next_asks K) := by
  refine T.F_next_asks.ok sc_next_asks (fun vs H Q E h => len_next_asks h) (fun cdv A outer s H vs Q E hr h => ⟨t_next_asks K, PSs.nox ?_, pure_next_asks h⟩)
  exact (pss_cons (ps_set (i := 4) sc_next_asks.nd rfl (Or.inr rfl) (pe_dc (own := [("version", 5)]) (g := (gName 5)) (tt := tYes) (tk := (tVar 5)) (tv := (tC (.bl true))) rfl sc_next_asks.nd (pi_tup (pe_ix ix_seq (pe_call (ok_settled T) (hr.mono (by decide)) (by rfl) T.g_settled T.F_settled.kp (b_settled T) .nil pass0 (pa_cons (pv 0) (pa_cons (pv 2) pa_nil))) pe_int (fun _ _ => rfl))) (blkOk_by (own := [("version", 5)]) (N := N_next_asks) (sc := defScope s_next_asks) (by decide +kernel)) (fun _ _ _ _ _ => (pg_name (i := 5) sc_next_asks.nd rfl (Or.inl rfl))) (fun _ _ _ _ _ => pts_nil) (fun _ _ _ _ _ => (pv 5)) (fun _ _ _ _ _ => pe_bl)))
      (pss_cons (ps_set (i := 6) sc_next_asks.nd rfl (Or.inl rfl) (pe_lst pa_nil))
      (pss_cons (ps_for PassesOwn.never rfl (pi_tup (pe_ix ix_seq (pv 1) pe_int (fun _ _ => rfl))) (pg_name (i := 7) sc_next_asks.nd rfl (Or.inl rfl)) (pss_cons (ps_setLc (i := 8) (own := [("version", 5)]) (g := (gName 5)) (tt := (tB (tDIn (tVar 5) (tVar 4)))) (te := (tVar 5)) rfl sc_next_asks.nd rfl rfl (sw_true rfl rfl rfl (by decide +kernel)) (pi_tup (pv 7)) (blkOk_by (own := [("version", 5)]) (N := N_next_asks) (sc := defScope s_next_asks) (by decide +kernel)) (fun _ _ _ _ _ => (pg_name (i := 5) sc_next_asks.nd rfl (Or.inl rfl))) (fun _ _ _ _ _ => (pts_one (pt_cmp (pc_din (hu_of hr) (pv 5) (pv 4))))) (fun _ _ _ _ _ => (pv 5)))
      (pss_one (ps_if (pt_truth (pv 8) (by intro _; rfl)) (pss_one (ps_expr (pe_bm PySem.F.plainAttrs_list PySem.F.slot_list_append PySem.F.type_list_append mt_append (pv 6) (pa_cons (pe_ix ix_seq (pv 8) (pe_op op_fdivW (pe_callB call_len (by rfl) T.z_len PySem.boot_len (pa_cons (pv 8) pa_nil)) pe_int) (fun _ _ => rfl)) pa_nil)))) pss_nil))))
      (pss_one (ps_ret (pe_callTy call_tuple_of (by rfl) T.z_tuple (by decide +kernel) (pa_cons (pe_slice sl_list (pv 6) po_none (po_some (pv 3))) pa_nil)))))))
theorem b_most_asks (T : Tx K mg) : Binds K T.fd_most_asks ["cover"] [] := T.F_most_asks.bindsN fun _ _ _ _ _ _ us hl => match us, hl with | [_], _ => rfl
theorem ok_most_asks (T : Tx K mg) : FnOk P w K mg base CX0 1 (He.fAd K ("most_asks", none)) T.fd_most_asks ["cover"] (sp_most_asks K) := by
  refine T.F_most_asks.ok sc_most_asks (fun vs H Q E h => len_most_asks h) (fun cdv A outer s H vs Q E hr h => ⟨t_most_asks K, PSs.nox ?_, pure_most_asks h⟩)
  exact (pss_one (ps_ret (pe_callB (cr_sum rfl) (by rfl) T.z_sum (by decide +kernel) (pa_cons (pe_lc (own := [("chain", 1)]) (g := (gName 1)) (tt := tYes) (te := (tBits (tCB (fLen K) (tCons (tVar 1) tNil)))) rfl sc_most_asks.nd (pi_tup (pe_ix ix_seq (pv 0) pe_int (fun _ _ => rfl))) (blkOk_by (own := [("chain", 1)]) (N := N_most_asks) (sc := defScope s_most_asks) (by decide +kernel)) (fun _ _ _ _ _ => (pg_name (i := 1) sc_most_asks.nd rfl (Or.inl rfl))) (fun _ _ _ _ _ => pts_nil) (fun _ _ _ _ _ => (pe_bits (pe_callB call_len (by rfl) T.z_len PySem.boot_len (pa_cons (pv 1) pa_nil))))) pa_nil))))
theorem b_all_below (T : Tx K mg) : Binds K T.fd_all_below ["shape"] [] := T.F_all_below.bindsN fun _ _ _ _ _ _ us hl => match us, hl with | [_], _ => rfl
theorem ok_all_below (T : Tx K mg) : FnOk P w K mg base CX0 1 (He.fAd K ("all_below", none)) T.fd_all_below ["shape"] (sp_all_below K) := by
  refine T.F_all_below.ok sc_all_below (fun vs H Q E h => len_all_below h) (fun cdv A outer s H vs Q E hr h => ⟨t_all_below K, PSs.nox ?_, pure_all_below h⟩)
  exact (pss_cons (ps_setDc (i := 1) (own := [("version", 2)]) (g := (gName 2)) (tt := tYes) (tk := (tVar 2)) (tv := tDNewK) rfl sc_all_below.nd rfl rfl (sw_dict rfl rfl rfl (by decide +kernel)) (pi_tup (pe_ix ix_seq (pv 0) pe_int (fun _ _ => rfl))) (blkOk_by (own := [("version", 2)]) (N := N_all_below) (sc := defScope s_all_below) (by decide +kernel)) (fun _ _ _ _ _ => (pg_name (i := 2) sc_all_below.nd rfl (Or.inl rfl))) (fun _ _ _ _ _ => pts_nil) (fun _ _ _ _ _ => (pv 2)) (fun _ _ _ _ _ => pe_dnewK))
      (pss_cons (ps_for PassesOwn.never rfl (pi_tup (pe_ix ix_seq (pv 0) pe_int (fun _ _ => rfl))) (pg_tup rfl (pgs_cons (pg_name (i := 3) sc_all_below.nd rfl (Or.inl rfl)) (pgs_cons (pg_name (i := 4) sc_all_below.nd rfl (Or.inl rfl)) pgs_nil))) (pss_cons (ps_dput (hu_of hr) (pe_dget (hu_of hr) (pv 1) (pv 3) (fun _ _ => rfl)) (pv 4) pe_bl rfl)
      (pss_one (ps_expr (pe_bm PySem.F.plainAttrs_dict PySem.F.slot_dict_update PySem.F.type_dict_update mt_update (pe_dget (hu_of hr) (pv 1) (pv 3) (fun _ _ => rfl)) (pa_cons (pe_dget (hu_of hr) (pv 1) (pv 4) (fun _ _ => rfl)) pa_nil))))))
      (pss_one (ps_ret (pv 1)))))
theorem b_Pairing_init (T : Tx K mg) : Binds K T.fd_Pairing_init ["self", "under"] [] := T.F_Pairing_init.bindsN fun _ _ _ _ _ _ us hl => match us, hl with | [_, _], _ => rfl
theorem ok_Pairing_init (T : Tx K mg) : FnOk P w K mg base CX0 1 (He.fAd K ("Pairing", some "__init__")) T.fd_Pairing_init ["self", "under"] (sp_Pairing_init K) := by
  refine T.F_Pairing_init.ok sc_Pairing_init (fun vs H Q E h => len_Pairing_init h) (fun cdv A outer s H vs Q E hr h => ⟨t_Pairing_init K, PSs.nox ?_, pure_Pairing_init h⟩)
  exact (pss_cons (ps_fld (pv 0) (pe_lock (pe_dc (own := [("version", 2)]) (g := (gName 2)) (tt := tYes) (tk := (tVar 2)) (tv := (tCKw (rSortDR true) (tCons (tDGet (tVar 1) (tVar 2)) tNil) (tCons (tC (.bl true)) tNil))) rfl sc_Pairing_init.nd (pi_keys (pv 1)) (blkOk_by (own := [("version", 2)]) (N := N_Pairing_init) (sc := defScope s_Pairing_init) (by decide +kernel)) (fun _ _ _ _ _ => (pg_name (i := 2) sc_Pairing_init.nd rfl (Or.inl rfl))) (fun _ _ _ _ _ => pts_nil) (fun _ _ _ _ _ => (pv 2)) (fun _ _ _ _ _ => (pe_callBK (cr_sortedDR (b := true) rfl) (by rfl) T.z_sorted (by decide +kernel) (pa_cons (pe_dget (hu_of hr) (pv 1) (pv 2) (fun _ _ => rfl)) pa_nil) (pk_cons pe_bl pk_nil))))) rfl)
      (pss_cons (ps_fld (pv 0) pe_dnewK rfl)
      (pss_cons (ps_fld (pv 0) pe_dnewK rfl)
      (pss_one (ps_fld (pv 0) pe_dnewK rfl)))))
theorem b_Pairing_give_way (T : Tx K mg) : Binds K T.fd_Pairing_give_way ["self", "free", "came_from"] [] := T.F_Pairing_give_way.bindsN fun _ _ _ _ _ _ us hl => match us, hl with | [_, _, _], _ => rfl
theorem ok_Pairing_give_way (T : Tx K mg) : FnOk P w K mg base CX0 1 (He.fAd K ("Pairing", some "give_way")) T.fd_Pairing_give_way ["self", "free", "came_from"] (sp_Pairing_give_way K) := by
  refine T.F_Pairing_give_way.ok sc_Pairing_give_way (fun vs H Q E h => len_Pairing_give_way h) (fun cdv A outer s H vs Q E hr h => ⟨t_Pairing_give_way K, PSs.nox ?_, pure_Pairing_give_way h⟩)
  exact (pss_cons (ps_set (i := 3) sc_Pairing_give_way.nd rfl (Or.inl rfl) (pv 1))
      (pss_one (ps_while PassesOwn.never (pt_cmpR op_notN (pv 3) pe_non (nomark _)) (pss_cons (ps_set (i := 4) sc_Pairing_give_way.nd rfl (Or.inl rfl) (pe_dget (hu_of hr) (pv 2) (pv 3) (fun _ _ => rfl)))
      (pss_cons (ps_set (i := 5) sc_Pairing_give_way.nd rfl (Or.inl rfl) (pe_dget1 (hu_of hr) (pe_fld (pv 0) rfl) (pv 4) ⟨rfl, rfl, rfl, rfl⟩))
      (pss_cons (ps_dput (hu_of hr) (pe_fld (pv 0) rfl) (pv 4) (pv 3) rfl)
      (pss_cons (ps_dput (hu_of hr) (pe_fld (pv 0) rfl) (pv 3) (pv 4) rfl)
      (pss_one (ps_set (i := 3) sc_Pairing_give_way.nd rfl (Or.inl rfl) (pv 5))))))))))
theorem b_Pairing_pair (T : Tx K mg) : Binds K T.fd_Pairing_pair ["self", "version"] [] := T.F_Pairing_pair.bindsN fun _ _ _ _ _ _ us hl => match us, hl with | [_, _], _ => rfl
theorem ok_Pairing_pair (T : Tx K mg) : FnOk P w K mg base CX0 2 (He.fAd K ("Pairing", some "pair")) T.fd_Pairing_pair ["self", "version"] (sp_Pairing_pair K) := by
  refine T.F_Pairing_pair.ok sc_Pairing_pair (fun vs H Q E h => len_Pairing_pair h) (fun cdv A outer s H vs Q E hr h => ⟨t_Pairing_pair K, PSs.nox ?_, pure_Pairing_pair h⟩)
  exact (pss_cons (ps_set (i := 2) sc_Pairing_pair.nd rfl (Or.inl rfl) pe_dnewK)
      (pss_cons (ps_set (i := 3) sc_Pairing_pair.nd rfl (Or.inl rfl) (pe_lst (pa_cons (pv 1) pa_nil)))
      (pss_cons (ps_while PassesOwn.never (pt_truth (pv 3) (by intro _; rfl)) (pss_cons (ps_set (i := 4) sc_Pairing_pair.nd rfl (Or.inl rfl) (pe_bm0 PySem.F.plainAttrs_list PySem.F.slot_list_pop PySem.F.type_list_pop mt_pop (pv 3)))
      (pss_one (ps_for PassesOwn.never rfl (pi_list (pe_dget (hu_of hr) (pe_fld (pv 0) rfl) (pv 4) (fun _ _ => rfl))) (pg_name (i := 5) sc_Pairing_pair.nd rfl (Or.inl rfl)) (pss_cons (ps_if (PW.pt (pw_or (pt_cmp (pc_din (hu_of hr) (pv 5) (pv 2))) (pw_or1 (pt_cmp (pc_din (hu_of hr) (pv 5) (pe_fld (pv 0) rfl)))))) (pss_one ps_continue) pss_nil)
      (pss_cons (ps_dput (hu_of hr) (pv 2) (pv 5) (pv 4) rfl)
      (pss_cons (ps_if (pt_cmp (pc_dnotin (hu_of hr) (pv 5) (pe_fld (pv 0) rfl))) (pss_cons (ps_expr (pe_meth (pv 0) T.cl_Pairing T.me_Pairing_give_way (ok_Pairing_give_way T) (hr.mono (by decide)) (b_Pairing_give_way T) .nil pass0 (pa_cons (pv 5) (pa_cons (pv 2) pa_nil))))
      (pss_one ps_retN)) pss_nil)
      (pss_one (ps_expr (pe_bm PySem.F.plainAttrs_list PySem.F.slot_list_append PySem.F.type_list_append mt_append (pv 3) (pa_cons (pe_dget (hu_of hr) (pe_fld (pv 0) rfl) (pv 5) (fun _ _ => rfl)) pa_nil)))))))))))
      (pss_one (ps_expr (pe_bm PySem.F.plainAttrs_dict PySem.F.slot_dict_update PySem.F.type_dict_update mt_update (pe_fld (pv 0) rfl) (pa_cons (pv 2) pa_nil)))))))
theorem b_Pairing_chain (T : Tx K mg) : Binds K T.fd_Pairing_chain ["self", "first"] [] := T.F_Pairing_chain.bindsN fun _ _ _ _ _ _ us hl => match us, hl with | [_, _], _ => rfl
theorem ok_Pairing_chain (T : Tx K mg) : FnOk P w K mg base CX0 1 (He.fAd K ("Pairing", some "chain")) T.fd_Pairing_chain ["self", "first"] (sp_Pairing_chain K) := by
  refine T.F_Pairing_chain.ok sc_Pairing_chain (fun vs H Q E h => len_Pairing_chain h) (fun cdv A outer s H vs Q E hr h => ⟨t_Pairing_chain K, PSs.nox ?_, pure_Pairing_chain h⟩)
  exact (pss_cons (ps_set (i := 2) sc_Pairing_chain.nd rfl (Or.inl rfl) (pe_lst (pa_cons (pv 1) pa_nil)))
      (pss_cons (ps_while PassesOwn.never (pt_cmp (pc_din (hu_of hr) (pe_ix ix_seq (pv 2) (pe_un un_neg pe_int) (fun _ _ => rfl)) (pe_fld (pv 0) rfl))) (pss_one (ps_expr (pe_bm PySem.F.plainAttrs_list PySem.F.slot_list_append PySem.F.type_list_append mt_append (pv 2) (pa_cons (pe_dget (hu_of hr) (pe_fld (pv 0) rfl) (pe_ix ix_seq (pv 2) (pe_un un_neg pe_int) (fun _ _ => rfl)) (fun _ _ => rfl)) pa_nil)))))
      (pss_one (ps_ret (pe_callTy call_tuple_of (by rfl) T.z_tuple (by decide +kernel) (pa_cons (pv 2) pa_nil))))))
theorem b_Pairing_stands_apart (T : Tx K mg) : Binds K T.fd_Pairing_stands_apart ["self", "version"] [] := T.F_Pairing_stands_apart.bindsN fun _ _ _ _ _ _ us hl => match us, hl with | [_, _], _ => rfl
theorem ok_Pairing_stands_apart (T : Tx K mg) : FnOk P w K mg base CX0 1 (He.fAd K ("Pairing", some "stands_apart")) T.fd_Pairing_stands_apart ["self", "version"] (sp_Pairing_stands_apart K) := by
  refine T.F_Pairing_stands_apart.ok sc_Pairing_stands_apart (fun vs H Q E h => len_Pairing_stands_apart h) (fun cdv A outer s H vs Q E hr h => ⟨t_Pairing_stands_apart K, PSs.nox ?_, pure_Pairing_stands_apart h⟩)
  exact (pss_cons (ps_if (pt_cmp (pc_din (hu_of hr) (pv 1) (pe_fld (pv 0) rfl))) (pss_one (ps_ret pe_bl)) pss_nil)
      (pss_one (ps_ret (pe_or (pe_cmp (pc_dnotin (hu_of hr) (pv 1) (pe_fld (pv 0) rfl)) rfl) (pe_one (pe_cmp (pc_din (hu_of hr) (pe_dget (hu_of hr) (pe_fld (pv 0) rfl) (pv 1) (fun _ _ => rfl)) (pe_fld (pv 0) rfl)) rfl))))))
theorem b_cover (T : Tx K mg) : Binds K T.fd_cover ["shape"] [] := T.F_cover.bindsN fun _ _ _ _ _ _ us hl => match us, hl with | [_], _ => rfl
theorem ok_cover (T : Tx K mg) : FnOk P w K mg base CX0 3 (He.fAd K ("cover", none)) T.fd_cover ["shape"] (sp_cover K) := by
  refine T.F_cover.ok sc_cover (fun vs H Q E h => len_cover h) (fun cdv A outer s H vs Q E hr h => ⟨t_cover K, PSs.nox ?_, pure_cover h⟩)
  exact (pss_cons (ps_set (i := 1) sc_cover.nd rfl (Or.inr rfl) (pe_make T.mk_Pairing (ok_Pairing_init T) (hr.mono (by decide)) (by rfl) T.gc_Pairing (b_Pairing_init T) .nil pass0 (pa_cons (pe_call (ok_all_below T) (hr.mono (by decide)) (by rfl) T.g_all_below T.F_all_below.kp (b_all_below T) .nil pass0 (pa_cons (pv 0) pa_nil)) pa_nil)))
      (pss_cons (ps_for PassesOwn.never rfl (pi_tup (pe_ix ix_seq (pv 0) pe_int (fun _ _ => rfl))) (pg_name (i := 2) sc_cover.nd rfl (Or.inl rfl)) (pss_one (ps_expr (pe_meth (pv 1) T.cl_Pairing T.me_Pairing_pair (ok_Pairing_pair T) (hr.mono (by decide)) (b_Pairing_pair T) .nil pass0 (pa_cons (pv 2) pa_nil)))))
      (pss_cons (ps_setLc (i := 3) (own := [("version", 2)]) (g := (gName 2)) (tt := (tB (tDNotIn (tVar 2) (tFld K (tVar 1) "lower_of")))) (te := (tMeth (He.ga K "Pairing") "chain" (sp_Pairing_chain K) [] E0 (tVar 1) (tCons (tVar 2) tNil))) rfl sc_cover.nd rfl rfl (sw_true rfl rfl rfl (by decide +kernel)) (pi_tup (pe_ix ix_seq (pv 0) pe_int (fun _ _ => rfl))) (blkOk_by (own := [("version", 2)]) (N := N_cover) (sc := defScope s_cover) (by decide +kernel)) (fun _ _ _ _ _ => (pg_name (i := 2) sc_cover.nd rfl (Or.inl rfl))) (fun _ _ _ _ _ => (pts_one (pt_cmp (pc_dnotin (hu_of hr) (pv 2) (pe_fld (pv 1) rfl))))) (fun _ _ _ _ _ => (pe_meth (pv 1) T.cl_Pairing T.me_Pairing_chain (ok_Pairing_chain T) (hr.mono (by decide)) (b_Pairing_chain T) .nil pass0 (pa_cons (pv 2) pa_nil))))
      (pss_cons (ps_setLc (i := 4) (own := [("version", 2)]) (g := (gName 2)) (tt := (tB (tMeth (He.ga K "Pairing") "stands_apart" (sp_Pairing_stands_apart K) [] E0 (tVar 1) (tCons (tVar 2) tNil)))) (te := (tVar 2)) rfl sc_cover.nd rfl rfl (sw_true rfl rfl rfl (by decide +kernel)) (pi_tup (pe_ix ix_seq (pv 0) pe_int (fun _ _ => rfl))) (blkOk_by (own := [("version", 2)]) (N := N_cover) (sc := defScope s_cover) (by decide +kernel)) (fun _ _ _ _ _ => (pg_name (i := 2) sc_cover.nd rfl (Or.inl rfl))) (fun _ _ _ _ _ => (pts_one (pt_val (pe_meth (pv 1) T.cl_Pairing T.me_Pairing_stands_apart (ok_Pairing_stands_apart T) (hr.mono (by decide)) (b_Pairing_stands_apart T) .nil pass0 (pa_cons (pv 2) pa_nil))))) (fun _ _ _ _ _ => (pv 2)))
      (pss_one (ps_ret (pe_tup (pa_cons (pe_callTy call_tuple_of (by rfl) T.z_tuple (by decide +kernel) (pa_cons (pv 3) pa_nil)) (pa_cons (pe_callTy call_tuple_of (by rfl) T.z_tuple (by decide +kernel) (pa_cons (pv 4) pa_nil)) pa_nil)))))))))
theorem b_l_deck (T : Tx K mg) : Binds K T.fd_l_deck ["_law_script"] [] := T.F_l_deck.bindsN fun _ _ _ _ _ _ us hl => match us, hl with | [_], _ => rfl
theorem ok_l_deck (T : Tx K mg) : FnOk P w K mg base CX0 1 (He.fAd K ("_law_deck", none)) T.fd_l_deck ["_law_script"] (sp_l_deck K) := by
  refine T.F_l_deck.ok sc_l_deck (fun vs H Q E h => len_l_deck h) (fun cdv A outer s H vs Q E hr h => ⟨t_l_deck K, PSs.nox ?_, pure_l_deck h⟩)
  exact (pss_one (ps_ret (pe_lst (pa_cons (pe_callTy call_list_of (by rfl) T.z_list (by decide +kernel) (pa_cons (pv 0) pa_nil)) (pa_cons pe_int (pa_cons pe_int (pa_cons pe_int pa_nil)))))))
theorem b_l_mixed (T : Tx K mg) : Binds K T.fd_l_mixed ["_law_cell", "_law_turn"] [] := T.F_l_mixed.bindsN fun _ _ _ _ _ _ us hl => match us, hl with | [_, _], _ => rfl
theorem ok_l_mixed (T : Tx K mg) : FnOk P w K mg base CX0 1 (He.fAd K ("_law_mixed", none)) T.fd_l_mixed ["_law_cell", "_law_turn"] (sp_l_mixed K) := by
  refine T.F_l_mixed.ok sc_l_mixed (fun vs H Q E h => len_l_mixed h) (fun cdv A outer s H vs Q E hr h => ⟨t_l_mixed K, PSs.nox ?_, pure_l_mixed h⟩)
  exact (pss_one (ps_ret (pe_op op_mod (pe_op op_pow (pe_op op_add (pe_op op_add (pe_op op_mod (pv 0) pe_int) (pe_op op_mul (pv 1) pe_int)) pe_int) pe_int) pe_int)))
theorem b_l_draw (T : Tx K mg) : Binds K T.fd_l_draw ["_law_deck_here", "_law_many"] [] := T.F_l_draw.bindsN fun _ _ _ _ _ _ us hl => match us, hl with | [_, _], _ => rfl
theorem ok_l_draw (T : Tx K mg) : FnOk P w K mg base CX0 2 (He.fAd K ("_law_draw", none)) T.fd_l_draw ["_law_deck_here", "_law_many"] (sp_l_draw K) := by
  refine T.F_l_draw.ok sc_l_draw (fun vs H Q E h => len_l_draw h) (fun cdv A outer s H vs Q E hr h => ⟨t_l_draw K, PSs.nox ?_, pure_l_draw h⟩)
  exact (pss_cons (ps_set (i := 2) sc_l_draw.nd rfl (Or.inl rfl) (pe_ix ix_seq (pv 0) pe_int (fun _ _ => rfl)))
      (pss_cons (ps_asg (pe_op op_add (pe_ix ix_seq (pv 0) pe_int (fun _ _ => rfl)) pe_int) (pg_sub (pv 0) pe_int set_list))
      (pss_cons (ps_if (PW.pt (pw_and (pt_cmpR op_eq (pe_ix ix_seq (pv 0) pe_int (fun _ _ => rfl)) pe_int (nomark _)) (pw_and1 (pt_cmpR op_lt (pe_ix ix_seq (pv 0) pe_int (fun _ _ => rfl)) (pe_callB call_len (by rfl) T.z_len PySem.boot_len (pa_cons (pv 2) pa_nil)) (nomark _))))) (pss_cons (ps_asg (pe_op op_add (pe_ix ix_seq (pv 0) pe_int (fun _ _ => rfl)) pe_int) (pg_sub (pv 0) pe_int set_list))
      (pss_cons (ps_if (pt_cmpR op_lt (pe_ix ix_seq (pv 2) (pe_op op_sub (pe_ix ix_seq (pv 0) pe_int (fun _ _ => rfl)) pe_int) (fun _ _ => rfl)) (pe_op op_pow pe_int pe_int) (nomark _)) (pss_one (ps_ret (pe_op op_mod (pe_call (ok_l_mixed T) (hr.mono (by decide)) (by rfl) T.g_l_mixed T.F_l_mixed.kp (b_l_mixed T) .nil pass0 (pa_cons (pe_ix ix_seq (pv 2) (pe_op op_sub (pe_ix ix_seq (pv 0) pe_int (fun _ _ => rfl)) pe_int) (fun _ _ => rfl)) (pa_cons (pe_ix ix_seq (pv 0) pe_int (fun _ _ => rfl)) pa_nil))) (pv 1)))) pss_nil)
      (pss_one (ps_asg (pe_ix ix_seq (pv 2) (pe_op op_sub (pe_ix ix_seq (pv 0) pe_int (fun _ _ => rfl)) pe_int) (fun _ _ => rfl)) (pg_sub (pv 0) pe_int set_list))))) pss_nil)
      (pss_cons (ps_if (pt_cmpR op_gt (pe_ix ix_seq (pv 0) pe_int (fun _ _ => rfl)) pe_int (nomark _)) (pss_cons (ps_set (i := 3) sc_l_draw.nd rfl (Or.inl rfl) (pe_op op_mod (pe_ix ix_seq (pv 0) pe_int (fun _ _ => rfl)) (pv 1)))
      (pss_cons (ps_asg (pe_op op_fdivW (pe_ix ix_seq (pv 0) pe_int (fun _ _ => rfl)) (pv 1)) (pg_sub (pv 0) pe_int set_list))
      (pss_one (ps_ret (pv 3))))) pss_nil)
      (pss_cons (ps_set (i := 4) sc_l_draw.nd rfl (Or.inl rfl) (pe_op op_mul (pe_ix ix_seq (pv 0) pe_int (fun _ _ => rfl)) pe_int))
      (pss_cons (ps_if (pt_cmpR op_gt (pe_callB call_len (by rfl) T.z_len PySem.boot_len (pa_cons (pv 2) pa_nil)) pe_int (nomark _)) (pss_one (ps_set (i := 4) sc_l_draw.nd rfl (Or.inl rfl) (pe_op op_add (pv 4) (pe_op op_mod (pe_ix ix_seq (pv 2) (pe_op op_mod (pe_op op_mul (pe_ix ix_seq (pv 0) pe_int (fun _ _ => rfl)) pe_int) (pe_callB call_len (by rfl) T.z_len PySem.boot_len (pa_cons (pv 2) pa_nil))) (fun _ _ => rfl)) pe_int)))) pss_nil)
      (pss_one (ps_ret (pe_op op_mod (pe_call (ok_l_mixed T) (hr.mono (by decide)) (by rfl) T.g_l_mixed T.F_l_mixed.kp (b_l_mixed T) .nil pass0 (pa_cons (pv 4) (pa_cons (pe_ix ix_seq (pv 0) pe_int (fun _ _ => rfl)) pa_nil))) (pv 1))))))))))
theorem b_l_int (T : Tx K mg) : Binds K T.fd_l_int ["_law_thing"] [] := T.F_l_int.bindsN fun _ _ _ _ _ _ us hl => match us, hl with | [_], _ => rfl
theorem ok_l_int (T : Tx K mg) : FnOk P w K mg base CX0 1 (He.fAd K ("_law_int", none)) T.fd_l_int ["_law_thing"] (sp_l_int K) := by
  refine T.F_l_int.ok sc_l_int (fun vs H Q E h => len_l_int h) (fun cdv A outer s H vs Q E hr h => ⟨t_l_int K, PSs.nox ?_, pure_l_int h⟩)
  exact (pss_one (ps_ret (pe_and (pe_callB call_isi (by rfl) T.z_isinstance (by decide +kernel) (pa_cons (pv 0) (pa_cons (pe_bltn (v := .ty "int") (by rfl) T.z_int (by decide +kernel) rfl) pa_nil))) (pe_one (pe_not (pe_callB call_isi (by rfl) T.z_isinstance (by decide +kernel) (pa_cons (pv 0) (pa_cons (pe_bltn (v := .ty "bool") (by rfl) T.z_bool (by decide +kernel) rfl) pa_nil))))))))
theorem b_l_same (T : Tx K mg) : Binds K T.fd_l_same ["_law_found", "_law_due"] [] := T.F_l_same.bindsN fun _ _ _ _ _ _ us hl => match us, hl with | [_, _], _ => rfl
theorem ok_sameN (T : Tx K mg) : ∀ n : Nat, FnOk P w K mg base CX0 (n + 2) (He.fAd K ("_law_same", none)) T.fd_l_same ["_law_found", "_law_due"] (sp_sameN K n)
  | 0 => T.F_l_same.ok sc_l_same (fun vs H Q E h => len_sameN h) (fun cdv A outer s H vs Q E hr h => by
      obtain ⟨_, _, _, h, _⟩ := h
      exact h.elim)
  | n + 1 => by
    have G : FnOk P w K mg base CX0 (n + 2) (He.fAd K ("_law_same", none)) T.fd_l_same ["_law_found", "_law_due"] (sp_sameN K n) := ok_sameN T n
    refine T.F_l_same.ok sc_l_same (fun vs H Q E h => len_sameN h) (fun cdv A outer s H vs Q E hr h => ⟨t_l_same K n, PSs.nox ?_, pure_l_same h⟩)
    exact (pss_cons (ps_if (PW.pt (pw_or (pt_val (pe_callB call_isi (by rfl) T.z_isinstance (by decide +kernel) (pa_cons (pv 1) (pa_cons (pe_bltn (v := .ty "tuple") (by rfl) T.z_tuple (by decide +kernel) rfl) pa_nil)))) (pw_or1 (pt_val (pe_callB call_isi (by rfl) T.z_isinstance (by decide +kernel) (pa_cons (pv 1) (pa_cons (pe_bltn (v := .ty "list") (by rfl) T.z_list (by decide +kernel) rfl) pa_nil))))))) (pss_cons (ps_if (PW.pt (pw_or (pt_cmpR op_ne (pe_callB call_isi (by rfl) T.z_isinstance (by decide +kernel) (pa_cons (pv 1) (pa_cons (pe_bltn (v := .ty "tuple") (by rfl) T.z_tuple (by decide +kernel) rfl) pa_nil))) (pe_callB call_isi (by rfl) T.z_isinstance (by decide +kernel) (pa_cons (pv 0) (pa_cons (pe_bltn (v := .ty "tuple") (by rfl) T.z_tuple (by decide +kernel) rfl) pa_nil))) (nomark _)) (pw_or1 (pt_cmpR op_ne (pe_callB call_isi (by rfl) T.z_isinstance (by decide +kernel) (pa_cons (pv 1) (pa_cons (pe_bltn (v := .ty "list") (by rfl) T.z_list (by decide +kernel) rfl) pa_nil))) (pe_callB call_isi (by rfl) T.z_isinstance (by decide +kernel) (pa_cons (pv 0) (pa_cons (pe_bltn (v := .ty "list") (by rfl) T.z_list (by decide +kernel) rfl) pa_nil))) (nomark _))))) (pss_one (ps_ret pe_bl)) pss_nil)
      (pss_cons (ps_if (pt_cmpR op_ne (pe_callB call_len (by rfl) T.z_len PySem.boot_len (pa_cons (pv 0) pa_nil)) (pe_callB call_len (by rfl) T.z_len PySem.boot_len (pa_cons (pv 1) pa_nil)) (nomark _)) (pss_one (ps_ret pe_bl)) pss_nil)
      (pss_cons (ps_for PassesOwn.never rfl (pi_range1 (by rfl) T.z_range (pa_cons (pe_callB call_len (by rfl) T.z_len PySem.boot_len (pa_cons (pv 1) pa_nil)) pa_nil)) (pg_name (i := 2) sc_l_same.nd rfl (Or.inl rfl)) (pss_one (ps_if (pt_not (pt_val (pe_call G hr (by rfl) T.g_l_same T.F_l_same.kp (b_l_same T) .nil pass0 (pa_cons (pe_ix ix_seq (pv 0) (pv 2) (fun _ _ => rfl)) (pa_cons (pe_ix ix_seq (pv 1) (pv 2) (fun _ _ => rfl)) pa_nil))))) (pss_one (ps_ret pe_bl)) pss_nil)))
      (pss_one (ps_ret pe_bl))))) pss_nil)
      (pss_cons (ps_if (pt_val (pe_callB call_isi (by rfl) T.z_isinstance (by decide +kernel) (pa_cons (pv 1) (pa_cons (pe_bltn (v := .ty "bool") (by rfl) T.z_bool (by decide +kernel) rfl) pa_nil)))) (pss_one (ps_ret (pe_and (pe_callB call_isi (by rfl) T.z_isinstance (by decide +kernel) (pa_cons (pv 0) (pa_cons (pe_bltn (v := .ty "bool") (by rfl) T.z_bool (by decide +kernel) rfl) pa_nil))) (pe_one (pe_cmpR op_eq (pv 0) (pv 1) (nomark _)))))) pss_nil)
      (pss_cons (ps_if (pt_val (pe_callB call_isi (by rfl) T.z_isinstance (by decide +kernel) (pa_cons (pv 1) (pa_cons (pe_bltn (v := .ty "int") (by rfl) T.z_int (by decide +kernel) rfl) pa_nil)))) (pss_one (ps_ret (pe_and (pe_call (ok_l_int T) (hr.mono (by omega)) (by rfl) T.g_l_int T.F_l_int.kp (b_l_int T) .nil pass0 (pa_cons (pv 0) pa_nil)) (pe_one (pe_cmpR op_eq (pv 0) (pv 1) (nomark _)))))) pss_nil)
      (pss_cons (ps_if (pt_val (pe_callB call_isi (by rfl) T.z_isinstance (by decide +kernel) (pa_cons (pv 1) (pa_cons (pe_bltn (v := .ty "str") (by rfl) T.z_str (by decide +kernel) rfl) pa_nil)))) (pss_one (ps_ret (pe_and (pe_callB call_isi (by rfl) T.z_isinstance (by decide +kernel) (pa_cons (pv 0) (pa_cons (pe_bltn (v := .ty "str") (by rfl) T.z_str (by decide +kernel) rfl) pa_nil))) (pe_one (pe_cmpR op_eq (pv 0) (pv 1) (nomark _)))))) pss_nil)
      (pss_one (ps_ret (pe_and (pe_cmpR op_isN (pv 1) pe_non (nomark _)) (pe_one (pe_cmpR op_isN (pv 0) pe_non (nomark _))))))))))
theorem ok_l_same (T : Tx K mg) : FnOk P w K mg base CX0 8 (He.fAd K ("_law_same", none)) T.fd_l_same ["_law_found", "_law_due"] (sp_l_same K) := ok_sameN T 6
theorem b_l_shape (T : Tx K mg) : Binds K T.fd_l_shape ["_law_deck_here", "_law_most"] [] := T.F_l_shape.bindsN fun _ _ _ _ _ _ us hl => match us, hl with | [_, _], _ => rfl
theorem ok_l_shape (T : Tx K mg) : FnOk P w K mg base CX0 3 (He.fAd K ("_law_shape", none)) T.fd_l_shape ["_law_deck_here", "_law_most"] (sp_l_shape K) := by
  refine T.F_l_shape.ok sc_l_shape (fun vs H Q E h => len_l_shape h) (fun cdv A outer s H vs Q E hr h => ⟨t_l_shape K, PSs.nox ?_, pure_l_shape h⟩)
  exact (pss_cons (ps_set (i := 2) sc_l_shape.nd rfl (Or.inl rfl) (pe_lst pa_nil))
      (pss_cons (ps_set (i := 3) sc_l_shape.nd rfl (Or.inl rfl) (pe_un un_neg pe_int))
      (pss_cons (ps_set (i := 4) sc_l_shape.nd rfl (Or.inl rfl) (pe_call (ok_l_draw T) (hr.mono (by decide)) (by rfl) T.g_l_draw T.F_l_draw.kp (b_l_draw T) .nil pass0 (pa_cons (pv 0) (pa_cons pe_int pa_nil))))
      (pss_cons (ps_set (i := 5) sc_l_shape.nd rfl (Or.inl rfl) (pe_call (ok_l_draw T) (hr.mono (by decide)) (by rfl) T.g_l_draw T.F_l_draw.kp (b_l_draw T) .nil pass0 (pa_cons (pv 0) (pa_cons pe_int pa_nil))))
      (pss_cons (ps_set (i := 6) sc_l_shape.nd rfl (Or.inl rfl) (pe_lst pa_nil))
      (pss_cons (ps_for PassesOwn.never rfl (pi_range1 (by rfl) T.z_range (pa_cons (pe_call (ok_l_draw T) (hr.mono (by decide)) (by rfl) T.g_l_draw T.F_l_draw.kp (b_l_draw T) .nil pass0 (pa_cons (pv 0) (pa_cons (pe_op op_add (pv 1) pe_int) pa_nil))) pa_nil)) (pg_name (i := 7) sc_l_shape.nd rfl (Or.inl rfl)) (pss_cons (ps_set (i := 3) sc_l_shape.nd rfl (Or.inl rfl) (pe_op op_add (pe_op op_add (pv 3) pe_int) (pe_call (ok_l_draw T) (hr.mono (by decide)) (by rfl) T.g_l_draw T.F_l_draw.kp (b_l_draw T) .nil pass0 (pa_cons (pv 0) (pa_cons pe_int pa_nil)))))
      (pss_cons (ps_if (PW.pt (pw_and (pt_cmpR op_eq (pv 4) pe_int (nomark _)) (pw_and1 (pt_cmpR op_eq (pe_call (ok_l_draw T) (hr.mono (by decide)) (by rfl) T.g_l_draw T.F_l_draw.kp (b_l_draw T) .nil pass0 (pa_cons (pv 0) (pa_cons pe_int pa_nil))) pe_int (nomark _))))) (pss_one (ps_set (i := 3) sc_l_shape.nd rfl (Or.inl rfl) (pe_op op_add (pv 3) (pe_call (ok_l_draw T) (hr.mono (by decide)) (by rfl) T.g_l_draw T.F_l_draw.kp (b_l_draw T) .nil pass0 (pa_cons (pv 0) (pa_cons (pe_op op_pow pe_int pe_int) pa_nil)))))) pss_nil)
      (pss_cons (ps_for PassesOwn.never rfl (pi_range1 (by rfl) T.z_range (pa_cons (pv 7) pa_nil)) (pg_name (i := 8) sc_l_shape.nd rfl (Or.inl rfl)) (pss_cons (ps_set (i := 9) sc_l_shape.nd rfl (Or.inl rfl) (pe_cmpR op_eq (pe_call (ok_l_draw T) (hr.mono (by decide)) (by rfl) T.g_l_draw T.F_l_draw.kp (b_l_draw T) .nil pass0 (pa_cons (pv 0) (pa_cons (pe_ix ix_seq (pe_lst (pa_cons pe_int (pa_cons pe_int (pa_cons pe_int (pa_cons pe_int pa_nil))))) (pv 5) (fun _ _ => rfl)) pa_nil))) pe_int (nomark _)))
      (pss_cons (ps_if (PW.pt (pw_and (pt_cmpR op_eq (pv 5) pe_int (nomark _)) (pw_and1 (pt_cmpR op_gt (pe_op op_sub (pv 7) (pv 8)) pe_int (nomark _))))) (pss_one (ps_set (i := 9) sc_l_shape.nd rfl (Or.inl rfl) pe_bl)) pss_nil)
      (pss_cons (ps_if (PW.pt (pw_and (pt_cmpR op_eq (pv 5) pe_int (nomark _)) (pw_and1 (pt_cmpR op_eq (pv 8) (pe_op op_sub (pv 7) pe_int) (nomark _))))) (pss_one (ps_set (i := 9) sc_l_shape.nd rfl (Or.inl rfl) pe_bl)) pss_nil)
      (pss_one (ps_if (pt_val (pv 9)) (pss_one (ps_expr (pe_bm PySem.F.plainAttrs_list PySem.F.slot_list_append PySem.F.type_list_append mt_append (pv 6) (pa_cons (pe_tup (pa_cons (pv 3) (pa_cons (pe_ix ix_seq (pv 2) (pv 8) (fun _ _ => rfl)) pa_nil))) pa_nil)))) pss_nil))))))
      (pss_one (ps_expr (pe_bm PySem.F.plainAttrs_list PySem.F.slot_list_append PySem.F.type_list_append mt_append (pv 2) (pa_cons (pv 3) pa_nil))))))))
      (pss_one (ps_ret (pe_tup (pa_cons (pe_callTy call_tuple_of (by rfl) T.z_tuple (by decide +kernel) (pa_cons (pv 2) pa_nil)) (pa_cons (pe_callTy call_tuple_of (by rfl) T.z_tuple (by decide +kernel) (pa_cons (pv 6) pa_nil)) pa_nil)))))))))))
theorem b_l_spans (T : Tx K mg) : Binds K T.fd_l_spans ["_law_web"] [] := T.F_l_spans.bindsN fun _ _ _ _ _ _ us hl => match us, hl with | [_], _ => rfl
theorem ok_l_spans (T : Tx K mg) : FnOk P w K mg base CX0 1 (He.fAd K ("_law_spans", none)) T.fd_l_spans ["_law_web"] (sp_l_spans K) := by
  refine T.F_l_spans.ok sc_l_spans (fun vs H Q E h => len_l_spans h) (fun cdv A outer s H vs Q E hr h => ⟨t_l_spans K, PSs.nox ?_, pure_l_spans h⟩)
  exact (pss_cons (ps_set (i := 1) sc_l_spans.nd rfl (Or.inl rfl) pe_dnewK)
      (pss_cons (ps_for PassesOwn.never rfl (pi_tup (pe_ix ix_seq (pv 0) pe_int (fun _ _ => rfl))) (pg_name (i := 2) sc_l_spans.nd rfl (Or.inl rfl)) (pss_cons (ps_set (i := 3) sc_l_spans.nd rfl (Or.inl rfl) (pe_disp (pps_cons (pv 2) pe_bl pps_nil) (by rfl) (by rfl) (fun z => by cases z) (by decide)))
      (pss_cons (ps_for PassesOwn.never rfl (pi_tup (pe_ix ix_seq (pv 0) pe_int (fun _ _ => rfl))) (pg_name (i := 4) sc_l_spans.nd rfl (Or.inl rfl)) (pss_one (ps_if (pt_cmpR op_eq (pe_ix ix_seq (pv 4) pe_int (fun _ _ => rfl)) (pv 2) (nomark _)) (pss_one (ps_for PassesOwn.never rfl (pi_list (pe_dget (hu_of hr) (pv 1) (pe_ix ix_seq (pv 4) pe_int (fun _ _ => rfl)) (fun _ _ => rfl))) (pg_name (i := 5) sc_l_spans.nd rfl (Or.inl rfl)) (pss_one (ps_dput (hu_of hr) (pv 3) (pv 5) pe_bl rfl)))) pss_nil)))
      (pss_one (ps_dput (hu_of hr) (pv 1) (pv 2) (pe_callB (call_sortedDI rfl) (by rfl) T.z_sorted (by decide +kernel) (pa_cons (pv 3) pa_nil)) rfl)))))
      (pss_one (ps_ret (pv 1)))))
theorem b_l_lower (T : Tx K mg) : Binds K T.fd_l_lower ["_law_deck_here", "_law_rows"] [] := T.F_l_lower.bindsN fun _ _ _ _ _ _ us hl => match us, hl with | [_, _], _ => rfl
theorem ok_l_lower (T : Tx K mg) : FnOk P w K mg base CX0 3 (He.fAd K ("_law_lower", none)) T.fd_l_lower ["_law_deck_here", "_law_rows"] (sp_l_lower K) := by
  refine T.F_l_lower.ok sc_l_lower (fun vs H Q E h => len_l_lower h) (fun cdv A outer s H vs Q E hr h => ⟨t_l_lower K, PSs.nox ?_, pure_l_lower h⟩)
  exact (pss_cons (ps_set (i := 2) sc_l_lower.nd rfl (Or.inl rfl) pe_dnewK)
      (pss_cons (ps_lock (ps_for PassesOwn.never rfl (pi_keys (pv 1)) (pg_name (i := 3) sc_l_lower.nd rfl (Or.inl rfl)) (pss_one (ps_if (pt_cmpR op_eq (pe_call (ok_l_draw T) (hr.mono (by decide)) (by rfl) T.g_l_draw T.F_l_draw.kp (b_l_draw T) .nil pass0 (pa_cons (pv 0) (pa_cons pe_int pa_nil))) pe_int (nomark _)) (pss_one (ps_for PassesOwn.never rfl (pi_list (pe_dget (hu_of hr) (pv 1) (pv 3) (fun _ _ => rfl))) (pg_name (i := 4) sc_l_lower.nd rfl (Or.inl rfl)) (pss_one (ps_dput (hu_of hr) (pv 2) (pv 4) pe_bl rfl)))) pss_nil))))
      (pss_one (ps_ret (pe_callB (call_sortedDI rfl) (by rfl) T.z_sorted (by decide +kernel) (pa_cons (pv 2) pa_nil))))))
theorem b_l_settled (T : Tx K mg) : Binds K T.fd_l_settled ["_law_rows", "_law_answers"] [] := T.F_l_settled.bindsN fun _ _ _ _ _ _ us hl => match us, hl with | [_, _], _ => rfl
theorem ok_l_settled (T : Tx K mg) : FnOk P w K mg base CX0 1 (He.fAd K ("_law_settled", none)) T.fd_l_settled ["_law_rows", "_law_answers"] (sp_l_settled K) := by
  refine T.F_l_settled.ok sc_l_settled (fun vs H Q E h => len_l_settled h) (fun cdv A outer s H vs Q E hr h => ⟨t_l_settled K, PSs.nox ?_, pure_l_settled h⟩)
  exact (pss_cons (ps_set (i := 2) sc_l_settled.nd rfl (Or.inl rfl) (pe_lst pa_nil))
      (pss_cons (ps_set (i := 3) sc_l_settled.nd rfl (Or.inl rfl) (pe_lst pa_nil))
      (pss_cons (ps_set (i := 4) sc_l_settled.nd rfl (Or.inl rfl) (pe_lst pa_nil))
      (pss_cons (ps_lock (ps_for PassesOwn.never rfl (pi_keys (pv 0)) (pg_name (i := 5) sc_l_settled.nd rfl (Or.inr rfl)) (pss_one (ps_if (pt_cmpR op_gt (pe_callB call_len (by rfl) T.z_len PySem.boot_len (pa_cons (pe_lc (own := [("_law_one", 6)]) (g := (gName 6)) (tt := (tAnd (tB (tOp (rIx K) (tVar 6) (tC (.int 1)))) (tTest (tOp (rIn K false) (tVar 5) (tDGet (tVar 0) (tOp (rIx K) (tVar 6) (tC (.int 0)))))))) (te := (tVar 6)) rfl sc_l_settled.nd (pi_tup (pv 1)) (blkOk_by (own := [("_law_one", 6)]) (N := N_l_settled) (sc := defScope s_l_settled) (by decide +kernel)) (fun _ _ _ _ _ => (pg_name (i := 6) sc_l_settled.nd rfl (Or.inl rfl))) (fun _ _ _ _ _ => (pts_one (PW.pt (pw_and (pt_val (pe_ix ix_seq (pv 6) pe_int (fun _ _ => rfl))) (pw_and1 (pt_cmpR op_in_seq (pv 5) (pe_dget (hu_of hr) (pv 0) (pe_ix ix_seq (pv 6) pe_int (fun _ _ => rfl)) (fun _ _ => rfl)) (by rfl))))))) (fun _ _ _ _ _ => (pv 6))) pa_nil)) pe_int (nomark _)) (pss_one (ps_expr (pe_bm PySem.F.plainAttrs_list PySem.F.slot_list_append PySem.F.type_list_append mt_append (pv 2) (pa_cons (pv 5) pa_nil)))) (pss_one (ps_if (pt_cmpR op_gt (pe_callB call_len (by rfl) T.z_len PySem.boot_len (pa_cons (pe_lc (own := [("_law_one", 6)]) (g := (gName 6)) (tt := (tAnd (tNot (tB (tOp (rIx K) (tVar 6) (tC (.int 1))))) (tTest (tOp (rIn K false) (tOp (rIx K) (tVar 6) (tC (.int 0))) (tDGet (tVar 0) (tVar 5)))))) (te := (tVar 6)) rfl sc_l_settled.nd (pi_tup (pv 1)) (blkOk_by (own := [("_law_one", 6)]) (N := N_l_settled) (sc := defScope s_l_settled) (by decide +kernel)) (fun _ _ _ _ _ => (pg_name (i := 6) sc_l_settled.nd rfl (Or.inl rfl))) (fun _ _ _ _ _ => (pts_one (PW.pt (pw_and (pt_not (pt_val (pe_ix ix_seq (pv 6) pe_int (fun _ _ => rfl)))) (pw_and1 (pt_cmpR op_in_seq (pe_ix ix_seq (pv 6) pe_int (fun _ _ => rfl)) (pe_dget (hu_of hr) (pv 0) (pv 5) (fun _ _ => rfl)) (by rfl))))))) (fun _ _ _ _ _ => (pv 6))) pa_nil)) pe_int (nomark _)) (pss_one (ps_expr (pe_bm PySem.F.plainAttrs_list PySem.F.slot_list_append PySem.F.type_list_append mt_append (pv 3) (pa_cons (pv 5) pa_nil)))) (pss_one (ps_expr (pe_bm PySem.F.plainAttrs_list PySem.F.slot_list_append PySem.F.type_list_append mt_append (pv 4) (pa_cons (pv 5) pa_nil))))))))))
      (pss_one (ps_ret (pe_tup (pa_cons (pe_callTy call_tuple_of (by rfl) T.z_tuple (by decide +kernel) (pa_cons (pv 2) pa_nil)) (pa_cons (pe_callTy call_tuple_of (by rfl) T.z_tuple (by decide +kernel) (pa_cons (pv 3) pa_nil)) (pa_cons (pe_callTy call_tuple_of (by rfl) T.z_tuple (by decide +kernel) (pa_cons (pv 4) pa_nil)) pa_nil))))))))))
theorem b_l_middlesT (T : Tx K mg) : Binds K T.fd_l_middlesT ["_law_chains", "_law_left", "_law_wide"] [] := T.F_l_middlesT.bindsN fun _ _ _ _ _ _ us hl => match us, hl with | [_, _, _], _ => rfl
theorem ok_l_middlesT (T : Tx K mg) : FnOk P w K mg base CX0 1 (He.fAd K ("_law_middles", none)) T.fd_l_middlesT ["_law_chains", "_law_left", "_law_wide"] (sp_l_middlesT K) := by
  refine T.F_l_middlesT.ok sc_l_middlesT (fun vs H Q E h => len_l_middlesT h) (fun cdv A outer s H vs Q E hr h => ⟨t_l_middlesT K, PSs.nox ?_, pure_l_middlesT h⟩)
  exact (pss_cons (ps_set (i := 3) sc_l_middlesT.nd rfl (Or.inl rfl) (pe_lst pa_nil))
      (pss_cons (ps_for PassesOwn.never rfl (pi_tup (pv 0)) (pg_name (i := 4) sc_l_middlesT.nd rfl (Or.inl rfl)) (pss_cons (ps_setLc (i := 5) (own := [("_law_version", 6)]) (g := (gName 6)) (tt := (tTest (tOp (rIn K false) (tVar 6) (tVar 1)))) (te := (tVar 6)) rfl sc_l_middlesT.nd rfl rfl (sw_true rfl rfl rfl (by decide +kernel)) (pi_tup (pv 4)) (blkOk_by (own := [("_law_version", 6)]) (N := N_l_middlesT) (sc := defScope s_l_middlesT) (by decide +kernel)) (fun _ _ _ _ _ => (pg_name (i := 6) sc_l_middlesT.nd rfl (Or.inl rfl))) (fun _ _ _ _ _ => (pts_one (pt_cmpR op_in_seq (pv 6) (pv 1) (by rfl)))) (fun _ _ _ _ _ => (pv 6)))
      (pss_one (ps_if (PW.pt (pw_and (pt_cmpR op_gt (pe_callB call_len (by rfl) T.z_len PySem.boot_len (pa_cons (pv 5) pa_nil)) pe_int (nomark _)) (pw_and1 (pt_cmpR op_lt (pe_callB call_len (by rfl) T.z_len PySem.boot_len (pa_cons (pv 3) pa_nil)) (pv 2) (nomark _))))) (pss_one (ps_expr (pe_bm PySem.F.plainAttrs_list PySem.F.slot_list_append PySem.F.type_list_append mt_append (pv 3) (pa_cons (pe_ix ix_seq (pv 5) (pe_op op_fdivW (pe_callB call_len (by rfl) T.z_len PySem.boot_len (pa_cons (pv 5) pa_nil)) pe_int) (fun _ _ => rfl)) pa_nil)))) pss_nil))))
      (pss_one (ps_ret (pe_callTy call_tuple_of (by rfl) T.z_tuple (by decide +kernel) (pa_cons (pv 3) pa_nil))))))
theorem b_l_rising (T : Tx K mg) : Binds K T.fd_l_rising ["_law_thing"] [] := T.F_l_rising.bindsN fun _ _ _ _ _ _ us hl => match us, hl with | [_], _ => rfl
theorem ok_l_rising (T : Tx K mg) : FnOk P w K mg base CX0 2 (He.fAd K ("_law_rising", none)) T.fd_l_rising ["_law_thing"] (sp_l_rising K) := by
  refine T.F_l_rising.ok sc_l_rising (fun vs H Q E h => len_l_rising h) (fun cdv A outer s H vs Q E hr h => ⟨t_l_rising K, PSs.nox ?_, pure_l_rising h⟩)
  exact (pss_cons (ps_if (pt_not (pt_val (pe_callB call_isi (by rfl) T.z_isinstance (by decide +kernel) (pa_cons (pv 0) (pa_cons (pe_bltn (v := .ty "tuple") (by rfl) T.z_tuple (by decide +kernel) rfl) pa_nil))))) (pss_one (ps_ret pe_bl)) pss_nil)
      (pss_cons (ps_set (i := 1) sc_l_rising.nd rfl (Or.inl rfl) (pe_un un_neg pe_int))
      (pss_cons (ps_for PassesOwn.never rfl (pi_tup (pv 0)) (pg_name (i := 2) sc_l_rising.nd rfl (Or.inl rfl)) (pss_cons (ps_if (PW.pt (pw_or (pt_not (pt_val (pe_call (ok_l_int T) (hr.mono (by decide)) (by rfl) T.g_l_int T.F_l_int.kp (b_l_int T) .nil pass0 (pa_cons (pv 2) pa_nil)))) (pw_or1 (pt_cmpR op_le (pv 2) (pv 1) (nomark _))))) (pss_one (ps_ret pe_bl)) pss_nil)
      (pss_one (ps_set (i := 1) sc_l_rising.nd rfl (Or.inl rfl) (pv 2)))))
      (pss_one (ps_ret pe_bl)))))
theorem b_l_is_cover (T : Tx K mg) : Binds K T.fd_l_is_cover ["_law_web", "_law_rows", "_law_thing"] [] := T.F_l_is_cover.bindsN fun _ _ _ _ _ _ us hl => match us, hl with | [_, _, _], _ => rfl
theorem ok_l_is_cover (T : Tx K mg) : FnOk P w K mg base CX0 3 (He.fAd K ("_law_is_cover", none)) T.fd_l_is_cover ["_law_web", "_law_rows", "_law_thing"] (sp_l_is_cover K) := by
  refine T.F_l_is_cover.ok sc_l_is_cover (fun vs H Q E h => len_l_is_cover h) (fun cdv A outer s H vs Q E hr h => ⟨t_l_is_cover K, PSs.nox ?_, pure_l_is_cover h⟩)
  exact (pss_cons (ps_if (PW.pt (pw_or (pt_not (pt_val (pe_callB call_isi (by rfl) T.z_isinstance (by decide +kernel) (pa_cons (pv 2) (pa_cons (pe_bltn (v := .ty "tuple") (by rfl) T.z_tuple (by decide +kernel) rfl) pa_nil))))) (pw_or (pt_cmpR op_ne (pe_callB call_len (by rfl) T.z_len PySem.boot_len (pa_cons (pv 2) pa_nil)) pe_int (nomark _)) (pw_or1 (pt_not (pt_val (pe_callB call_isi (by rfl) T.z_isinstance (by decide +kernel) (pa_cons (pe_ix ix_seq (pv 2) pe_int (fun _ _ => rfl)) (pa_cons (pe_bltn (v := .ty "tuple") (by rfl) T.z_tuple (by decide +kernel) rfl) pa_nil))))))))) (pss_one (ps_ret pe_bl)) pss_nil)
      (pss_cons (ps_if (PW.pt (pw_or (pt_not (pt_val (pe_call (ok_l_rising T) (hr.mono (by decide)) (by rfl) T.g_l_rising T.F_l_rising.kp (b_l_rising T) .nil pass0 (pa_cons (pe_ix ix_seq (pv 2) pe_int (fun _ _ => rfl)) pa_nil)))) (pw_or1 (pt_cmpR op_ne (pe_callB call_len (by rfl) T.z_len PySem.boot_len (pa_cons (pe_ix ix_seq (pv 2) pe_int (fun _ _ => rfl)) pa_nil)) (pe_callB call_len (by rfl) T.z_len PySem.boot_len (pa_cons (pe_ix ix_seq (pv 2) pe_int (fun _ _ => rfl)) pa_nil)) (nomark _))))) (pss_one (ps_ret pe_bl)) pss_nil)
      (pss_cons (ps_set (i := 3) sc_l_is_cover.nd rfl (Or.inl rfl) (pe_lst pa_nil))
      (pss_cons (ps_set (i := 4) sc_l_is_cover.nd rfl (Or.inl rfl) (pe_un un_neg pe_int))
      (pss_cons (ps_for PassesOwn.never rfl (pi_tup (pe_ix ix_seq (pv 2) pe_int (fun _ _ => rfl))) (pg_name (i := 5) sc_l_is_cover.nd rfl (Or.inl rfl)) (pss_cons (ps_if (PW.pt (pw_or (pt_not (pt_val (pe_call (ok_l_rising T) (hr.mono (by decide)) (by rfl) T.g_l_rising T.F_l_rising.kp (b_l_rising T) .nil pass0 (pa_cons (pv 5) pa_nil)))) (pw_or (pt_cmpR op_eq (pe_callB call_len (by rfl) T.z_len PySem.boot_len (pa_cons (pv 5) pa_nil)) pe_int (nomark _)) (pw_or1 (pt_cmpR op_le (pe_ix ix_seq (pv 5) pe_int (fun _ _ => rfl)) (pv 4) (nomark _)))))) (pss_one (ps_ret pe_bl)) pss_nil)
      (pss_cons (ps_set (i := 4) sc_l_is_cover.nd rfl (Or.inl rfl) (pe_ix ix_seq (pv 5) pe_int (fun _ _ => rfl)))
      (pss_one (ps_for PassesOwn.never rfl (pi_range1 (by rfl) T.z_range (pa_cons (pe_callB call_len (by rfl) T.z_len PySem.boot_len (pa_cons (pv 5) pa_nil)) pa_nil)) (pg_name (i := 6) sc_l_is_cover.nd rfl (Or.inl rfl)) (pss_cons (ps_if (PW.pt (pw_or (pt_cmp (pc_dnotin (hu_of hr) (pe_ix ix_seq (pv 5) (pv 6) (fun _ _ => rfl)) (pv 1))) (pw_or1 (pt_cmpR op_in_seq (pe_ix ix_seq (pv 5) (pv 6) (fun _ _ => rfl)) (pv 3) (by rfl))))) (pss_one (ps_ret pe_bl)) pss_nil)
      (pss_cons (ps_if (PW.pt (pw_and (pt_cmpR op_gt (pv 6) pe_int (nomark _)) (pw_and1 (pt_cmpR op_notIn_seq (pe_ix ix_seq (pv 5) (pe_op op_sub (pv 6) pe_int) (fun _ _ => rfl)) (pe_dget (hu_of hr) (pv 1) (pe_ix ix_seq (pv 5) (pv 6) (fun _ _ => rfl)) (fun _ _ => rfl)) (by rfl))))) (pss_one (ps_ret pe_bl)) pss_nil)
      (pss_one (ps_expr (pe_bm PySem.F.plainAttrs_list PySem.F.slot_list_append PySem.F.type_list_append mt_append (pv 3) (pa_cons (pe_ix ix_seq (pv 5) (pv 6) (fun _ _ => rfl)) pa_nil)))))))))))
      (pss_cons (ps_for PassesOwn.never rfl (pi_tup (pe_ix ix_seq (pv 2) pe_int (fun _ _ => rfl))) (pg_name (i := 7) sc_l_is_cover.nd rfl (Or.inl rfl)) (pss_one (ps_if (pt_cmp (pc_dnotin (hu_of hr) (pv 7) (pv 1))) (pss_one (ps_ret pe_bl)) pss_nil)))
      (pss_cons (ps_for PassesOwn.never rfl (pi_tup (pe_ix ix_seq (pv 2) pe_int (fun _ _ => rfl))) (pg_name (i := 7) sc_l_is_cover.nd rfl (Or.inl rfl)) (pss_one (ps_for PassesOwn.never rfl (pi_tup (pe_ix ix_seq (pv 2) pe_int (fun _ _ => rfl))) (pg_name (i := 8) sc_l_is_cover.nd rfl (Or.inl rfl)) (pss_one (ps_if (PW.pt (pw_and (pt_cmpR op_ne (pv 7) (pv 8) (nomark _)) (pw_and1 (pt_cmpR op_in_seq (pv 8) (pe_dget (hu_of hr) (pv 1) (pv 7) (fun _ _ => rfl)) (by rfl))))) (pss_one (ps_ret pe_bl)) pss_nil)))))
      (pss_one (ps_ret (pe_cmpR op_eq (pe_callB call_len (by rfl) T.z_len PySem.boot_len (pa_cons (pv 3) pa_nil)) (pe_callB call_len (by rfl) T.z_len PySem.boot_len (pa_cons (pe_ix ix_seq (pv 0) pe_int (fun _ _ => rfl)) pa_nil)) (nomark _)))))))))))
theorem b_l_ladder (T : Tx K mg) : Binds K T.fd_l_ladder ["_law_deck_here", "_law_most"] [] := T.F_l_ladder.bindsN fun _ _ _ _ _ _ us hl => match us, hl with | [_, _], _ => rfl
theorem ok_l_ladder (T : Tx K mg) : FnOk P w K mg base CX0 3 (He.fAd K ("_law_ladder", none)) T.fd_l_ladder ["_law_deck_here", "_law_most"] (sp_l_ladderW K) := by
  refine T.F_l_ladder.ok sc_l_ladder (fun vs H Q E h => len_l_ladderW h) (fun cdv A outer s H vs Q E hr h => ⟨t_l_ladder K, PSs.nox ?_, pure_l_ladderW h⟩)
  exact (pss_cons (ps_set (i := 2) sc_l_ladder.nd rfl (Or.inr rfl) (pe_call (ok_l_draw T) (hr.mono (by decide)) (by rfl) T.g_l_draw T.F_l_draw.kp (b_l_draw T) .nil pass0 (pa_cons (pv 0) (pa_cons (pe_op op_pow pe_int pe_int) pa_nil))))
      (pss_cons (ps_set (i := 3) sc_l_ladder.nd rfl (Or.inr rfl) (pe_op op_add pe_int (pe_call (ok_l_draw T) (hr.mono (by decide)) (by rfl) T.g_l_draw T.F_l_draw.kp (b_l_draw T) .nil pass0 (pa_cons (pv 0) (pa_cons pe_int pa_nil)))))
      (pss_cons (ps_set (i := 4) sc_l_ladder.nd rfl (Or.inl rfl) (pe_call (ok_l_draw T) (hr.mono (by decide)) (by rfl) T.g_l_draw T.F_l_draw.kp (b_l_draw T) .nil pass0 (pa_cons (pv 0) (pa_cons pe_int pa_nil))))
      (pss_cons (ps_set (i := 5) sc_l_ladder.nd rfl (Or.inl rfl) (pe_op op_add (pe_op op_fdivW (pv 1) pe_int) (pe_call (ok_l_draw T) (hr.mono (by decide)) (by rfl) T.g_l_draw T.F_l_draw.kp (b_l_draw T) .nil pass0 (pa_cons (pv 0) (pa_cons (pe_op op_add (pe_op op_fdivW (pv 1) pe_int) pe_int) pa_nil)))))
      (pss_cons (ps_set (i := 6) sc_l_ladder.nd rfl (Or.inl rfl) (pe_lst pa_nil))
      (pss_cons (ps_for PassesOwn.never rfl (pi_range1 (by rfl) T.z_range (pa_cons (pv 5) pa_nil)) (pg_name (i := 7) sc_l_ladder.nd rfl (Or.inl rfl)) (pss_cons (ps_for PassesOwn.never rfl (pi_list (pe_lst (pa_cons (pe_op op_add (pe_op op_sub (pv 7) pe_int) (pe_op op_mod (pe_op op_add (pv 7) pe_int) pe_int)) (pa_cons (pe_op op_add (pe_op op_sub (pv 7) pe_int) (pe_op op_mod (pe_op op_add (pv 7) pe_int) pe_int)) pa_nil)))) (pg_name (i := 8) sc_l_ladder.nd rfl (Or.inl rfl)) (pss_one (ps_if (PW.pt (pw_and (pt_cmpR op_eq (pv 4) pe_int (nomark _)) (pw_and1 (pt_cmpR op_ge (pv 8) pe_int (nomark _))))) (pss_one (ps_expr (pe_bm PySem.F.plainAttrs_list PySem.F.slot_list_append PySem.F.type_list_append mt_append (pv 6) (pa_cons (pe_tup (pa_cons (pe_op op_add (pv 2) (pe_op op_mul (pv 3) (pv 7))) (pa_cons (pe_op op_add (pv 2) (pe_op op_mul (pv 3) (pv 8))) pa_nil))) pa_nil)))) pss_nil)))
      (pss_one (ps_for PassesOwn.never rfl (pi_list (pe_lst (pa_cons (pe_op op_sub (pv 7) pe_int) (pa_cons (pe_op op_sub (pv 7) pe_int) pa_nil)))) (pg_name (i := 8) sc_l_ladder.nd rfl (Or.inl rfl)) (pss_one (ps_if (PW.pt (pw_and (pt_cmpR op_eq (pv 4) pe_int (nomark _)) (pw_and1 (pt_cmpR op_ge (pv 8) pe_int (nomark _))))) (pss_one (ps_expr (pe_bm PySem.F.plainAttrs_list PySem.F.slot_list_append PySem.F.type_list_append mt_append (pv 6) (pa_cons (pe_tup (pa_cons (pe_op op_add (pv 2) (pe_op op_mul (pv 3) (pv 7))) (pa_cons (pe_op op_add (pv 2) (pe_op op_mul (pv 3) (pv 8))) pa_nil))) pa_nil)))) pss_nil))))))
      (pss_one (ps_ret (pe_tup (pa_cons (pe_callTy call_tuple_of (by rfl) T.z_tuple (by decide +kernel) (pa_cons (pe_lc (own := [("_law_k", 7)]) (g := (gName 7)) (tt := tYes) (te := (tOp rAddI (tVar 2) (tOp rMulI (tVar 3) (tVar 7)))) rfl sc_l_ladder.nd (pi_range1 (by rfl) T.z_range (pa_cons (pv 5) pa_nil)) (blkOk_by (own := [("_law_k", 7)]) (N := N_l_ladder) (sc := defScope s_l_ladder) (by decide +kernel)) (fun _ _ _ _ _ => (pg_name (i := 7) sc_l_ladder.nd rfl (Or.inl rfl))) (fun _ _ _ _ _ => pts_nil) (fun _ _ _ _ _ => (pe_op op_add (pv 2) (pe_op op_mul (pv 3) (pv 7))))) pa_nil)) (pa_cons (pe_callTy call_tuple_of (by rfl) T.z_tuple (by decide +kernel) (pa_cons (pv 6) pa_nil)) pa_nil)))))))))))
theorem b_l_sladW (T : Tx K mg) : Binds K T.fd_l_sladW ["_law_deck_here", "_law_most", "_law_high"] [] := T.F_l_sladW.bindsN fun _ _ _ _ _ _ us hl => match us, hl with | [_, _, _], _ => rfl
theorem ok_l_sladW (T : Tx K mg) : FnOk P w K mg base CX0 4 (He.fAd K ("_law_shape_or_ladder", none)) T.fd_l_sladW ["_law_deck_here", "_law_most", "_law_high"] (sp_l_sladW K) := by
  refine T.F_l_sladW.ok sc_l_sladW (fun vs H Q E h => len_l_sladW h) (fun cdv A outer s H vs Q E hr h => ⟨t_l_sladW K, PSs.nox ?_, pure_l_sladW h⟩)
  exact (pss_cons (ps_if (pt_cmpR op_eq (pe_call (ok_l_draw T) (hr.mono (by decide)) (by rfl) T.g_l_draw T.F_l_draw.kp (b_l_draw T) .nil pass0 (pa_cons (pv 0) (pa_cons pe_int pa_nil))) pe_int (nomark _)) (pss_one (ps_ret (pe_call (ok_l_ladder T) (hr.mono (by decide)) (by rfl) T.g_l_ladder T.F_l_ladder.kp (b_l_ladder T) .nil pass0 (pa_cons (pv 0) (pa_cons (pv 2) pa_nil))))) pss_nil)
      (pss_one (ps_ret (pe_call (ok_l_shape T) (hr.mono (by decide)) (by rfl) T.g_l_shape T.F_l_shape.kp (b_l_shape T) .nil pass0 (pa_cons (pv 0) (pa_cons (pv 1) pa_nil))))))
theorem b_l_pair_up (T : Tx K mg) : Binds K T.fd_l_pair_up ["_law_deck_here", "_law_rows", "_law_ups", "_law_downs", "_law_one"] [] := T.F_l_pair_up.bindsN fun _ _ _ _ _ _ us hl => match us, hl with | [_, _, _, _, _], _ => rfl
theorem ok_l_pair_up (T : Tx K mg) : FnOk P w K mg base CX0 3 (He.fAd K ("_law_pair_up", none)) T.fd_l_pair_up ["_law_deck_here", "_law_rows", "_law_ups", "_law_downs", "_law_one"] (sp_l_pair_up K) := by
  refine T.F_l_pair_up.ok sc_l_pair_up (fun vs H Q E h => len_l_pair_up h) (fun cdv A outer s H vs Q E hr h => ⟨t_l_pair_up K, PSs.nox ?_, pure_l_pair_up h⟩)
  exact (pss_cons (ps_set (i := 5) sc_l_pair_up.nd rfl (Or.inl rfl) pe_dnewK)
      (pss_cons (ps_set (i := 6) sc_l_pair_up.nd rfl (Or.inl rfl) (pe_lst (pa_cons (pv 4) pa_nil)))
      (pss_cons (ps_set (i := 7) sc_l_pair_up.nd rfl (Or.inl rfl) pe_non)
      (pss_cons (ps_while PassesOwn.never (PW.pt (pw_and (pt_cmpR op_gt (pe_callB call_len (by rfl) T.z_len PySem.boot_len (pa_cons (pv 6) pa_nil)) pe_int (nomark _)) (pw_and1 (pt_cmpR op_isN (pv 7) pe_non (nomark _))))) (pss_cons (ps_set (i := 8) sc_l_pair_up.nd rfl (Or.inl rfl) (pe_bm0 PySem.F.plainAttrs_list PySem.F.slot_list_pop PySem.F.type_list_pop mt_pop (pv 6)))
      (pss_cons (ps_set (i := 9) sc_l_pair_up.nd rfl (Or.inl rfl) (pe_slice sl_list (pe_dget (hu_of hr) (pv 1) (pv 8) (fun _ _ => rfl)) po_none (po_some (pe_un un_neg pe_int))))
      (pss_cons (ps_if (pt_cmpR op_eq (pe_call (ok_l_draw T) (hr.mono (by decide)) (by rfl) T.g_l_draw T.F_l_draw.kp (b_l_draw T) .nil pass0 (pa_cons (pv 0) (pa_cons pe_int pa_nil))) pe_int (nomark _)) (pss_one (ps_set (i := 9) sc_l_pair_up.nd rfl (Or.inl rfl) (pe_revL (pv 9)))) pss_nil)
      (pss_one (ps_for PassesOwn.never rfl (pi_list (pv 9)) (pg_name (i := 10) sc_l_pair_up.nd rfl (Or.inl rfl)) (pss_one (ps_if (PW.pt (pw_and (pt_cmp (pc_dnotin (hu_of hr) (pv 10) (pv 5))) (pw_and1 (pt_cmpR op_isN (pv 7) pe_non (nomark _))))) (pss_cons (ps_dput (hu_of hr) (pv 5) (pv 10) (pv 8) rfl)
      (pss_one (ps_if (pt_cmp (pc_din (hu_of hr) (pv 10) (pv 2))) (pss_one (ps_expr (pe_bm PySem.F.plainAttrs_list PySem.F.slot_list_append PySem.F.type_list_append mt_append (pv 6) (pa_cons (pe_dget (hu_of hr) (pv 2) (pv 10) (fun _ _ => rfl)) pa_nil)))) (pss_one (ps_set (i := 7) sc_l_pair_up.nd rfl (Or.inl rfl) (pv 10)))))) pss_nil))))))))
      (pss_one (ps_while PassesOwn.never (pt_cmpR op_notN (pv 7) pe_non (nomark _)) (pss_cons (ps_set (i := 8) sc_l_pair_up.nd rfl (Or.inl rfl) (pe_dget (hu_of hr) (pv 5) (pv 7) (fun _ _ => rfl)))
      (pss_cons (ps_set (i := 11) sc_l_pair_up.nd rfl (Or.inl rfl) (pe_dget1 (hu_of hr) (pv 3) (pv 8) ⟨rfl, rfl, rfl, rfl⟩))
      (pss_cons (ps_dput (hu_of hr) (pv 2) (pv 7) (pv 8) rfl)
      (pss_cons (ps_dput (hu_of hr) (pv 3) (pv 8) (pv 7) rfl)
      (pss_one (ps_set (i := 7) sc_l_pair_up.nd rfl (Or.inl rfl) (pv 11)))))))))))))
theorem b_l_high_apart (T : Tx K mg) : Binds K T.fd_l_high_apart ["_law_rows", "_law_ups", "_law_downs"] [] := T.F_l_high_apart.bindsN fun _ _ _ _ _ _ us hl => match us, hl with | [_, _, _], _ => rfl
theorem ok_l_high_apart (T : Tx K mg) : FnOk P w K mg base CX0 1 (He.fAd K ("_law_high_apart", none)) T.fd_l_high_apart ["_law_rows", "_law_ups", "_law_downs"] (sp_l_high_apart K) := by
  refine T.F_l_high_apart.ok sc_l_high_apart (fun vs H Q E h => len_l_high_apart h) (fun cdv A outer s H vs Q E hr h => ⟨t_l_high_apart K, PSs.nox ?_, pure_l_high_apart h⟩)
  exact (pss_cons (ps_lock (ps_setLc (i := 3) (own := [("_law_one", 4)]) (g := (gName 4)) (tt := (tB (tDNotIn (tVar 4) (tVar 2)))) (te := (tVar 4)) rfl sc_l_high_apart.nd rfl rfl (sw_true rfl rfl rfl (by decide +kernel)) (pi_keys (pv 0)) (blkOk_by (own := [("_law_one", 4)]) (N := N_l_high_apart) (sc := defScope s_l_high_apart) (by decide +kernel)) (fun _ _ _ _ _ => (pg_name (i := 4) sc_l_high_apart.nd rfl (Or.inl rfl))) (fun _ _ _ _ _ => (pts_one (pt_cmp (pc_dnotin (hu_of hr) (pv 4) (pv 2))))) (fun _ _ _ _ _ => (pv 4))))
      (pss_cons (ps_set (i := 5) sc_l_high_apart.nd rfl (Or.inr rfl) (pe_callTy call_list_of (by rfl) T.z_list (by decide +kernel) (pa_cons (pv 3) pa_nil)))
      (pss_cons (ps_set (i := 6) sc_l_high_apart.nd rfl (Or.inr rfl) (pe_lst pa_nil))
      (pss_cons (ps_while PassesOwn.never (pt_cmpR op_gt (pe_callB call_len (by rfl) T.z_len PySem.boot_len (pa_cons (pv 3) pa_nil)) pe_int (nomark _)) (pss_one (ps_for PassesOwn.never rfl (pi_list (pe_slice sl_list (pe_dget (hu_of hr) (pv 0) (pe_bm0 PySem.F.plainAttrs_list PySem.F.slot_list_pop PySem.F.type_list_pop mt_pop (pv 3)) (fun _ _ => rfl)) po_none (po_some (pe_un un_neg pe_int)))) (pg_name (i := 7) sc_l_high_apart.nd rfl (Or.inl rfl)) (pss_one (ps_if (pt_cmpR op_notIn_seq (pv 7) (pv 6) (by rfl)) (pss_cons (ps_expr (pe_bm PySem.F.plainAttrs_list PySem.F.slot_list_append PySem.F.type_list_append mt_append (pv 6) (pa_cons (pv 7) pa_nil)))
      (pss_one (ps_if (pt_cmpR op_notIn_seq (pe_dget (hu_of hr) (pv 1) (pv 7) (fun _ _ => rfl)) (pv 5) (by rfl)) (pss_cons (ps_expr (pe_bm PySem.F.plainAttrs_list PySem.F.slot_list_append PySem.F.type_list_append mt_append (pv 5) (pa_cons (pe_dget (hu_of hr) (pv 1) (pv 7) (fun _ _ => rfl)) pa_nil)))
      (pss_one (ps_expr (pe_bm PySem.F.plainAttrs_list PySem.F.slot_list_append PySem.F.type_list_append mt_append (pv 3) (pa_cons (pe_dget (hu_of hr) (pv 1) (pv 7) (fun _ _ => rfl)) pa_nil))))) pss_nil))) pss_nil)))))
      (pss_one (ps_ret (pe_callTy call_tuple_of (by rfl) T.z_tuple (by decide +kernel) (pa_cons (pe_lock (pe_lc (own := [("_law_one", 4)]) (g := (gName 4)) (tt := (tAnd (tTest (tOp (rIn K false) (tVar 4) (tVar 5))) (tTest (tOp (rIn K true) (tVar 4) (tVar 6))))) (te := (tVar 4)) rfl sc_l_high_apart.nd (pi_keys (pv 0)) (blkOk_by (own := [("_law_one", 4)]) (N := N_l_high_apart) (sc := defScope s_l_high_apart) (by decide +kernel)) (fun _ _ _ _ _ => (pg_name (i := 4) sc_l_high_apart.nd rfl (Or.inl rfl))) (fun _ _ _ _ _ => (pts_one (PW.pt (pw_and (pt_cmpR op_in_seq (pv 4) (pv 5) (by rfl)) (pw_and1 (pt_cmpR op_notIn_seq (pv 4) (pv 6) (by rfl))))))) (fun _ _ _ _ _ => (pv 4)))) pa_nil))))))))
theorem b_l_low_apart (T : Tx K mg) : Binds K T.fd_l_low_apart ["_law_rows", "_law_ups", "_law_downs"] [] := T.F_l_low_apart.bindsN fun _ _ _ _ _ _ us hl => match us, hl with | [_, _, _], _ => rfl
theorem ok_l_low_apart (T : Tx K mg) : FnOk P w K mg base CX0 1 (He.fAd K ("_law_low_apart", none)) T.fd_l_low_apart ["_law_rows", "_law_ups", "_law_downs"] (sp_l_low_apart K) := by
  refine T.F_l_low_apart.ok sc_l_low_apart (fun vs H Q E h => len_l_low_apart h) (fun cdv A outer s H vs Q E hr h => ⟨t_l_low_apart K, PSs.nox ?_, pure_l_low_apart h⟩)
  exact (pss_cons (ps_lock (ps_setLc (i := 3) (own := [("_law_one", 4)]) (g := (gName 4)) (tt := (tB (tDNotIn (tVar 4) (tVar 1)))) (te := (tVar 4)) rfl sc_l_low_apart.nd rfl rfl (sw_true rfl rfl rfl (by decide +kernel)) (pi_keys (pv 0)) (blkOk_by (own := [("_law_one", 4)]) (N := N_l_low_apart) (sc := defScope s_l_low_apart) (by decide +kernel)) (fun _ _ _ _ _ => (pg_name (i := 4) sc_l_low_apart.nd rfl (Or.inl rfl))) (fun _ _ _ _ _ => (pts_one (pt_cmp (pc_dnotin (hu_of hr) (pv 4) (pv 1))))) (fun _ _ _ _ _ => (pv 4))))
      (pss_cons (ps_set (i := 5) sc_l_low_apart.nd rfl (Or.inr rfl) (pe_callTy call_list_of (by rfl) T.z_list (by decide +kernel) (pa_cons (pv 3) pa_nil)))
      (pss_cons (ps_set (i := 6) sc_l_low_apart.nd rfl (Or.inr rfl) (pe_lst pa_nil))
      (pss_cons (ps_while PassesOwn.never (pt_cmpR op_gt (pe_callB call_len (by rfl) T.z_len PySem.boot_len (pa_cons (pv 3) pa_nil)) pe_int (nomark _)) (pss_cons (ps_set (i := 7) sc_l_low_apart.nd rfl (Or.inl rfl) (pe_bm0 PySem.F.plainAttrs_list PySem.F.slot_list_pop PySem.F.type_list_pop mt_pop (pv 3)))
      (pss_one (ps_lock (ps_for PassesOwn.never rfl (pi_keys (pv 0)) (pg_name (i := 8) sc_l_low_apart.nd rfl (Or.inl rfl)) (pss_one (ps_if (PW.pt (pw_and (pt_cmpR op_ne (pv 8) (pv 7) (nomark _)) (pw_and (pt_cmpR op_in_seq (pv 7) (pe_dget (hu_of hr) (pv 0) (pv 8) (fun _ _ => rfl)) (by rfl)) (pw_and1 (pt_cmpR op_notIn_seq (pv 8) (pv 6) (by rfl)))))) (pss_cons (ps_expr (pe_bm PySem.F.plainAttrs_list PySem.F.slot_list_append PySem.F.type_list_append mt_append (pv 6) (pa_cons (pv 8) pa_nil)))
      (pss_one (ps_if (pt_cmpR op_notIn_seq (pe_dget (hu_of hr) (pv 2) (pv 8) (fun _ _ => rfl)) (pv 5) (by rfl)) (pss_cons (ps_expr (pe_bm PySem.F.plainAttrs_list PySem.F.slot_list_append PySem.F.type_list_append mt_append (pv 5) (pa_cons (pe_dget (hu_of hr) (pv 2) (pv 8) (fun _ _ => rfl)) pa_nil)))
      (pss_one (ps_expr (pe_bm PySem.F.plainAttrs_list PySem.F.slot_list_append PySem.F.type_list_append mt_append (pv 3) (pa_cons (pe_dget (hu_of hr) (pv 2) (pv 8) (fun _ _ => rfl)) pa_nil))))) pss_nil))) pss_nil)))))))
      (pss_one (ps_ret (pe_callTy call_tuple_of (by rfl) T.z_tuple (by decide +kernel) (pa_cons (pe_lock (pe_lc (own := [("_law_one", 4)]) (g := (gName 4)) (tt := (tAnd (tTest (tOp (rIn K false) (tVar 4) (tVar 5))) (tTest (tOp (rIn K true) (tVar 4) (tVar 6))))) (te := (tVar 4)) rfl sc_l_low_apart.nd (pi_keys (pv 0)) (blkOk_by (own := [("_law_one", 4)]) (N := N_l_low_apart) (sc := defScope s_l_low_apart) (by decide +kernel)) (fun _ _ _ _ _ => (pg_name (i := 4) sc_l_low_apart.nd rfl (Or.inl rfl))) (fun _ _ _ _ _ => (pts_one (PW.pt (pw_and (pt_cmpR op_in_seq (pv 4) (pv 5) (by rfl)) (pw_and1 (pt_cmpR op_notIn_seq (pv 4) (pv 6) (by rfl))))))) (fun _ _ _ _ _ => (pv 4)))) pa_nil))))))))
theorem b_l_own_cover (T : Tx K mg) : Binds K T.fd_l_own_cover ["_law_deck_here", "_law_rows"] [] := T.F_l_own_cover.bindsN fun _ _ _ _ _ _ us hl => match us, hl with | [_, _], _ => rfl
theorem ok_l_own_cover (T : Tx K mg) : FnOk P w K mg base CX0 4 (He.fAd K ("_law_own_cover", none)) T.fd_l_own_cover ["_law_deck_here", "_law_rows"] (sp_l_own_cover K) := by
  refine T.F_l_own_cover.ok sc_l_own_cover (fun vs H Q E h => len_l_own_cover h) (fun cdv A outer s H vs Q E hr h => ⟨t_l_own_cover K, PSs.nox ?_, pure_l_own_cover h⟩)
  exact (pss_cons (ps_set (i := 2) sc_l_own_cover.nd rfl (Or.inl rfl) pe_dnewK)
      (pss_cons (ps_set (i := 3) sc_l_own_cover.nd rfl (Or.inl rfl) pe_dnewK)
      (pss_cons (ps_set (i := 4) sc_l_own_cover.nd rfl (Or.inl rfl) (pe_callTy (call_list_dK rfl) (by rfl) T.z_list (by decide +kernel) (pa_cons (pv 1) pa_nil)))
      (pss_cons (ps_while PassesOwn.never (pt_cmpR op_gt (pe_callB call_len (by rfl) T.z_len PySem.boot_len (pa_cons (pv 4) pa_nil)) pe_int (nomark _)) (pss_one (ps_expr (pe_call (ok_l_pair_up T) (hr.mono (by decide)) (by rfl) T.g_l_pair_up T.F_l_pair_up.kp (b_l_pair_up T) .nil pass0 (pa_cons (pv 0) (pa_cons (pv 1) (pa_cons (pv 2) (pa_cons (pv 3) (pa_cons (pe_bm PySem.F.plainAttrs_list PySem.F.slot_list_pop PySem.F.type_list_pop mt_popAt (pv 4) (pa_cons (pe_call (ok_l_draw T) (hr.mono (by decide)) (by rfl) T.g_l_draw T.F_l_draw.kp (b_l_draw T) .nil pass0 (pa_cons (pv 0) (pa_cons (pe_callB call_len (by rfl) T.z_len PySem.boot_len (pa_cons (pv 4) pa_nil)) pa_nil))) pa_nil)) pa_nil)))))))))
      (pss_cons (ps_set (i := 5) sc_l_own_cover.nd rfl (Or.inl rfl) (pe_lst pa_nil))
      (pss_cons (ps_lock (ps_for PassesOwn.never rfl (pi_keys (pv 1)) (pg_name (i := 6) sc_l_own_cover.nd rfl (Or.inl rfl)) (pss_one (ps_if (pt_cmp (pc_dnotin (hu_of hr) (pv 6) (pv 3))) (pss_cons (ps_set (i := 7) sc_l_own_cover.nd rfl (Or.inl rfl) (pe_lst (pa_cons (pv 6) pa_nil)))
      (pss_cons (ps_while PassesOwn.never (pt_cmp (pc_din (hu_of hr) (pe_ix ix_seq (pv 7) (pe_un un_neg pe_int) (fun _ _ => rfl)) (pv 2))) (pss_one (ps_expr (pe_bm PySem.F.plainAttrs_list PySem.F.slot_list_append PySem.F.type_list_append mt_append (pv 7) (pa_cons (pe_dget (hu_of hr) (pv 2) (pe_ix ix_seq (pv 7) (pe_un un_neg pe_int) (fun _ _ => rfl)) (fun _ _ => rfl)) pa_nil)))))
      (pss_one (ps_expr (pe_bm PySem.F.plainAttrs_list PySem.F.slot_list_append PySem.F.type_list_append mt_append (pv 5) (pa_cons (pe_callTy call_tuple_of (by rfl) T.z_tuple (by decide +kernel) (pa_cons (pv 7) pa_nil)) pa_nil)))))) pss_nil))))
      (pss_cons (ps_if (pt_cmpR op_eq (pe_call (ok_l_draw T) (hr.mono (by decide)) (by rfl) T.g_l_draw T.F_l_draw.kp (b_l_draw T) .nil pass0 (pa_cons (pv 0) (pa_cons pe_int pa_nil))) pe_int (nomark _)) (pss_one (ps_ret (pe_tup (pa_cons (pe_callTy call_tuple_of (by rfl) T.z_tuple (by decide +kernel) (pa_cons (pv 5) pa_nil)) (pa_cons (pe_call (ok_l_high_apart T) (hr.mono (by decide)) (by rfl) T.g_l_high_apart T.F_l_high_apart.kp (b_l_high_apart T) .nil pass0 (pa_cons (pv 1) (pa_cons (pv 2) (pa_cons (pv 3) pa_nil)))) pa_nil))))) pss_nil)
      (pss_one (ps_ret (pe_tup (pa_cons (pe_callTy call_tuple_of (by rfl) T.z_tuple (by decide +kernel) (pa_cons (pv 5) pa_nil)) (pa_cons (pe_call (ok_l_low_apart T) (hr.mono (by decide)) (by rfl) T.g_l_low_apart T.F_l_low_apart.kp (b_l_low_apart T) .nil pass0 (pa_cons (pv 1) (pa_cons (pv 2) (pa_cons (pv 3) pa_nil)))) pa_nil))))))))))))
theorem b_law (T : Tx K mg) : Binds K T.fd_law ["_law_script"] [] := T.F_law.bindsN fun _ _ _ _ _ _ us hl => match us, hl with | [_], _ => rfl
theorem ok_law (T : Tx K mg) : FnOk P w K mg base CX0 9 (He.fAd K ("law", none)) T.fd_law ["_law_script"] (sp_law K) := by
  refine T.F_law.ok sc_law (fun vs H Q E h => len_law h) (fun cdv A outer s H vs Q E hr h => ⟨t_law K, PSs.nox ?_, pure_law T.kk h⟩)
  exact (pss_cons (ps_set (i := 1) sc_law.nd rfl (Or.inl rfl) (pe_call (ok_l_deck T) (hr.mono (by decide)) (by rfl) T.g_l_deck T.F_l_deck.kp (b_l_deck T) .nil pass0 (pa_cons (pv 0) pa_nil)))
      (pss_cons (ps_set (i := 2) sc_law.nd rfl (Or.inl rfl) (pe_call (ok_l_sladW T) (hr.mono (by decide)) (by rfl) T.g_l_sladW T.F_l_sladW.kp (b_l_sladW T) .nil pass0 (pa_cons (pv 1) (pa_cons pe_int (pa_cons pe_int pa_nil)))))
      (pss_cons (ps_set (i := 3) sc_law.nd rfl (Or.inl rfl) (pe_call (ok_l_spans T) (hr.mono (by decide)) (by rfl) T.g_l_spans T.F_l_spans.kp (b_l_spans T) .nil pass0 (pa_cons (pv 2) pa_nil)))
      (pss_cons (ps_set (i := 4) sc_law.nd rfl (Or.inr rfl) (pe_call (ok_l_lower T) (hr.mono (by decide)) (by rfl) T.g_l_lower T.F_l_lower.kp (b_l_lower T) .nil pass0 (pa_cons (pv 1) (pa_cons (pv 3) pa_nil))))
      (pss_cons (ps_set (i := 5) sc_law.nd rfl (Or.inl rfl) (pe_call (ok_cover T) (hr.mono (by decide)) (by rfl) T.g_cover T.F_cover.kp (b_cover T) .nil pass0 (pa_cons (pv 2) pa_nil)))
      (pss_cons (ps_if (pt_cmpR op_eq (pe_call (ok_l_draw T) (hr.mono (by decide)) (by rfl) T.g_l_draw T.F_l_draw.kp (b_l_draw T) .nil pass0 (pa_cons (pv 1) (pa_cons pe_int pa_nil))) pe_int (nomark _)) (pss_one (ps_set (i := 5) sc_law.nd rfl (Or.inl rfl) (pe_call (ok_l_own_cover T) (hr.mono (by decide)) (by rfl) T.g_l_own_cover T.F_l_own_cover.kp (b_l_own_cover T) .nil pass0 (pa_cons (pv 1) (pa_cons (pv 3) pa_nil))))) pss_nil)
      (pss_cons (ps_if (pt_not (pt_val (pe_call (ok_l_is_cover T) (hr.mono (by decide)) (by rfl) T.g_l_is_cover T.F_l_is_cover.kp (b_l_is_cover T) .nil pass0 (pa_cons (pv 2) (pa_cons (pv 3) (pa_cons (pv 5) pa_nil)))))) (pss_one (ps_ret pe_bl)) pss_nil)
      (pss_cons (ps_set (i := 6) sc_law.nd rfl (Or.inl rfl) pe_int)
      (pss_cons (ps_for PassesOwn.never rfl (pi_tup (pe_ix ix_seq (pv 5) pe_int (fun _ _ => rfl))) (pg_name (i := 7) sc_law.nd rfl (Or.inl rfl)) (pss_cons (ps_set (i := 8) sc_law.nd rfl (Or.inl rfl) (pe_callB call_len (by rfl) T.z_len PySem.boot_len (pa_cons (pv 7) pa_nil)))
      (pss_one (ps_while PassesOwn.never (pt_cmpR op_gt (pv 8) pe_int (nomark _)) (pss_cons (ps_set (i := 6) sc_law.nd rfl (Or.inl rfl) (pe_op op_add (pv 6) pe_int))
      (pss_one (ps_set (i := 8) sc_law.nd rfl (Or.inl rfl) (pe_op op_fdivW (pv 8) pe_int))))))))
      (pss_cons (ps_set (i := 9) sc_law.nd rfl (Or.inl rfl) (pe_tup pa_nil))
      (pss_cons (ps_for PassesOwn.never rfl (pi_range1 (by rfl) T.z_range (pa_cons pe_int pa_nil)) (pg_name (i := 10) sc_law.nd rfl (Or.inl rfl)) (pss_cons (ps_set (i := 11) sc_law.nd rfl (Or.inl rfl) (pe_op op_add pe_int (pe_call (ok_l_draw T) (hr.mono (by decide)) (by rfl) T.g_l_draw T.F_l_draw.kp (b_l_draw T) .nil pass0 (pa_cons (pv 1) (pa_cons pe_int pa_nil)))))
      (pss_cons (ps_set (i := 12) sc_law.nd rfl (Or.inl rfl) (pe_ix ix_seq (pe_call (ok_l_settled T) (hr.mono (by decide)) (by rfl) T.g_l_settled T.F_l_settled.kp (b_l_settled T) .nil pass0 (pa_cons (pv 3) (pa_cons (pv 9) pa_nil))) pe_int (fun _ _ => rfl)))
      (pss_cons (ps_if (pt_cmpR op_eq (pe_call (ok_l_draw T) (hr.mono (by decide)) (by rfl) T.g_l_draw T.F_l_draw.kp (b_l_draw T) .nil pass0 (pa_cons (pv 1) (pa_cons pe_int pa_nil))) pe_int (nomark _)) (pss_cons (ps_set (i := 11) sc_law.nd rfl (Or.inl rfl) (pe_glob (v := .int 4) (by rfl) T.c_FEW.choose_spec ⟨_, rfl⟩))
      (pss_one (ps_set (i := 14) sc_law.nd rfl (Or.inl rfl) (pe_call (ok_next_asks T) (hr.mono (by decide)) (by rfl) T.g_next_asks T.F_next_asks.kp (b_next_asks T).choose_spec.2 (b_next_asks T).choose_spec.1 pass0 (pa_cons (pv 2) (pa_cons (pv 5) (pa_cons (pv 9) pa_nil))))))) (pss_one (ps_set (i := 14) sc_law.nd rfl (Or.inl rfl) (pe_callN (n := 3) (ks := ["few"]) (ok_next_asks T) (hr.mono (by decide)) (by rfl) T.g_next_asks T.F_next_asks.kp (kb_next_asks_few T).choose_spec pass0 (pa_cons (pv 2) (pa_cons (pv 5) (pa_cons (pv 9) pa_nil))) (pk_cons (pv 11) pk_nil)))))
      (pss_cons (ps_if (pt_not (pt_val (pe_call (ok_l_same T) (hr.mono (by decide)) (by rfl) T.g_l_same T.F_l_same.kp (b_l_same T) .nil pass0 (pa_cons (pv 14) (pa_cons (pe_call (ok_l_middlesT T) (hr.mono (by decide)) (by rfl) T.g_l_middlesT T.F_l_middlesT.kp (b_l_middlesT T) .nil pass0 (pa_cons (pe_ix ix_seq (pv 5) pe_int (fun _ _ => rfl)) (pa_cons (pv 12) (pa_cons (pv 11) pa_nil)))) pa_nil))))) (pss_one (ps_ret pe_bl)) pss_nil)
      (pss_one (ps_for PassesOwn.never rfl (pi_tup (pv 14)) (pg_name (i := 13) sc_law.nd rfl (Or.inl rfl)) (pss_cons (ps_if (pt_cmpR op_in_seq (pv 13) (pe_lc (own := [("_law_one", 16)]) (g := (gName 16)) (tt := tYes) (te := (tOp (rIx K) (tVar 16) (tC (.int 0)))) rfl sc_law.nd (pi_tup (pv 9)) (blkOk_by (own := [("_law_one", 16)]) (N := N_law) (sc := defScope s_law) (by decide +kernel)) (fun _ _ _ _ _ => (pg_name (i := 16) sc_law.nd rfl (Or.inl rfl))) (fun _ _ _ _ _ => pts_nil) (fun _ _ _ _ _ => (pe_ix ix_seq (pv 16) pe_int (fun _ _ => rfl)))) (by rfl)) (pss_one (ps_ret pe_bl)) pss_nil)
      (pss_cons (ps_set (i := 15) sc_law.nd rfl (Or.inl rfl) (pe_call (ok_l_draw T) (hr.mono (by decide)) (by rfl) T.g_l_draw T.F_l_draw.kp (b_l_draw T) .nil pass0 (pa_cons (pv 1) (pa_cons (pe_op op_add (pe_callB call_len (by rfl) T.z_len PySem.boot_len (pa_cons (pv 9) pa_nil)) pe_int) pa_nil))))
      (pss_one (ps_set (i := 9) sc_law.nd rfl (Or.inl rfl) (pe_op op_catA (pe_op op_catA (pe_slice sl_tupA (pv 9) po_none (po_some (pv 15))) (pe_tup (pa_cons (pe_tup (pa_cons (pv 13) (pa_cons (pe_cmpR op_in_seq (pv 13) (pv 4) (by rfl)) pa_nil))) pa_nil))) (pe_slice sl_tupA (pv 9) (po_some (pv 15)) po_none)))))))))))))
      (pss_cons (ps_setLc (i := 17) (own := [("_law_version", 13)]) (g := (gName 13)) (tt := (tTest (tOp (rIn K true) (tVar 13) (tVar 4)))) (te := (tVar 13)) rfl sc_law.nd rfl rfl (sw_true rfl rfl rfl (by decide +kernel)) (pi_tup (pe_ix ix_seq (pv 2) pe_int (fun _ _ => rfl))) (blkOk_by (own := [("_law_version", 13)]) (N := N_law) (sc := defScope s_law) (by decide +kernel)) (fun _ _ _ _ _ => (pg_name (i := 13) sc_law.nd rfl (Or.inl rfl))) (fun _ _ _ _ _ => (pts_one (pt_cmpR op_notIn_seq (pv 13) (pv 4) (by rfl)))) (fun _ _ _ _ _ => (pv 13)))
      (pss_cons (ps_if (pt_not (pt_val (pe_call (ok_l_same T) (hr.mono (by decide)) (by rfl) T.g_l_same T.F_l_same.kp (b_l_same T) .nil pass0 (pa_cons (pe_call (ok_settled T) (hr.mono (by decide)) (by rfl) T.g_settled T.F_settled.kp (b_settled T) .nil pass0 (pa_cons (pv 2) (pa_cons (pv 9) pa_nil))) (pa_cons (pe_tup (pa_cons (pe_callTy call_tuple_of (by rfl) T.z_tuple (by decide +kernel) (pa_cons (pv 4) pa_nil)) (pa_cons (pe_callTy call_tuple_of (by rfl) T.z_tuple (by decide +kernel) (pa_cons (pv 17) pa_nil)) (pa_cons (pe_tup pa_nil) pa_nil)))) pa_nil))))) (pss_one (ps_ret pe_bl)) pss_nil)
      (pss_one (ps_ret (pe_and (pe_cmpR op_le (pe_callB call_len (by rfl) T.z_len PySem.boot_len (pa_cons (pv 9) pa_nil)) (pv 6) (nomark _)) (pe_and (pe_call (ok_l_same T) (hr.mono (by decide)) (by rfl) T.g_l_same T.F_l_same.kp (b_l_same T) .nil pass0 (pa_cons (pe_call (ok_most_asks T) (hr.mono (by decide)) (by rfl) T.g_most_asks T.F_most_asks.kp (b_most_asks T) .nil pass0 (pa_cons (pv 5) pa_nil)) (pa_cons (pv 6) pa_nil))) (pe_one (pe_call (ok_l_same T) (hr.mono (by decide)) (by rfl) T.g_l_same T.F_l_same.kp (b_l_same T) .nil pass0 (pa_cons (pe_glob (v := .int 4) (by rfl) T.c_FEW.choose_spec ⟨_, rfl⟩) (pa_cons pe_int pa_nil)))))))))))))))))))))
end
def d_with_lower : He.DefD := ⟨("with_lower", none), "with_lower", "with_lower", defArgs s_with_lower, defBody s_with_lower, defScope s_with_lower, [], []⟩
def d_lowest_lacking : He.DefD := ⟨("lowest_lacking", none), "lowest_lacking", "lowest_lacking", defArgs s_lowest_lacking, defBody s_lowest_lacking, defScope s_lowest_lacking, [], []⟩
def d_refuse_contrary : He.DefD := ⟨("refuse_contrary", none), "refuse_contrary", "refuse_contrary", defArgs s_refuse_contrary, defBody s_refuse_contrary, defScope s_refuse_contrary, [], []⟩
def d_settled : He.DefD := ⟨("settled", none), "settled", "settled", defArgs s_settled, defBody s_settled, defScope s_settled, [], []⟩
def d_next_asks : He.DefD := ⟨("next_asks", none), "next_asks", "next_asks", defArgs s_next_asks, defBody s_next_asks, defScope s_next_asks, [], [("few", .int 4)]⟩
def d_most_asks : He.DefD := ⟨("most_asks", none), "most_asks", "most_asks", defArgs s_most_asks, defBody s_most_asks, defScope s_most_asks, [], []⟩
def d_all_below : He.DefD := ⟨("all_below", none), "all_below", "all_below", defArgs s_all_below, defBody s_all_below, defScope s_all_below, [], []⟩
def d_Pairing_init : He.DefD := ⟨("Pairing", some "__init__"), "__init__", "Pairing.__init__", defArgs s_Pairing_init, defBody s_Pairing_init, defScope s_Pairing_init, [], []⟩
def d_Pairing_give_way : He.DefD := ⟨("Pairing", some "give_way"), "give_way", "Pairing.give_way", defArgs s_Pairing_give_way, defBody s_Pairing_give_way, defScope s_Pairing_give_way, [], []⟩
def d_Pairing_pair : He.DefD := ⟨("Pairing", some "pair"), "pair", "Pairing.pair", defArgs s_Pairing_pair, defBody s_Pairing_pair, defScope s_Pairing_pair, [], []⟩
def d_Pairing_chain : He.DefD := ⟨("Pairing", some "chain"), "chain", "Pairing.chain", defArgs s_Pairing_chain, defBody s_Pairing_chain, defScope s_Pairing_chain, [], []⟩
def d_Pairing_stands_apart : He.DefD := ⟨("Pairing", some "stands_apart"), "stands_apart", "Pairing.stands_apart", defArgs s_Pairing_stands_apart, defBody s_Pairing_stands_apart, defScope s_Pairing_stands_apart, [], []⟩
def d_cover : He.DefD := ⟨("cover", none), "cover", "cover", defArgs s_cover, defBody s_cover, defScope s_cover, [], []⟩
def d_l_deck : He.DefD := ⟨("_law_deck", none), "_law_deck", "_law_deck", defArgs s_l_deck, defBody s_l_deck, defScope s_l_deck, [], []⟩
def d_l_mixed : He.DefD := ⟨("_law_mixed", none), "_law_mixed", "_law_mixed", defArgs s_l_mixed, defBody s_l_mixed, defScope s_l_mixed, [], []⟩
def d_l_draw : He.DefD := ⟨("_law_draw", none), "_law_draw", "_law_draw", defArgs s_l_draw, defBody s_l_draw, defScope s_l_draw, [], []⟩
def d_l_int : He.DefD := ⟨("_law_int", none), "_law_int", "_law_int", defArgs s_l_int, defBody s_l_int, defScope s_l_int, [], []⟩
def d_l_same : He.DefD := ⟨("_law_same", none), "_law_same", "_law_same", defArgs s_l_same, defBody s_l_same, defScope s_l_same, [], []⟩
def d_l_shape : He.DefD := ⟨("_law_shape", none), "_law_shape", "_law_shape", defArgs s_l_shape, defBody s_l_shape, defScope s_l_shape, [], []⟩
def d_l_spans : He.DefD := ⟨("_law_spans", none), "_law_spans", "_law_spans", defArgs s_l_spans, defBody s_l_spans, defScope s_l_spans, [], []⟩
def d_l_lower : He.DefD := ⟨("_law_lower", none), "_law_lower", "_law_lower", defArgs s_l_lower, defBody s_l_lower, defScope s_l_lower, [], []⟩
def d_l_settled : He.DefD := ⟨("_law_settled", none), "_law_settled", "_law_settled", defArgs s_l_settled, defBody s_l_settled, defScope s_l_settled, [], []⟩
def d_l_middlesT : He.DefD := ⟨("_law_middles", none), "_law_middles", "_law_middles", defArgs s_l_middlesT, defBody s_l_middlesT, defScope s_l_middlesT, [], []⟩
def d_l_rising : He.DefD := ⟨("_law_rising", none), "_law_rising", "_law_rising", defArgs s_l_rising, defBody s_l_rising, defScope s_l_rising, [], []⟩
def d_l_is_cover : He.DefD := ⟨("_law_is_cover", none), "_law_is_cover", "_law_is_cover", defArgs s_l_is_cover, defBody s_l_is_cover, defScope s_l_is_cover, [], []⟩
def d_l_ladder : He.DefD := ⟨("_law_ladder", none), "_law_ladder", "_law_ladder", defArgs s_l_ladder, defBody s_l_ladder, defScope s_l_ladder, [], []⟩
def d_l_sladW : He.DefD := ⟨("_law_shape_or_ladder", none), "_law_shape_or_ladder", "_law_shape_or_ladder", defArgs s_l_sladW, defBody s_l_sladW, defScope s_l_sladW, [], []⟩
def d_l_pair_up : He.DefD := ⟨("_law_pair_up", none), "_law_pair_up", "_law_pair_up", defArgs s_l_pair_up, defBody s_l_pair_up, defScope s_l_pair_up, [], []⟩
def d_l_high_apart : He.DefD := ⟨("_law_high_apart", none), "_law_high_apart", "_law_high_apart", defArgs s_l_high_apart, defBody s_l_high_apart, defScope s_l_high_apart, [], []⟩
def d_l_low_apart : He.DefD := ⟨("_law_low_apart", none), "_law_low_apart", "_law_low_apart", defArgs s_l_low_apart, defBody s_l_low_apart, defScope s_l_low_apart, [], []⟩
def d_l_own_cover : He.DefD := ⟨("_law_own_cover", none), "_law_own_cover", "_law_own_cover", defArgs s_l_own_cover, defBody s_l_own_cover, defScope s_l_own_cover, [], []⟩
def d_law : He.DefD := ⟨("law", none), "law", "law", defArgs s_law, defBody s_law, defScope s_law, [], []⟩
def fn : List He.DefD := [d_with_lower, d_lowest_lacking, d_refuse_contrary, d_settled, d_next_asks, d_most_asks, d_all_below, d_Pairing_init, d_Pairing_give_way, d_Pairing_pair, d_Pairing_chain, d_Pairing_stands_apart, d_cover, d_l_deck, d_l_mixed, d_l_draw, d_l_int, d_l_same, d_l_shape, d_l_spans, d_l_lower, d_l_settled, d_l_middlesT, d_l_rising, d_l_is_cover, d_l_ladder, d_l_sladW, d_l_pair_up, d_l_high_apart, d_l_low_apart, d_l_own_cover, d_law]
def fa : List He.Fa := [.glo "with_lower", .glo "lowest_lacking", .glo "refuse_contrary", .glo "settled", .glo "next_asks", .glo "most_asks", .glo "all_below", .glo "cover", .glo "_law_deck", .glo "_law_mixed", .glo "_law_draw", .glo "_law_int", .glo "_law_same", .glo "_law_shape", .glo "_law_spans", .glo "_law_lower", .glo "_law_settled", .glo "_law_middles", .glo "_law_rising", .glo "_law_is_cover", .glo "_law_ladder", .glo "_law_shape_or_ladder", .glo "_law_pair_up", .glo "_law_high_apart", .glo "_law_low_apart", .glo "_law_own_cover", .glo "law", .free "bool", .free "int", .free "isinstance", .free "len", .free "list", .free "min", .free "range", .free "reversed", .free "sorted", .free "str", .free "sum", .free "tuple", .int "FEW" 4, .glo "Pairing", .cls "Pairing", .noat "Pairing" "near", .noat "Pairing" "lower_of", .noat "Pairing" "upper_of", .noat "Pairing" "closed", .meth "Pairing" "give_way", .meth "Pairing" "pair", .meth "Pairing" "chain", .meth "Pairing" "stands_apart", .mkr "Pairing"]
abbrev R : PySem.W.OpenRow := PySem.W.OpenLaw.row PySem.Challenge.rw_fewasks_k20_whole_few_asks
abbrev hk : PySem.W.Hook := He.hookD 4 fa fn
def ob (s : PySem.W.SharedT) : He.AlD := He.obsDG 4 fa fn (HandSHeadRun.getT s)
theorem ob_eq (s : PySem.W.SharedT) : ob s = hk.obs s.abs := He.obsDG_eq (HandSHeadRun.getT_eq s)
def loose : List Str := [("HouseError" : Str), ("Contrary" : Str), ("with_lower" : Str), ("all_below" : Str), ("settled" : Str), ("lowest_lacking" : Str), ("refuse_contrary" : Str), ("next_asks" : Str), ("most_asks" : Str), ("Pairing" : Str), ("cover" : Str), ("_law_deck" : Str), ("_law_mixed" : Str), ("_law_draw" : Str), ("_law_int" : Str), ("_law_same" : Str), ("_law_shape" : Str), ("_law_spans" : Str), ("_law_lower" : Str), ("_law_rising" : Str), ("_law_settled" : Str), ("_law_is_cover" : Str), ("_law_middles" : Str), ("_law_ladder" : Str), ("_law_shape_or_ladder" : Str), ("_law_pair_up" : Str), ("_law_high_apart" : Str), ("_law_low_apart" : Str), ("_law_own_cover" : Str), ("FEW" : Str)]
theorem run (w : World) : HandSHeadRun.RunEq R (PySem.W.view R.prog [35]) hk ob 4000 loose w := by
  intro os
  kernel_rfl
theorem facts {P : Program} {w : World} {K : PySem.W.Frag} {h : Heap} {mg : Str → Option Value} {f : Addr} (X : K.In h) (G : h.Ns mainGlobals mg) (hfa : mg ("law" : Str) = some (.ref f)) (c : He.SaysD fa fn K) :
    ∃ fd : FuncData, (∀ (s : Shared) (v : Value), BindsTo s fd ⟨[v], []⟩ [("_law_script", v)]) ∧ ∀ base : Heap, K.In base → base.Ns mainGlobals mg → FnOk P w K mg base CX0 9 f fd ["_law_script"] (sp_law K) := by
  obtain ⟨fd0, F0⟩ := c.def_ 0 (d := d_with_lower) rfl
  obtain ⟨fd1, F1⟩ := c.def_ 1 (d := d_lowest_lacking) rfl
  obtain ⟨fd2, F2⟩ := c.def_ 2 (d := d_refuse_contrary) rfl
  obtain ⟨fd3, F3⟩ := c.def_ 3 (d := d_settled) rfl
  obtain ⟨fd4, F4⟩ := c.def_ 4 (d := d_next_asks) rfl
  obtain ⟨fd5, F5⟩ := c.def_ 5 (d := d_most_asks) rfl
  obtain ⟨fd6, F6⟩ := c.def_ 6 (d := d_all_below) rfl
  obtain ⟨fd7, F7⟩ := c.def_ 7 (d := d_Pairing_init) rfl
  obtain ⟨fd8, F8⟩ := c.def_ 8 (d := d_Pairing_give_way) rfl
  obtain ⟨fd9, F9⟩ := c.def_ 9 (d := d_Pairing_pair) rfl
  obtain ⟨fd10, F10⟩ := c.def_ 10 (d := d_Pairing_chain) rfl
  obtain ⟨fd11, F11⟩ := c.def_ 11 (d := d_Pairing_stands_apart) rfl
  obtain ⟨fd12, F12⟩ := c.def_ 12 (d := d_cover) rfl
  obtain ⟨fd13, F13⟩ := c.def_ 13 (d := d_l_deck) rfl
  obtain ⟨fd14, F14⟩ := c.def_ 14 (d := d_l_mixed) rfl
  obtain ⟨fd15, F15⟩ := c.def_ 15 (d := d_l_draw) rfl
  obtain ⟨fd16, F16⟩ := c.def_ 16 (d := d_l_int) rfl
  obtain ⟨fd17, F17⟩ := c.def_ 17 (d := d_l_same) rfl
  obtain ⟨fd18, F18⟩ := c.def_ 18 (d := d_l_shape) rfl
  obtain ⟨fd19, F19⟩ := c.def_ 19 (d := d_l_spans) rfl
  obtain ⟨fd20, F20⟩ := c.def_ 20 (d := d_l_lower) rfl
  obtain ⟨fd21, F21⟩ := c.def_ 21 (d := d_l_settled) rfl
  obtain ⟨fd22, F22⟩ := c.def_ 22 (d := d_l_middlesT) rfl
  obtain ⟨fd23, F23⟩ := c.def_ 23 (d := d_l_rising) rfl
  obtain ⟨fd24, F24⟩ := c.def_ 24 (d := d_l_is_cover) rfl
  obtain ⟨fd25, F25⟩ := c.def_ 25 (d := d_l_ladder) rfl
  obtain ⟨fd26, F26⟩ := c.def_ 26 (d := d_l_sladW) rfl
  obtain ⟨fd27, F27⟩ := c.def_ 27 (d := d_l_pair_up) rfl
  obtain ⟨fd28, F28⟩ := c.def_ 28 (d := d_l_high_apart) rfl
  obtain ⟨fd29, F29⟩ := c.def_ 29 (d := d_l_low_apart) rfl
  obtain ⟨fd30, F30⟩ := c.def_ 30 (d := d_l_own_cover) rfl
  obtain ⟨fd31, F31⟩ := c.def_ 31 (d := d_law) rfl
  have e := hfa.symm.trans (He.glo_ok X G (c.fact 26 (f := .glo "law") rfl))
  cases e
  have b := FunD.bindsA (ps := ["_law_script"]) F31 fun _ _ _ _ _ _ us hl => match us, hl with | [_], _ => rfl
  exact ⟨fd31, fun s v => b s [v] rfl, fun base _ _ => ok_law (⟨fd0, F0, (He.glo_ok X G (c.fact 0 (f := .glo "with_lower") rfl)), fd1, F1, (He.glo_ok X G (c.fact 1 (f := .glo "lowest_lacking") rfl)), fd2, F2, (He.glo_ok X G (c.fact 2 (f := .glo "refuse_contrary") rfl)), fd3, F3, (He.glo_ok X G (c.fact 3 (f := .glo "settled") rfl)), fd4, F4, (He.glo_ok X G (c.fact 4 (f := .glo "next_asks") rfl)), fd5, F5, (He.glo_ok X G (c.fact 5 (f := .glo "most_asks") rfl)), fd6, F6, (He.glo_ok X G (c.fact 6 (f := .glo "all_below") rfl)), fd7, F7, fd8, F8, fd9, F9, fd10, F10, fd11, F11, fd12, F12, (He.glo_ok X G (c.fact 7 (f := .glo "cover") rfl)), fd13, F13, (He.glo_ok X G (c.fact 8 (f := .glo "_law_deck") rfl)), fd14, F14, (He.glo_ok X G (c.fact 9 (f := .glo "_law_mixed") rfl)), fd15, F15, (He.glo_ok X G (c.fact 10 (f := .glo "_law_draw") rfl)), fd16, F16, (He.glo_ok X G (c.fact 11 (f := .glo "_law_int") rfl)), fd17, F17, (He.glo_ok X G (c.fact 12 (f := .glo "_law_same") rfl)), fd18, F18, (He.glo_ok X G (c.fact 13 (f := .glo "_law_shape") rfl)), fd19, F19, (He.glo_ok X G (c.fact 14 (f := .glo "_law_spans") rfl)), fd20, F20, (He.glo_ok X G (c.fact 15 (f := .glo "_law_lower") rfl)), fd21, F21, (He.glo_ok X G (c.fact 16 (f := .glo "_law_settled") rfl)), fd22, F22, (He.glo_ok X G (c.fact 17 (f := .glo "_law_middles") rfl)), fd23, F23, (He.glo_ok X G (c.fact 18 (f := .glo "_law_rising") rfl)), fd24, F24, (He.glo_ok X G (c.fact 19 (f := .glo "_law_is_cover") rfl)), fd25, F25, (He.glo_ok X G (c.fact 20 (f := .glo "_law_ladder") rfl)), fd26, F26, (He.glo_ok X G (c.fact 21 (f := .glo "_law_shape_or_ladder") rfl)), fd27, F27, (He.glo_ok X G (c.fact 22 (f := .glo "_law_pair_up") rfl)), fd28, F28, (He.glo_ok X G (c.fact 23 (f := .glo "_law_high_apart") rfl)), fd29, F29, (He.glo_ok X G (c.fact 24 (f := .glo "_law_low_apart") rfl)), fd30, F30, (He.glo_ok X G (c.fact 25 (f := .glo "_law_own_cover") rfl)), fd31, F31, (He.free_ok X G (c.fact 27 (f := .free "bool") rfl)), (He.free_ok X G (c.fact 28 (f := .free "int") rfl)), (He.free_ok X G (c.fact 29 (f := .free "isinstance") rfl)), (He.free_ok X G (c.fact 30 (f := .free "len") rfl)), (He.free_ok X G (c.fact 31 (f := .free "list") rfl)), (He.free_ok X G (c.fact 32 (f := .free "min") rfl)), (He.free_ok X G (c.fact 33 (f := .free "range") rfl)), (He.free_ok X G (c.fact 34 (f := .free "reversed") rfl)), (He.free_ok X G (c.fact 35 (f := .free "sorted") rfl)), (He.free_ok X G (c.fact 36 (f := .free "str") rfl)), (He.free_ok X G (c.fact 37 (f := .free "sum") rfl)), (He.free_ok X G (c.fact 38 (f := .free "tuple") rfl)), (He.int_ok X G (c.fact 39 (f := .int "FEW" 4) rfl)), (He.glo_ok X G (c.fact 40 (f := .glo "Pairing") rfl)), (He.cls_ok (c.fact 41 (f := .cls "Pairing") rfl)), (He.noat_ok (c.fact 42 (f := .noat "Pairing" "near") rfl)), (He.noat_ok (c.fact 43 (f := .noat "Pairing" "lower_of") rfl)), (He.noat_ok (c.fact 44 (f := .noat "Pairing" "upper_of") rfl)), (He.noat_ok (c.fact 45 (f := .noat "Pairing" "closed") rfl)), (He.meth_ok (c.fact 46 (f := .meth "Pairing" "give_way") rfl)), (He.meth_ok (c.fact 47 (f := .meth "Pairing" "pair") rfl)), (He.meth_ok (c.fact 48 (f := .meth "Pairing" "chain") rfl)), (He.meth_ok (c.fact 49 (f := .meth "Pairing" "stands_apart") rfl)), (He.mkr_ok (c.fact 50 (f := .mkr "Pairing") rfl))⟩ : Tx K mg)⟩
end K20
open PySem PySem.W PySem.Calls PyProof.Rows
set_option maxRecDepth 100000 in
set_option maxHeartbeats 0 in
theorem PySem.Challenge.cw_fewasks_k20_whole_few_asks_holds : PySem.Challenge.rw_fewasks_k20_whole_few_asks.Holds := by
  w_on; o_law
  refine HandSHeadRun.head_any (r := OpenLaw.row PySem.Challenge.rw_fewasks_k20_whole_few_asks) (q := view (OpenLaw.row PySem.Challenge.rw_fewasks_k20_whole_few_asks).prog [35]) (H := K20.hk) (ob := K20.ob) (M := 4000) (loose := K20.loose) (d := HandSHeadRun.topDef (OpenLaw.row PySem.Challenge.rw_fewasks_k20_whole_few_asks).prog 35) (kwd := []) K20.ob_eq
    (by kernel_rfl) (fun s => by kernel_rfl) K20.run (by kernel_rfl) (by kernel_rfl) (by kernel_rfl) (by rfl) (by first | assumption | decide +kernel) (by decide +kernel) ⟨rfl, rfl, rfl, rfl, rfl, by decide +kernel⟩ ?hw ?hc
  case hw => w_witness2
  case hc =>
    refine L2.walk_ofE (l := PySem.Challenge.rw_fewasks_k20_whole_few_asks) (n := 63) (k := 9) (x := "_law_script") (CX := L2.CX0) rfl (by decide) (by kernel_rfl) ⟨rfl, by decide, by decide⟩ ?F (fun _ _ _ _ z => z)
    intro w mg fa h Y G hmg0
    obtain ⟨K, KX, c⟩ := Y
    have hmg : mg ("law" : PySem.Str) = some (.ref fa) := by
      have e : (HandSHeadRun.topDef (OpenLaw.row PySem.Challenge.rw_fewasks_k20_whole_few_asks).prog 35).name = ("law" : PySem.Str) := by kernel_rfl
      rw [← e]
      exact hmg0
    obtain ⟨fd, hb, hF⟩ := K20.facts (P := (PySem.Challenge.rw_fewasks_k20_whole_few_asks).prog) (w := w) KX G hmg c
    exact ⟨K, fd, Fw.sp_law K, KX, hb, fun H a ns hl _ hS => ⟨a, ns, rfl, hS, hl, fun _ => rfl⟩, hF⟩
