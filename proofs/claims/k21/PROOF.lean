import PyProof.Rows.All
import Wide.All
import OpenK.AllK
import Wide.FinOn
import KE.KStateDown
import HandS.ForMost
import HandS.IsInst
import HandS.Conv
import HandS.Wide
import HandS.WideBits
import HandS.SortInts
import HandS.DictComp
import HandS.Zip
import HandS.Rev
import HandS.Flow
import HandS.Steps
import HandS.Defaults
import HandS.Head0
import HandS.Head1
import HandS.Head2
import HandS.HeadEnd
import HandS.HeadHook1
import HandS.HeadHook2
import HandS.TupAny
import HandS.TupLe
import HandS.Style
import HandS.Deep
import HandS.MakeKwOnly
import PySem.Challenge.RW_fewasks_k21_next_of_long_chains
set_option Elab.async false
set_option linter.all false
set_option maxRecDepth 100000
set_option maxHeartbeats 4000000
namespace Fw
open PySem L2 RZ RT
/-! ### readings by name -/
abbrev rAddI : R2 := rI0 fun i j => .int (i + j)
abbrev rSubI : R2 := rI0 fun i j => .int (i - j)
abbrev rMulI : R2 := rI CMul fun i j => .int (i * j)
abbrev rDivI : R2 := rI CDivW fun i j => .int (i / j)
abbrev rModI : R2 := rI (fun _ j => 0 < j) fun i j => .int (i % j)
abbrev rPowI : R2 := rI CPow fun i j => .int (i ^ j.toNat)
abbrev rLtI : R2 := rI0 fun i j => .bl (decide (i < j))
abbrev rLeI : R2 := rI0 fun i j => .bl (decide (i ≤ j))
abbrev rGtI : R2 := rI0 fun i j => .bl (decide (j < i))
abbrev rGeI : R2 := rI0 fun i j => .bl (decide (j ≤ i))
abbrev rNegI : V → Hp → VK → Prop := rU fun i => .int (-i)
abbrev fIsN : R2 := fun x y H Q => y = .non ∧ Q (.bl (decide (x = .non))) H
abbrev fNotN : R2 := fun x y H Q => y = .non ∧ Q (.bl (!decide (x = .non))) H
def fLen (K : PySem.W.Frag) : List V → Hp → VK → Prop := fun xs H Q => ∃ x n, xs = [x] ∧ LenV K x H n ∧ Q (.int n) H
def fListOf (K : PySem.W.Frag) : List V → Hp → VK → Prop := fun xs H Q => ∃ p ys, xs = [.ref p] ∧ (SqL K H p ys ∨ SqT K H p ys) ∧ ∀ l, H l = none → Q (.ref l) (upd H l (.lst ys))
def fTupleOf (K : PySem.W.Frag) : List V → Hp → VK → Prop := fun xs H Q => ∃ p ys, xs = [.ref p] ∧ ((SqL K H p ys ∧ ∀ l, H l = none → Q (.ref l) (upd H l (.tup ys))) ∨ (SqT K H p ys ∧ Q (.ref p) H))
def fMin2 : List V → Hp → VK → Prop := fun xs H Q => ∃ i j, xs = [.int i, .int j] ∧ Q (.int (if j < i then j else i)) H
def fMax2 : List V → Hp → VK → Prop := fun xs H Q => ∃ i j, xs = [.int i, .int j] ∧ Q (.int (if j > i then j else i)) H
/-! ### steps -/
section
variable {K : PySem.W.Frag} {H : Hp} {p : Addr} {xs : List V} {i : Int} {v : V} {Q : VK}
theorem ixL (h : H p = some (.lst xs)) (ha : atI xs i = some v) (q : Q v H) : rIx K (.ref p) (.int i) H Q := .inl ⟨p, xs, i, v, rfl, rfl, .inl (.inl h), ha, q⟩
theorem ixT (h : H p = some (.tup xs)) (ha : atI xs i = some v) (q : Q v H) : rIx K (.ref p) (.int i) H Q := .inr (.inl ⟨p, xs, i, v, rfl, rfl, .inl (.inl h), ha, q⟩)
theorem lenL {σ : L2.St} (h : H p = some (.lst xs)) (q : Q (.int xs.length) H) : tNil σ H fun ys H2 => fLen K (.ref p :: ys) H2 Q := ⟨_, _, rfl, .inl ⟨xs, .inl (.inl h), rfl⟩, q⟩
theorem lenT {σ : L2.St} (h : H p = some (.tup xs)) (q : Q (.int xs.length) H) : tNil σ H fun ys H2 => fLen K (.ref p :: ys) H2 Q := ⟨_, _, rfl, .inr ⟨xs, .inl (.inl h), rfl⟩, q⟩
theorem sqL (h : H p = some (.lst xs)) : SqL K H p xs := .inl (.inl h)
theorem sqT (h : H p = some (.tup xs)) : SqT K H p xs := .inl (.inl h)
end
theorem updS {H : Hp} {a : Addr} {o : HO} : upd H a o a = some o := upd_same
theorem updN {H : Hp} {a b : Addr} {o : HO} {r : Option HO} (n : b ≠ a) (h : H b = r) : upd H a o b = r := by rw [upd_ne n]; exact h
theorem small100 {m : Int} (h : m.natAbs ≤ 1000000000000000000) : m.natAbs < 2 ^ 100 := Nat.lt_of_le_of_lt h (by decide)
/-- the number in a slot, as a measure -/
def slotN (k : Nat) (σ : L2.St) : Nat := match σ[k]? with
  | some (some (V.int n)) => n.toNat
  | _ => 0
theorem getLastD_of {l : List V} (h : l ≠ []) : l.getLastD .non = l.getLast h := by
  rw [List.getLastD_eq_getLast?, List.getLast?_eq_getLast h]
  rfl
theorem pow18 : (10 : Int) ^ (18 : Int).toNat = 1000000000000000000 := by decide
/-! ### the deck of a law -/
/-- the deck at D: the cells at c, the turn at most t -/
def Dk (c D : Addr) (ns : List Int) (t : Nat) (H : Hp) : Prop := c ≠ D ∧ H c = some (.lst (ns.map V.int)) ∧ ns.length ≤ 63 ∧
  ∃ i n u : Int, H D = some (.lst [.ref c, .int i, .int n, .int u]) ∧ 0 ≤ i ∧ i ≤ ns.length ∧ 0 ≤ n ∧ 0 ≤ u ∧ u ≤ t
def sp_l_deck (K : PySem.W.Frag) : Sp := fun vs H Q _ => ∃ (a : Addr) (ns : List Int), vs = [.ref a] ∧ SqL K H a (ns.map V.int) ∧ ns.length ≤ 63 ∧
  ∀ c D H', Same H H' → H c = none → H D = none → Dk c D ns 0 H' → Q (.ref D) H'
def sp_l_mixed (_ : PySem.W.Frag) : Sp := fun vs H Q _ => ∃ (c t : Int), vs = [.int c, .int t] ∧ 0 ≤ t ∧ t ≤ 1000000000 ∧ ∀ v : Int, Q (.int v) H
def sp_l_draw (_ : PySem.W.Frag) : Sp := fun vs H Q _ => ∃ (c D : Addr) (ns : List Int) (t : Nat) (m : Int), vs = [.ref D, .int m] ∧ Dk c D ns t H ∧ t < 1000000000 ∧ 0 < m ∧ m.natAbs < 2 ^ 100 ∧
  ∀ (v : Int) (H' : Hp), 0 ≤ v → v < m → Dk c D ns (t + 1) H' → (∀ b, b ≠ D → H' b = H b) → Q (.int v) H'
def sp_l_int (_ : PySem.W.Frag) : Sp := fun vs H Q _ => ∃ i : Int, vs = [.int i] ∧ Q (.bl true) H
abbrev N_l_deck : List Str := ["_law_script"]
def t_l_deck (K : PySem.W.Frag) : TS := (tRet (tLst (tCons (tCB (fListOf K) (tCons (tVar 0) tNil)) (tCons (tC (.int 0)) (tCons (tC (.int 0)) (tCons (tC (.int 0)) tNil))))))
abbrev N_l_mixed : List Str := ["_law_cell", "_law_turn"]
def t_l_mixed (K : PySem.W.Frag) : TS := (tRet (tOp rModI (tOp rPowI (tOp rAddI (tOp rAddI (tOp rModI (tVar 0) (tC (.int 2147483629))) (tOp rMulI (tVar 1) (tC (.int 1000003)))) (tC (.int 17))) (tC (.int 5))) (tC (.int 2147483647))))
abbrev N_l_draw : List Str := ["_law_deck_here", "_law_many", "_law_cells", "_law_found", "_law_number"]
def t_l_draw_in (K : PySem.W.Frag) : TS := (tSeq (tIfS (tTest (tOp rLtI (tOp (rIx K) (tVar 2) (tOp rSubI (tOp (rIx K) (tVar 0) (tC (.int 1))) (tC (.int 1)))) (tOp rPowI (tC (.int 10)) (tC (.int 18))))) (tRet (tOp rModI (tCall (sp_l_mixed K) [] E0 (tCons (tOp (rIx K) (tVar 2) (tOp rSubI (tOp (rIx K) (tVar 0) (tC (.int 1))) (tC (.int 1)))) (tCons (tOp (rIx K) (tVar 0) (tC (.int 3))) tNil))) (tVar 1))) tNext)
    (tAsg (tOp (rIx K) (tVar 2) (tOp rSubI (tOp (rIx K) (tVar 0) (tC (.int 1))) (tC (.int 1)))) (gSub (tVar 0) (tC (.int 2)) rSetL)))
def t_l_draw_last (K : PySem.W.Frag) : TS := (tRet (tOp rModI (tCall (sp_l_mixed K) [] E0 (tCons (tVar 4) (tCons (tOp (rIx K) (tVar 0) (tC (.int 3))) tNil))) (tVar 1)))
def t_l_draw_rest (K : PySem.W.Frag) : TS := (tSeq (tIfS (tTest (tOp rGtI (tOp (rIx K) (tVar 0) (tC (.int 2))) (tC (.int 0)))) (tSeq (tAsg (tOp rModI (tOp (rIx K) (tVar 0) (tC (.int 2))) (tVar 1)) (gName 3))
    (tSeq (tAsg (tOp rDivI (tOp (rIx K) (tVar 0) (tC (.int 2))) (tVar 1)) (gSub (tVar 0) (tC (.int 2)) rSetL))
    (tRet (tVar 3)))) tNext)
    (tSeq (tAsg (tOp rMulI (tOp (rIx K) (tVar 0) (tC (.int 3))) (tC (.int 48271))) (gName 4))
    (tSeq (tIfS (tTest (tOp rGtI (tCB (fLen K) (tCons (tVar 2) tNil)) (tC (.int 0)))) (tAsg (tOp rAddI (tVar 4) (tOp rModI (tOp (rIx K) (tVar 2) (tOp rModI (tOp rMulI (tOp (rIx K) (tVar 0) (tC (.int 3))) (tC (.int 7))) (tCB (fLen K) (tCons (tVar 2) tNil)))) (tC (.int 2147483629)))) (gName 4)) tNext)
    (t_l_draw_last K))))
def t_l_draw_mid (K : PySem.W.Frag) : TS := (tSeq (tIfS (tAnd (tTest (tOp rEq (tOp (rIx K) (tVar 0) (tC (.int 2))) (tC (.int 0)))) (tTest (tOp rLtI (tOp (rIx K) (tVar 0) (tC (.int 1))) (tCB (fLen K) (tCons (tVar 2) tNil))))) (tSeq (tAsg (tOp rAddI (tOp (rIx K) (tVar 0) (tC (.int 1))) (tC (.int 1))) (gSub (tVar 0) (tC (.int 1)) rSetL))
    (t_l_draw_in K)) tNext)
    (t_l_draw_rest K))
def t_l_draw (K : PySem.W.Frag) : TS := (tSeq (tAsg (tOp (rIx K) (tVar 0) (tC (.int 0))) (gName 2))
    (tSeq (tAsg (tOp rAddI (tOp (rIx K) (tVar 0) (tC (.int 3))) (tC (.int 1))) (gSub (tVar 0) (tC (.int 3)) rSetL))
    (t_l_draw_mid K)))
abbrev N_l_int : List Str := ["_law_thing"]
def t_l_int (K : PySem.W.Frag) : TS := (tRet (tAndV (tCB (rIsi K) (tCons (tVar 0) (tCons (tC (.ty "int")) tNil))) (tNotV (tCB (rIsi K) (tCons (tVar 0) (tCons (tC (.ty "bool")) tNil))))))
theorem pure_l_deck {K : PySem.W.Frag} {vs : List V} {H : Hp} {Q : VK} {E : XK} (h : sp_l_deck K vs H Q E) : t_l_deck K { nx := fun _ H' => Q .non H', rt := Q } (start N_l_deck vs) H := by
  obtain ⟨a, ns, rfl, hS, hl, k⟩ := h
  refine ⟨_, rfl, a, _, rfl, .inl hS, fun c nc => ⟨by show (4 : Nat) ≤ sizeLine; decide, fun D nD => ?_⟩⟩
  have ncD : c ≠ D := fun e => by rw [← e, updS] at nD; cases nD
  have nD0 : H D = none := by rw [upd_ne ncD.symm] at nD; exact nD
  refine k c D _ (fun b o e => updN (ne_of_none e nD0) (updN (ne_of_none e nc) e)) nc nD0 ⟨ncD, updN ncD updS, hl, 0, 0, 0, updS, Int.le_refl _, by omega, Int.le_refl _, Int.le_refl _, Int.le_refl _⟩
theorem pure_l_mixed {K : PySem.W.Frag} {vs : List V} {H : Hp} {Q : VK} {E : XK} (h : sp_l_mixed K vs H Q E) : t_l_mixed K { nx := fun _ H' => Q .non H', rt := Q } (start N_l_mixed vs) H := by
  obtain ⟨c, t, rfl, h0, h1, k⟩ := h
  refine ⟨_, rfl, _, _, rfl, rfl, (by show (0 : Int) < 2147483629; decide), _, rfl, _, _, rfl, rfl, .inr ⟨by decide, by decide⟩, _, _, rfl, rfl, _, _, rfl, rfl, _, _, rfl, rfl, ⟨by decide, by decide, ?_⟩, _, _, rfl, rfl, (by show (0 : Int) < 2147483647; decide), k _⟩
  have := Int.emod_nonneg c (show (2147483629 : Int) ≠ 0 by decide)
  have := Int.emod_lt_of_pos c (show (0 : Int) < 2147483629 by decide)
  omega
theorem pure_l_int {K : PySem.W.Frag} {vs : List V} {H : Hp} {Q : VK} {E : XK} (h : sp_l_int K vs H Q E) : t_l_int K { nx := fun _ H' => Q .non H', rt := Q } (start N_l_int vs) H := by
  obtain ⟨i, rfl, k⟩ := h
  refine ⟨_, rfl, _, _, _, _, true, rfl, .ty _, .base (.int i), kit_ty (by decide +kernel), _, rfl, iteT ?_⟩
  refine ⟨_, rfl, _, _, _, _, false, rfl, .ty _, .base (.int i), kit_ty (by decide +kernel), _, rfl, k⟩
theorem pure_l_draw {K : PySem.W.Frag} {vs : List V} {H : Hp} {Q : VK} {E : XK} (h : sp_l_draw K vs H Q E) : t_l_draw K { nx := fun _ H' => Q .non H', rt := Q } (start N_l_draw vs) H := by
  obtain ⟨c, D, ns, t, m, rfl, ⟨ncD, hc, hl, i, n, u, hD, i0, i1, n0, u0, u1⟩, ht, m0, m1, k⟩ := h
  have cells : ∀ {j : Int}, 0 ≤ j → j < ns.length → ∃ z : Int, atI (ns.map V.int) j = some (.int z) := fun {j} h0 h1 => by
    obtain ⟨q, rfl⟩ := Int.eq_ofNat_of_zero_le h0
    have hq : q < ns.length := by omega
    exact ⟨ns[q], atI_nat (by rw [List.getElem?_map, List.getElem?_eq_getElem hq]; rfl)⟩
  -- the rest, from any i and n
  have rest : ∀ (i n : Int) (H2 : Hp) (z3 z4 : Option V), 0 ≤ i → i ≤ ns.length → 0 ≤ n → H2 D = some (.lst [.ref c, .int i, .int n, .int (u + 1)]) → H2 c = some (.lst (ns.map V.int)) → (∀ b, b ≠ D → H2 b = H b) →
      t_l_draw_rest K { nx := fun _ H' => Q .non H', rt := Q } [some (.ref D), some (.int m), some (.ref c), z3, z4] H2 := by
    intro i n H2 z3 z4 i0 i1 n0 hD2 hc2 fr2
    have mod0 : ∀ x : Int, 0 ≤ x % m := fun x => Int.emod_nonneg x (by omega)
    have mod1 : ∀ x : Int, x % m < m := fun x => Int.emod_lt_of_pos x m0
    refine ⟨_, rfl, ixL hD2 rfl ⟨_, _, rfl, rfl, _, rfl, ite2 (fun e => ?_) (fun e => ?_)⟩⟩
    · have hn : 0 < n := of_decide_eq_true e
      refine ⟨_, rfl, ixL hD2 rfl ⟨_, rfl, _, _, rfl, rfl, m0, ?_⟩⟩
      refine ⟨_, rfl, ixL hD2 rfl ⟨_, rfl, _, _, rfl, rfl, wide_div m0 m1 (by decide) (by decide), _, rfl, D, _, _, 2, rfl, rfl, hD2, rfl, ?_⟩⟩
      refine ⟨_, rfl, k _ _ (mod0 n) (mod1 n) ⟨ncD, updN ncD hc2, hl, i, n / m, u + 1, updS, i0, i1, Int.ediv_nonneg n0 (by omega), by omega, by omega⟩ fun b nb => (upd_ne nb).trans (fr2 b nb)⟩
    · refine ⟨_, rfl, ixL hD2 rfl ⟨_, _, rfl, rfl, .inr ⟨by decide, by decide⟩, ?_⟩⟩
      have last : ∀ (y : Int), t_l_draw_last K { nx := fun _ H' => Q .non H', rt := Q } [some (.ref D), some (.int m), some (.ref c), z3, some (.int y)] H2 := fun y => by
        refine ⟨_, rfl, _, rfl, ixL hD2 rfl ⟨y, u + 1, rfl, by omega, by omega, fun v => ?_⟩⟩
        refine ⟨_, rfl, _, _, rfl, rfl, m0, k _ _ (mod0 v) (mod1 v) ⟨ncD, hc2, hl, i, n, u + 1, hD2, i0, i1, n0, by omega, by omega⟩ fr2⟩
      refine ⟨_, rfl, lenL hc2 ⟨_, _, rfl, rfl, _, rfl, ite2 (fun e => ?_) (fun e => ?_)⟩⟩
      · have hn : 0 < ns.length := by
          have q : (0 : Int) < (ns.map V.int).length := of_decide_eq_true e
          rw [List.length_map] at q
          omega
        have hlen : ((ns.map V.int).length : Int) = ns.length := by rw [List.length_map]
        obtain ⟨z, hz⟩ := cells (j := (u + 1) * 7 % ((ns.map V.int).length : Int)) (Int.emod_nonneg _ (by omega)) (by rw [hlen]; exact Int.emod_lt_of_pos _ (by omega))
        refine ⟨_, rfl, _, rfl, _, rfl, ixL hD2 rfl ⟨_, _, rfl, rfl, .inr ⟨by decide, by decide⟩, _, rfl, lenL hc2 ⟨_, _, rfl, rfl, (by show (0 : Int) < ((ns.map V.int).length : Int); omega), ixL hc2 hz ⟨_, _, rfl, rfl, (by show (0 : Int) < 2147483629; decide), _, _, rfl, rfl, ?_⟩⟩⟩⟩
        exact last _
      · exact last _
  have mid : ∀ (H1 : Hp) (z3 z4 : Option V), H1 D = some (.lst [.ref c, .int i, .int n, .int (u + 1)]) → H1 c = some (.lst (ns.map V.int)) → (∀ b, b ≠ D → H1 b = H b) →
      t_l_draw_mid K { nx := fun _ H' => Q .non H', rt := Q } [some (.ref D), some (.int m), some (.ref c), z3, z4] H1 := by
    intro H1 z3 z4 hD1 hc1 fr1
    refine ⟨_, rfl, ixL hD1 rfl ⟨rfl, _, rfl, ?_⟩⟩
    refine ite2 (fun e => ?_) (fun e => iteF (rest i n H1 _ _ i0 i1 n0 hD1 hc1 fr1))
    refine ⟨_, rfl, ixL hD1 rfl ⟨_, rfl, lenL hc1 ⟨_, _, rfl, rfl, _, rfl, ite2 (fun e2 => ?_) (fun e2 => rest i n H1 _ _ i0 i1 n0 hD1 hc1 fr1)⟩⟩⟩
    have hi : i < ns.length := by
      have q : i < ((ns.map V.int).length : Int) := of_decide_eq_true e2
      rw [List.length_map] at q
      exact q
    obtain ⟨z, hz⟩ := cells i0 hi
    have ei : i + 1 - 1 = i := by omega
    have inn : ∀ (H2 : Hp), H2 D = some (.lst [.ref c, .int (i + 1), .int n, .int (u + 1)]) → H2 c = some (.lst (ns.map V.int)) → (∀ b, b ≠ D → H2 b = H b) →
        t_l_draw_in K { nx := t_l_draw_rest K { nx := fun _ H' => Q .non H', rt := Q }, rt := Q } [some (.ref D), some (.int m), some (.ref c), z3, z4] H2 := by
      intro H2 hD2 hc2 fr2
      refine ⟨_, rfl, _, rfl, ixL hD2 rfl ⟨_, _, rfl, rfl, ixL hc2 (by rw [ei]; exact hz) ⟨_, _, rfl, rfl, ⟨by decide, by decide, by decide⟩, _, _, rfl, rfl, _, rfl, ite2 (fun e3 => ?_) (fun e3 => ?_)⟩⟩⟩
      · refine ⟨_, rfl, _, rfl, ixL hD2 rfl ⟨_, _, rfl, rfl, ixL hc2 (by rw [ei]; exact hz) ⟨_, rfl, ixL hD2 rfl ⟨z, u + 1, rfl, by omega, by omega, fun v => ?_⟩⟩⟩⟩
        refine ⟨_, rfl, _, _, rfl, rfl, m0, k _ _ (Int.emod_nonneg v (by omega)) (Int.emod_lt_of_pos v m0) ⟨ncD, hc2, hl, i + 1, n, u + 1, hD2, by omega, by omega, n0, by omega, by omega⟩ fr2⟩
      · have hz0 : ¬ z < 1000000000000000000 := fun q => e3 (decide_eq_true (by rw [pow18]; exact q))
        refine ⟨_, rfl, _, rfl, ixL hD2 rfl ⟨_, _, rfl, rfl, ixL hc2 (by rw [ei]; exact hz) ⟨_, rfl, D, _, _, 2, rfl, rfl, hD2, rfl, ?_⟩⟩⟩
        exact rest (i + 1) z _ _ _ (by omega) (by omega) (by omega) updS (updN ncD hc2) fun b nb => updN nb (fr2 b nb)
    refine ⟨_, rfl, ixL hD1 rfl ⟨_, _, rfl, rfl, _, rfl, D, _, _, 1, rfl, rfl, hD1, rfl, ?_⟩⟩
    exact inn _ updS (updN ncD hc1) fun b nb => updN nb (fr1 b nb)
  -- cells = deck[0]; deck[3] = deck[3] + 1
  refine ⟨_, rfl, ixL hD rfl ?_⟩
  refine ⟨_, rfl, ixL hD rfl ⟨_, _, rfl, rfl, _, rfl, D, _, _, 3, rfl, rfl, hD, rfl, ?_⟩⟩
  exact mid _ _ _ updS (updN ncD hc) fun b nb => upd_ne nb
/-! ### the same data, kind for kind -/
/-- two values of the same data, at most n deep -/
def SameV (H : Hp) : Nat → V → V → Prop
  | 0, _, _ => False
  | n + 1, x, y => (x = y ∧ (x = .non ∨ (∃ i, x = .int i) ∨ (∃ b, x = .bl b) ∨ ∃ z, x = .str z)) ∨
    ∃ p q xs ys, x = .ref p ∧ y = .ref q ∧ ((H p = some (.lst xs) ∧ H q = some (.lst ys)) ∨ (H p = some (.tup xs) ∧ H q = some (.tup ys))) ∧ xs.length = ys.length ∧ xs.length ≤ 100000 ∧
      ∀ (i : Nat) (a b : V), xs[i]? = some a → ys[i]? = some b → SameV H n a b
theorem SameV.int {H : Hp} {n : Nat} {i j : Int} (e : i = j) : SameV H (n + 1) (.int i) (.int j) := Or.inl ⟨by rw [e], .inr (.inl ⟨i, rfl⟩)⟩
theorem SameV.bl {H : Hp} {n : Nat} {i j : Bool} (e : i = j) : SameV H (n + 1) (.bl i) (.bl j) := Or.inl ⟨by rw [e], .inr (.inr (.inl ⟨i, rfl⟩))⟩
theorem SameV.tup {H : Hp} {n : Nat} {p q : Addr} {xs ys : List V} (h1 : H p = some (.tup xs)) (h2 : H q = some (.tup ys)) (hl : xs.length = ys.length) (hz : xs.length ≤ 100000) (h : ∀ (i : Nat) (a b : V), xs[i]? = some a → ys[i]? = some b → SameV H n a b) : SameV H (n + 1) (.ref p) (.ref q) :=
  Or.inr ⟨p, q, xs, ys, rfl, rfl, .inr ⟨h1, h2⟩, hl, hz, h⟩
theorem SameV.lst {H : Hp} {n : Nat} {p q : Addr} {xs ys : List V} (h1 : H p = some (.lst xs)) (h2 : H q = some (.lst ys)) (hl : xs.length = ys.length) (hz : xs.length ≤ 100000) (h : ∀ (i : Nat) (a b : V), xs[i]? = some a → ys[i]? = some b → SameV H n a b) : SameV H (n + 1) (.ref p) (.ref q) :=
  Or.inr ⟨p, q, xs, ys, rfl, rfl, .inl ⟨h1, h2⟩, hl, hz, h⟩
theorem SameV.ints {H : Hp} {n : Nat} {ns : List Int} : ∀ (i : Nat) (a b : V), (ns.map V.int)[i]? = some a → (ns.map V.int)[i]? = some b → SameV H (n + 1) a b := fun i a b h1 h2 => by
  have e : a = b := Option.some.inj (h1.symm.trans h2)
  rw [List.getElem?_map] at h1
  cases q : ns[i]? with
  | none => rw [q] at h1; cases h1
  | some z => rw [q] at h1; exact Or.inl ⟨e, .inr (.inl ⟨z, (Option.some.inj h1).symm⟩)⟩
def sp_sameN (_ : PySem.W.Frag) (n : Nat) : Sp := fun vs H Q _ => ∃ x y, vs = [x, y] ∧ SameV H n x y ∧ Q (.bl true) H
abbrev sp_l_same (K : PySem.W.Frag) : Sp := sp_sameN K 6
abbrev N_l_same : List Str := ["_law_found", "_law_due", "_law_k"]
def t_l_same_loop (K : PySem.W.Frag) (n : Nat) : TS := (tSeq (tIfS (tTest (tOp rNe (tCB (fLen K) (tCons (tVar 0) tNil)) (tCB (fLen K) (tCons (tVar 1) tNil)))) (tRet (tC (.bl false))) tNext)
    (tSeq (tFor (iRng1 (tCons (tCB (fLen K) (tCons (tVar 1) tNil)) tNil)) (gName 2) (tIfS (tNot (tB (tCall (sp_sameN K n) [] E0 (tCons (tOp (rIx K) (tVar 0) (tVar 2)) (tCons (tOp (rIx K) (tVar 1) (tVar 2)) tNil))))) (tRet (tC (.bl false))) tNext))
    (tRet (tC (.bl true)))))
def t_l_same_tail (K : PySem.W.Frag) (n : Nat) : TS := (tSeq (tIfS (tB (tCB (rIsi K) (tCons (tVar 1) (tCons (tC (.ty "bool")) tNil)))) (tRet (tAndV (tCB (rIsi K) (tCons (tVar 0) (tCons (tC (.ty "bool")) tNil))) (tOp rEq (tVar 0) (tVar 1)))) tNext)
    (tSeq (tIfS (tB (tCB (rIsi K) (tCons (tVar 1) (tCons (tC (.ty "int")) tNil)))) (tRet (tAndV (tCall (sp_l_int K) [] E0 (tCons (tVar 0) tNil)) (tOp rEq (tVar 0) (tVar 1)))) tNext)
    (tSeq (tIfS (tB (tCB (rIsi K) (tCons (tVar 1) (tCons (tC (.ty "str")) tNil)))) (tRet (tAndV (tCB (rIsi K) (tCons (tVar 0) (tCons (tC (.ty "str")) tNil))) (tOp rEq (tVar 0) (tVar 1)))) tNext)
    (tRet (tAndV (tOp fIsN (tVar 1) (tC .non)) (tOp fIsN (tVar 0) (tC .non)))))))
def t_l_same (K : PySem.W.Frag) (n : Nat) : TS := (tSeq (tIfS (tOr (tB (tCB (rIsi K) (tCons (tVar 1) (tCons (tC (.ty "tuple")) tNil)))) (tB (tCB (rIsi K) (tCons (tVar 1) (tCons (tC (.ty "list")) tNil))))) (tSeq (tIfS (tOr (tTest (tOp rNe (tCB (rIsi K) (tCons (tVar 1) (tCons (tC (.ty "tuple")) tNil))) (tCB (rIsi K) (tCons (tVar 0) (tCons (tC (.ty "tuple")) tNil))))) (tTest (tOp rNe (tCB (rIsi K) (tCons (tVar 1) (tCons (tC (.ty "list")) tNil))) (tCB (rIsi K) (tCons (tVar 0) (tCons (tC (.ty "list")) tNil)))))) (tRet (tC (.bl false))) tNext)
    (t_l_same_loop K n)) tNext)
    (t_l_same_tail K n))
section
variable {K : PySem.W.Frag} {H : Hp} {x : V} {Q : VK} {σ : L2.St} {c t : String} {b : Bool}
theorem isi (ty : TyX K H x (.type t)) (k : kitB t c = some b) (q : Q (.bl b) H) : tCons (tC (.ty c)) tNil σ H fun ys H2 => rIsi K (x :: ys) H2 Q := ⟨_, _, _, _, b, rfl, .ty _, ty, kit_ty k, q⟩
end
theorem k_it : kitB "int" "tuple" = some false := by decide +kernel
theorem k_il : kitB "int" "list" = some false := by decide +kernel
theorem k_ib : kitB "int" "bool" = some false := by decide +kernel
theorem k_ii : kitB "int" "int" = some true := by decide +kernel
theorem k_bt : kitB "bool" "tuple" = some false := by decide +kernel
theorem k_bl : kitB "bool" "list" = some false := by decide +kernel
theorem k_bb : kitB "bool" "bool" = some true := by decide +kernel
theorem k_bi : kitB "bool" "int" = some true := by decide +kernel
theorem k_st : kitB "str" "tuple" = some false := by decide +kernel
theorem k_sl : kitB "str" "list" = some false := by decide +kernel
theorem k_sb : kitB "str" "bool" = some false := by decide +kernel
theorem k_si : kitB "str" "int" = some false := by decide +kernel
theorem k_ss : kitB "str" "str" = some true := by decide +kernel
theorem k_nt : kitB "NoneType" "tuple" = some false := by decide +kernel
theorem k_nl : kitB "NoneType" "list" = some false := by decide +kernel
theorem k_nb : kitB "NoneType" "bool" = some false := by decide +kernel
theorem k_ni : kitB "NoneType" "int" = some false := by decide +kernel
theorem k_ns : kitB "NoneType" "str" = some false := by decide +kernel
theorem k_tt : kitB "tuple" "tuple" = some true := by decide +kernel
theorem k_tl : kitB "tuple" "list" = some false := by decide +kernel
theorem k_ti : kitB "tuple" "int" = some false := by decide +kernel
theorem k_tb : kitB "tuple" "bool" = some false := by decide +kernel
theorem k_lt : kitB "list" "tuple" = some false := by decide +kernel
theorem k_ll : kitB "list" "list" = some true := by decide +kernel
theorem k_li : kitB "list" "int" = some false := by decide +kernel
theorem k_lb : kitB "list" "bool" = some false := by decide +kernel
theorem len_le {n : Nat} (h : n ≤ 100000) : -(2 ^ 62 : Int) ≤ (n : Int) ∧ (n : Int) < 2 ^ 62 := by
  have e : (2 : Int) ^ 62 = 4611686018427387904 := by decide
  rw [e]
  omega
theorem pure_l_same {K : PySem.W.Frag} {n : Nat} {vs : List V} {H : Hp} {Q : VK} {E : XK} (h : sp_sameN K (n + 1) vs H Q E) : t_l_same K n { nx := fun _ H' => Q .non H', rt := Q } (start N_l_same vs) H := by
  obtain ⟨x, y, rfl, h, k⟩ := h
  rcases h with ⟨rfl, h⟩ | ⟨p, q, xs, ys, rfl, rfl, h, hl, hz, hs⟩
  · rcases h with rfl | ⟨i, rfl⟩ | ⟨b, rfl⟩ | ⟨z, rfl⟩
    · refine ⟨_, rfl, isi (.base .non) k_nt ⟨_, rfl, iteF ⟨_, rfl, isi (.base .non) k_nl ⟨_, rfl, iteF ?_⟩⟩⟩⟩
      refine ⟨_, rfl, isi (.base .non) k_nb ⟨_, rfl, iteF ?_⟩⟩
      refine ⟨_, rfl, isi (.base .non) k_ni ⟨_, rfl, iteF ?_⟩⟩
      refine ⟨_, rfl, isi (.base .non) k_ns ⟨_, rfl, iteF ?_⟩⟩
      exact ⟨_, rfl, rfl, _, rfl, iteT ⟨_, rfl, rfl, k⟩⟩
    · refine ⟨_, rfl, isi (.base (.int i)) k_it ⟨_, rfl, iteF ⟨_, rfl, isi (.base (.int i)) k_il ⟨_, rfl, iteF ?_⟩⟩⟩⟩
      refine ⟨_, rfl, isi (.base (.int i)) k_ib ⟨_, rfl, iteF ?_⟩⟩
      refine ⟨_, rfl, isi (.base (.int i)) k_ii ⟨_, rfl, iteT ?_⟩⟩
      refine ⟨_, rfl, i, rfl, _, rfl, iteT ⟨_, rfl, _, rfl, rfl, ?_⟩⟩
      rw [decide_eq_true rfl]
      exact k
    · refine ⟨_, rfl, isi (.base (.bl b)) k_bt ⟨_, rfl, iteF ⟨_, rfl, isi (.base (.bl b)) k_bl ⟨_, rfl, iteF ?_⟩⟩⟩⟩
      refine ⟨_, rfl, isi (.base (.bl b)) k_bb ⟨_, rfl, iteT ?_⟩⟩
      refine ⟨_, rfl, isi (.base (.bl b)) k_bb ⟨_, rfl, iteT ⟨_, rfl, _, rfl, rfl, ?_⟩⟩⟩
      rw [decide_eq_true rfl]
      exact k
    · refine ⟨_, rfl, isi (.base (.str z)) k_st ⟨_, rfl, iteF ⟨_, rfl, isi (.base (.str z)) k_sl ⟨_, rfl, iteF ?_⟩⟩⟩⟩
      refine ⟨_, rfl, isi (.base (.str z)) k_sb ⟨_, rfl, iteF ?_⟩⟩
      refine ⟨_, rfl, isi (.base (.str z)) k_si ⟨_, rfl, iteF ?_⟩⟩
      refine ⟨_, rfl, isi (.base (.str z)) k_ss ⟨_, rfl, iteT ?_⟩⟩
      refine ⟨_, rfl, isi (.base (.str z)) k_ss ⟨_, rfl, iteT ⟨_, rfl, _, rfl, rfl, ?_⟩⟩⟩
      rw [decide_eq_true rfl]
      exact k
  · -- the loop over both
    have loop : (∃ o, (H p = some o ∧ (o = .lst xs ∨ o = .tup xs))) → (∃ o, (H q = some o ∧ (o = .lst ys ∨ o = .tup ys))) → ∀ z2 : Option V,
        t_l_same_loop K n { nx := t_l_same_tail K n { nx := fun _ H' => Q .non H', rt := Q }, rt := Q } [some (.ref p), some (.ref q), z2] H := by
      intro hp hq z2
      have hlen : ∀ {r : Addr} {zs : List V} {R : VK} {σ : L2.St}, (∃ o, (H r = some o ∧ (o = .lst zs ∨ o = .tup zs))) → R (.int zs.length) H → tNil σ H fun ws H2 => fLen K (.ref r :: ws) H2 R := by
        rintro r zs R σ ⟨o, h1, rfl | rfl⟩ h2
        · exact lenL h1 h2
        · exact lenT h1 h2
      have hix : ∀ {r : Addr} {zs : List V} {R : VK} {i : Int} {v : V}, (∃ o, (H r = some o ∧ (o = .lst zs ∨ o = .tup zs))) → atI zs i = some v → R v H → rIx K (.ref r) (.int i) H R := by
        rintro r zs R i v ⟨o, h1, rfl | rfl⟩ h2 h3
        · exact ixL h1 h2 h3
        · exact ixT h1 h2 h3
      refine ⟨_, rfl, hlen hp ⟨_, rfl, hlen hq ⟨rfl, _, rfl, ?_⟩⟩⟩
      rw [decide_eq_true (show V.int (xs.length : Int) = V.int (ys.length : Int) by rw [hl])]
      refine iteF ?_
      refine ⟨_, rfl, hlen hq ⟨_, rfl, (len_le (by omega)).1, (len_le (by omega)).2, for_range (lo := 0) (n := ((ys.length : Int)).toNat) (fun i σ H' => H' = H ∧ ∃ z, σ = [some (.ref p), some (.ref q), z]) ⟨rfl, _, rfl⟩ ?_ ?_⟩⟩
      · rintro i σ H' hi ⟨rfl, z, rfl⟩
        have hi1 : i < ys.length := by omega
        have hi2 : i < xs.length := by omega
        have e1 : atI xs (0 + (i : Int)) = some xs[i] := by rw [Int.zero_add]; exact atI_nat (List.getElem?_eq_getElem hi2)
        have e2 : atI ys (0 + (i : Int)) = some ys[i] := by rw [Int.zero_add]; exact atI_nat (List.getElem?_eq_getElem hi1)
        refine ⟨_, rfl, _, rfl, hix hp e1 ⟨_, rfl, _, rfl, hix hq e2 ⟨_, _, rfl, hs i _ _ (List.getElem?_eq_getElem hi2) (List.getElem?_eq_getElem hi1), _, rfl, iteF ?_⟩⟩⟩
        exact ⟨rfl, _, rfl⟩
      · rintro σ H' ⟨rfl, z, rfl⟩
        exact k
    rcases h with ⟨h1, h2⟩ | ⟨h1, h2⟩
    · have t1 : TyX K H (.ref p) (.type "list") := .base (.lst h1)
      have t2 : TyX K H (.ref q) (.type "list") := .base (.lst h2)
      refine ⟨_, rfl, isi t2 k_lt ⟨_, rfl, iteF ⟨_, rfl, isi t2 k_ll ⟨_, rfl, iteT ?_⟩⟩⟩⟩
      refine ⟨_, rfl, isi t2 k_lt ⟨_, rfl, isi t1 k_lt ⟨rfl, _, rfl, iteF ⟨_, rfl, isi t2 k_ll ⟨_, rfl, isi t1 k_ll ⟨rfl, _, rfl, iteF ?_⟩⟩⟩⟩⟩⟩
      exact loop ⟨_, h1, .inl rfl⟩ ⟨_, h2, .inl rfl⟩ _
    · have t1 : TyX K H (.ref p) (.type "tuple") := .base (.tup h1)
      have t2 : TyX K H (.ref q) (.type "tuple") := .base (.tup h2)
      refine ⟨_, rfl, isi t2 k_tt ⟨_, rfl, iteT ?_⟩⟩
      refine ⟨_, rfl, isi t2 k_tt ⟨_, rfl, isi t1 k_tt ⟨rfl, _, rfl, iteF ⟨_, rfl, isi t2 k_tl ⟨_, rfl, isi t1 k_tl ⟨rfl, _, rfl, iteF ?_⟩⟩⟩⟩⟩⟩
      exact loop ⟨_, h1, .inr rfl⟩ ⟨_, h2, .inr rfl⟩ _
def sp_law (K : PySem.W.Frag) : Sp := fun vs H Q _ => ∃ (a : Addr) (ns : List Int), vs = [.ref a] ∧ SqL K H a (ns.map V.int) ∧ ns.length ≤ 63 ∧ ∀ H', Q (.bl true) H'
section
variable {K : PySem.W.Frag} {vs : List V} {H : Hp} {Q : VK} {E : XK}
theorem len_law (h : sp_law K vs H Q E) : vs.length = 1 := by
  obtain ⟨_, _, rfl, _⟩ := h
  rfl
theorem len_l_deck (h : sp_l_deck K vs H Q E) : vs.length = 1 := by
  obtain ⟨_, _, rfl, _⟩ := h
  rfl
theorem len_l_mixed (h : sp_l_mixed K vs H Q E) : vs.length = 2 := by
  obtain ⟨_, _, rfl, _⟩ := h
  rfl
theorem len_l_draw (h : sp_l_draw K vs H Q E) : vs.length = 2 := by
  obtain ⟨_, _, _, _, _, rfl, _⟩ := h
  rfl
theorem len_l_int (h : sp_l_int K vs H Q E) : vs.length = 1 := by
  obtain ⟨_, rfl, _⟩ := h
  rfl
theorem len_sameN {n : Nat} (h : sp_sameN K n vs H Q E) : vs.length = 2 := by
  obtain ⟨_, _, rfl, _⟩ := h
  rfl
end
/-! ### comprehensions whose elements change nothing -/
section
variable {K : PySem.W.Frag} {a : Addr} {xs ys : List V} {g : TG} {tt : TT} {te : TE} {vs : List Nat} {σ : L2.St} {H1 : Hp} {D : Addr} {Qd : Hp → Prop}
/-- [e for x in xs], xs a tuple, ys the values in order -/
theorem lc_mapT (hq : ∀ acc, SqT K (upd H1 D (.lst acc)) a xs) (hl : ys.length = xs.length) (hz : xs.length ≤ 100000)
    (hs : ∀ (i : Nat) (x y : V) (acc : List V) (R : VK), xs[i]? = some x → ys[i]? = some y → R y (upd H1 D (.lst acc)) → g x (wipe σ vs) (upd H1 D (.lst acc)) fun σ2 H2 => wipe σ2 vs = wipe σ vs ∧ tt σ2 H2 fun b H3 => if b = true then te σ2 H3 R else False)
    (hd : Qd (upd H1 D (.lst ys))) (mt : ∀ σ H P P', (∀ b H1, P b H1 → P' b H1) → tt σ H P → tt σ H P') (mg : ∀ v σ H P P', (∀ σ1 H1, P σ1 H1 → P' σ1 H1) → g v σ H P → g v σ H P') :
    ∃ W : Nat → Nat → Hp → Prop, (∃ m, W 0 m (upd H1 D (.lst []))) ∧ ∀ i m H, W i m H →
      ((Itt K a).stop i H ∧ Qd H) ∨ ((Itt K a).go i H ∧ ∃ Nx : Hp → Prop, (∀ H', Nx H' → ∃ m', m' < m ∧ W (i + 1) m' H') ∧ ∀ x H', (Itt K a).yld i H x H' → g x (wipe σ vs) H' fun σ2 H2 => wipe σ2 vs = wipe σ vs ∧ tt σ2 H2 fun b H3 =>
        if b = true then te σ2 H3 fun y H4 => ∃ acc, H4 D = some (.lst acc) ∧ acc.length < sizeLine ∧ Nx (upd H4 D (.lst (acc ++ [y]))) else Nx H3) := by
  refine lc_tup (K := K) (a := a) (xs := xs) (fun i H => H = upd H1 D (.lst (ys.take i))) (by rw [List.take_zero]) (fun i H _ e => by rw [e]; exact hq _) (fun i x H hx e => ?_) (fun H e => by
    rw [e, List.take_of_length_le (by omega)]
    exact hd)
  subst e
  have hi : i < ys.length := by
    have := (List.getElem?_eq_some_iff.mp hx).1
    omega
  refine mg _ _ _ _ _ (fun σ1 H2 q => ⟨q.1, mt _ _ _ _ (fun b H3 q2 => ?_) q.2⟩) (hs i x ys[i] (ys.take i) (fun y H4 => ∃ acc, H4 D = some (.lst acc) ∧ acc.length < sizeLine ∧ upd H4 D (.lst (acc ++ [y])) = upd H1 D (.lst (ys.take (i + 1)))) hx (List.getElem?_eq_getElem hi) ⟨ys.take i, upd_same, Nat.lt_of_le_of_lt (by rw [List.length_take]; omega : (ys.take i).length ≤ 100000) (by decide), by rw [upd_upd, List.take_add_one, List.getElem?_eq_getElem hi]; rfl⟩)
  cases b with
  | true => exact q2
  | false => exact q2.elim
theorem lc_mapL (hq : ∀ acc, SqL K (upd H1 D (.lst acc)) a xs) (hl : ys.length = xs.length) (hz : xs.length ≤ 100000)
    (hs : ∀ (i : Nat) (x y : V) (acc : List V) (R : VK), xs[i]? = some x → ys[i]? = some y → R y (upd H1 D (.lst acc)) → g x (wipe σ vs) (upd H1 D (.lst acc)) fun σ2 H2 => wipe σ2 vs = wipe σ vs ∧ tt σ2 H2 fun b H3 => if b = true then te σ2 H3 R else False)
    (hd : Qd (upd H1 D (.lst ys))) (mt : ∀ σ H P P', (∀ b H1, P b H1 → P' b H1) → tt σ H P → tt σ H P') (mg : ∀ v σ H P P', (∀ σ1 H1, P σ1 H1 → P' σ1 H1) → g v σ H P → g v σ H P') :
    ∃ W : Nat → Nat → Hp → Prop, (∃ m, W 0 m (upd H1 D (.lst []))) ∧ ∀ i m H, W i m H →
      ((Itl K a).stop i H ∧ Qd H) ∨ ((Itl K a).go i H ∧ ∃ Nx : Hp → Prop, (∀ H', Nx H' → ∃ m', m' < m ∧ W (i + 1) m' H') ∧ ∀ x H', (Itl K a).yld i H x H' → g x (wipe σ vs) H' fun σ2 H2 => wipe σ2 vs = wipe σ vs ∧ tt σ2 H2 fun b H3 =>
        if b = true then te σ2 H3 fun y H4 => ∃ acc, H4 D = some (.lst acc) ∧ acc.length < sizeLine ∧ Nx (upd H4 D (.lst (acc ++ [y]))) else Nx H3) := by
  refine lc_list (K := K) (a := a) (xs := xs) (fun i H => H = upd H1 D (.lst (ys.take i))) (by rw [List.take_zero]) (fun i H _ e => by rw [e]; exact hq _) (fun i x H hx e => ?_) (fun H e => by
    rw [e, List.take_of_length_le (by omega)]
    exact hd)
  subst e
  have hi : i < ys.length := by
    have := (List.getElem?_eq_some_iff.mp hx).1
    omega
  refine mg _ _ _ _ _ (fun σ1 H2 q => ⟨q.1, mt _ _ _ _ (fun b H3 q2 => ?_) q.2⟩) (hs i x ys[i] (ys.take i) (fun y H4 => ∃ acc, H4 D = some (.lst acc) ∧ acc.length < sizeLine ∧ upd H4 D (.lst (acc ++ [y])) = upd H1 D (.lst (ys.take (i + 1)))) hx (List.getElem?_eq_getElem hi) ⟨ys.take i, upd_same, Nat.lt_of_le_of_lt (by rw [List.length_take]; omega : (ys.take i).length ≤ 100000) (by decide), by rw [upd_upd, List.take_add_one, List.getElem?_eq_getElem hi]; rfl⟩)
  cases b with
  | true => exact q2
  | false => exact q2.elim
theorem mono_yes : ∀ (σ : L2.St) (H : Hp) (P P' : Bool → Hp → Prop), (∀ b H1, P b H1 → P' b H1) → tYes σ H P → tYes σ H P' := fun _ _ _ _ f h => f _ _ h
theorem mono_gName {k : Nat} : ∀ (v : V) (σ : L2.St) (H : Hp) (P P' : L2.St → Hp → Prop), (∀ σ1 H1, P σ1 H1 → P' σ1 H1) → gName k v σ H P → gName k v σ H P' := fun _ _ _ _ _ f h => f _ _ h
end
end Fw

set_option Elab.async false
set_option linter.all false
set_option maxRecDepth 100000
set_option maxHeartbeats 4000000
namespace Fw
open PySem PySem.Spec PyProof.Rows L2
section
variable {X : Cx}
/-- a dict comprehension that is given to a name of its own, on one row -/
theorem sw_dict {kx vx : Expr} {gens : List Comprehension} {sc : Scope} {dpos npos : Pos} {nm : Str} {ln : Nat} {en : Env} (h1 : en.scope.kind = .function) (h2 : en.scope.names.lookup nm = some .local) (h3 : (npos.line == dpos.line) = true)
    (h4 : (sc.names.any fun (z, k) => z == nm && (k == .local || k == .cell)) = false) : swapsWith (.DictComp kx vx gens sc dpos) (some (.Name nm npos)) ln en = pure true := by
  have e1 : en.kindOf nm = some .local := h2
  have e2 : en.blockKind = .function := by
    unfold Env.blockKind
    rw [h1]
    rfl
  unfold swapsWith
  simp only [e2, e1, h4, Expr.pos, h3]
  rfl
theorem ps_setDc {i : Nat} {nm : Str} {npos : Pos} {kx vx tgt it : Expr} {tests : List Expr} {sc : Scope} {own : List (Str × Nat)} {dpos apos : Pos} {wi : TI} {g : TG} {tt : TT} {tk tv : TE} (calm : X.calm = true) (nd : X.N.Nodup) (at_ : X.N[i]? = some nm) (loc : X.env.scope.names.lookup nm = some .local)
    (sw : swapsWith (.DictComp kx vx [⟨tgt, it, tests, 0⟩] sc dpos) (some (.Name nm npos)) apos.line X.env = pure true) (walk : PI X tgt it wi) (blk : BlkOk X.N X.env.scope sc own)
    (pg : ∀ (z : Shared) (Hz : Hp) (cz : Addr) (clz : List (Str × Addr)) (fz : List Addr), PG (X.blk z Hz sc (compEnvC sc clz cz X.env) fz) tgt g)
    (pt : ∀ (z : Shared) (Hz : Hp) (cz : Addr) (clz : List (Str × Addr)) (fz : List Addr), PTs (X.blk z Hz sc (compEnvC sc clz cz X.env) fz) tests tt)
    (pk : ∀ (z : Shared) (Hz : Hp) (cz : Addr) (clz : List (Str × Addr)) (fz : List Addr), PE (X.blk z Hz sc (compEnvC sc clz cz X.env) fz) kx tk)
    (pv : ∀ (z : Shared) (Hz : Hp) (cz : Addr) (clz : List (Str × Addr)) (fz : List Addr), PE (X.blk z Hz sc (compEnvC sc clz cz X.env) fz) vx tv)
    (fold : ∀ z, foldedSetIterable it X.env z = pure z := by intro _; rfl) :
    PS X (.Assign [.Name nm npos] (.DictComp kx vx [⟨tgt, it, tests, 0⟩] sc dpos) apos) (tAsg (tDc wi g tt tk tv (own.map (·.2))) (gName i)) := by
  refine ⟨fun pins s σ H D inv rd => ?_⟩
  rw [exec_Assign_Name_used _ _ _ _ sw]
  refine wpAny_bind (wpAny_standAt ?_)
  refine wpAny_bind ?_
  show wpAny _ X.A (do let _ ← comprehension (.DictComp kx vx [⟨tgt, it, tests, 0⟩] sc dpos) sc X.env (firstIterPos [⟨tgt, it, tests, 0⟩] dpos) newDict false (eval it X.env) (some (assign (.Name nm npos) X.env))) _ _ s
  have rd2 : tDc wi g tt tk tv (own.map (·.2)) σ H (fun x Hx => gName i x σ Hx D.nx) := rd
  refine wpAny_bind (thn (dc_core (Qf := fun _ s1 => SP X pins D .next s1) calm nd inv walk blk pg pt pk pv fold rd2 fun F C s1 m H1 inv1 q ns fp => ?_) fun _ s1 z => wpAny_pure (wpAny_pure z))
  show wpAny _ _ (assign (.Name nm npos) X.env (.ref F)) _ _ _
  obtain ⟨p0, p1, _, p3, p4, p5⟩ := fp
  refine wpAny_assign_Name (store_ok2 (v := V.ref F) inv1 nd at_ (.inl loc) rfl (fun s2 inv2 ⟨b, same, hb⟩ => ?_) (.inr loc))
  have ne : C ≠ b := hb.elim (fun z => by rw [z]; exact p1) fun z e => p4 nm b z e.symm
  refine ⟨m, ns.sameBut same ne, fun h3 same3 => ⟨_, H1, ?_, q⟩⟩
  exact inv2.turned (t' := s2.toks) (fun x o nx e => (same3.2 x nx).trans e) p0 p1 p3 p4 p5
end
end Fw

set_option Elab.async false
set_option linter.all false
set_option maxRecDepth 100000
set_option maxHeartbeats 4000000
namespace Fw
open PySem L2 RZ RT
/-! ### data -/
inductive Dt where
  | non | bl (b : Bool) | int (i : Int) | str (z : Str) | tup (xs : List Dt) | lst (xs : List Dt) | dct
/-- the value x is the data d, as H stands -/
inductive At (H : Hp) : V → Dt → Prop where
  | non : At H .non .non
  | bl (b : Bool) : At H (.bl b) (.bl b)
  | int (i : Int) : At H (.int i) (.int i)
  | str (z : Str) : At H (.str z) (.str z)
  | tup {p : Addr} {xs : List V} {ds : List Dt} (h : H p = some (.tup xs)) (hz : xs.length ≤ 100000) (hl : xs.length = ds.length) (ha : ∀ (i : Nat) (x : V) (d : Dt), xs[i]? = some x → ds[i]? = some d → At H x d) : At H (.ref p) (.tup ds)
  | lst {p : Addr} {xs : List V} {ds : List Dt} (h : H p = some (.lst xs)) (hz : xs.length ≤ 100000) (hl : xs.length = ds.length) (ha : ∀ (i : Nat) (x : V) (d : Dt), xs[i]? = some x → ds[i]? = some d → At H x d) : At H (.ref p) (.lst ds)
  | dct {p : Addr} {kvs : List (Key × V)} (h : H p = some (.dK kvs)) : At H (.ref p) .dct
theorem At.mono {H H' : Hp} (s : Same H H') {x : V} {d : Dt} (a : At H x d) : At H' x d := by
  induction a with
  | non => exact .non
  | bl b => exact .bl b
  | int i => exact .int i
  | str z => exact .str z
  | tup h hz hl _ ih => exact .tup (s _ _ h) hz hl ih
  | lst h hz hl _ ih => exact .lst (s _ _ h) hz hl ih
  | dct h => exact .dct (s _ _ h)
def Dt.ty : Dt → String
  | .non => "NoneType"
  | .bl _ => "bool"
  | .int _ => "int"
  | .str _ => "str"
  | .tup _ => "tuple"
  | .lst _ => "list"
  | .dct => "dict"
theorem At.tyX {K : PySem.W.Frag} {H : Hp} {x : V} {d : Dt} (a : At H x d) : TyX K H x (.type d.ty) := by
  cases a with
  | non => exact .base .non
  | bl b => exact .base (.bl b)
  | int i => exact .base (.int i)
  | str z => exact .base (.str z)
  | tup h => exact .base (.tup h)
  | lst h => exact .base (.lst h)
  | dct h => exact .base (.dK h)
def isIntD : Dt → Bool
  | .int _ => true
  | _ => false
def isTupD : Dt → Bool
  | .tup _ => true
  | _ => false
def isPairD : Dt → Bool
  | .tup ds => decide (ds.length = 2)
  | _ => false
theorem k_dt : kitB "dict" "tuple" = some false := by decide +kernel
theorem k_di : kitB "dict" "int" = some false := by decide +kernel
theorem k_db : kitB "dict" "bool" = some false := by decide +kernel
theorem kit_tup (d : Dt) : kitB d.ty "tuple" = some (isTupD d) := by
  cases d with
  | non => exact k_nt
  | bl b => exact k_bt
  | int i => exact k_it
  | str z => exact k_st
  | tup xs => exact k_tt
  | lst xs => exact k_lt
  | dct => exact k_dt
/-- isinstance(x, tuple) of data -/
theorem isiTup {K : PySem.W.Frag} {H : Hp} {x : V} {d : Dt} {Q : VK} {σ : L2.St} (a : At H x d) (q : Q (.bl (isTupD d)) H) : tCons (tC (.ty "tuple")) tNil σ H fun ys H2 => rIsi K (x :: ys) H2 Q := isi a.tyX (kit_tup d) q
/-! ### inversions -/
theorem At.int_inv {H : Hp} {x : V} {i : Int} (a : At H x (.int i)) : x = .int i := by
  cases a
  rfl
theorem At.tup_inv {H : Hp} {x : V} {ds : List Dt} (a : At H x (.tup ds)) : ∃ (p : Addr) (xs : List V), x = .ref p ∧ H p = some (.tup xs) ∧ xs.length = ds.length ∧ xs.length ≤ 100000 ∧ ∀ (i : Nat) (x : V) (d : Dt), xs[i]? = some x → ds[i]? = some d → At H x d := by
  cases a with
  | tup h hz hl ha => exact ⟨_, _, rfl, h, hl, hz, ha⟩
theorem At.pair_inv {H : Hp} {x : V} {d e : Dt} (a : At H x (.tup [d, e])) : ∃ (p : Addr) (y z : V), x = .ref p ∧ H p = some (.tup [y, z]) ∧ At H y d ∧ At H z e := by
  obtain ⟨p, xs, rfl, h, hl, _, ha⟩ := a.tup_inv
  match xs, hl with
  | [y, z], _ => exact ⟨p, y, z, rfl, h, ha 0 _ _ rfl rfl, ha 1 _ _ rfl rfl⟩
theorem At.ints {H : Hp} {xs : List V} : ∀ {ns : List Int}, xs.length = ns.length → (∀ (i : Nat) (x : V) (d : Dt), xs[i]? = some x → (ns.map Dt.int)[i]? = some d → At H x d) → xs = ns.map V.int := by
  induction xs with
  | nil =>
    intro ns hl _
    cases ns with
    | nil => rfl
    | cons n r => cases hl
  | cons x r ih =>
    intro ns hl h
    cases ns with
    | nil => cases hl
    | cons n m =>
      rw [List.map_cons, (h 0 x (.int n) rfl rfl).int_inv, ih (ns := m) (Nat.succ.inj hl) fun i y d h1 h2 => h (i + 1) y d h1 h2]
/-- a tuple of ints -/
theorem At.of_ints {H : Hp} {p : Addr} {ns : List Int} (h : H p = some (.tup (ns.map V.int))) (hz : ns.length ≤ 100000) : At H (.ref p) (.tup (ns.map Dt.int)) := by
  refine .tup h (by rw [List.length_map]; exact hz) (by simp) fun i x d h1 h2 => ?_
  rw [List.getElem?_map] at h1 h2
  cases e : ns[i]? with
  | none => rw [e] at h1; cases h1
  | some n =>
    rw [e] at h1 h2
    cases Option.some.inj h1
    cases Option.some.inj h2
    exact .int n
theorem At.to_ints {H : Hp} {x : V} {ns : List Int} (a : At H x (.tup (ns.map Dt.int))) : ∃ p, x = .ref p ∧ H p = some (.tup (ns.map V.int)) ∧ ns.length ≤ 100000 := by
  obtain ⟨p, xs, rfl, h, hl, hz, ha⟩ := a.tup_inv
  rw [List.length_map] at hl
  have e := At.ints hl ha
  subst e
  exact ⟨p, rfl, h, by rw [List.length_map] at hz; exact hz⟩
/-! ### order -/
def adjL {α : Type} (r : α → α → Bool) (l : List α) : List Bool := List.zipWith r l (l.drop 1)
def adj {α : Type} (r : α → α → Bool) (l : List α) : Bool := (adjL r l).all id
theorem adjL_length {α : Type} (r : α → α → Bool) (l : List α) : (adjL r l).length = l.length - 1 := by
  unfold adjL
  rw [List.length_zipWith, List.length_drop]
  omega
theorem adjL_get {α : Type} {r : α → α → Bool} {l : List α} {i : Nat} {x y : α} {b : Bool} (hx : l[i]? = some x) (hy : l[i + 1]? = some y) (hb : (adjL r l)[i]? = some b) : b = r x y := by
  unfold adjL at hb
  rw [List.getElem?_zipWith, hx, List.getElem?_drop, Nat.add_comm 1 i, hy] at hb
  exact (Option.some.inj hb).symm
theorem adj_of {α : Type} {r : α → α → Bool} {l : List α} (h : ∀ (i : Nat) (x y : α), l[i]? = some x → l[i + 1]? = some y → r x y = true) : adj r l = true := by
  refine List.all_eq_true.mpr fun b hb => ?_
  obtain ⟨i, hi, e⟩ := List.getElem_of_mem hb
  have hl := adjL_length r l
  have h1 : i < l.length := by omega
  have h2 : i + 1 < l.length := by omega
  have := adjL_get (List.getElem?_eq_getElem h1) (List.getElem?_eq_getElem h2) (List.getElem?_eq_some_iff.mpr ⟨hi, e⟩)
  rw [this]
  exact h i _ _ (List.getElem?_eq_getElem h1) (List.getElem?_eq_getElem h2)
def ints1 : List Dt → List Int
  | .int i :: r => i :: ints1 r
  | _ :: r => ints1 r
  | [] => []
theorem ints1_map : ∀ ns : List Int, ints1 (ns.map Dt.int) = ns
  | [] => rfl
  | n :: r => by
    show n :: ints1 (r.map Dt.int) = n :: r
    rw [ints1_map r]
theorem allInt : ∀ {ds : List Dt}, ds.all isIntD = true → ds = (ints1 ds).map Dt.int
  | [], _ => rfl
  | .int i :: r, h => by
    have h2 : r.all isIntD = true := h
    show Dt.int i :: r = Dt.int i :: (ints1 r).map Dt.int
    rw [← allInt h2]
  | .non :: _, h => by cases h
  | .bl _ :: _, h => by cases h
  | .str _ :: _, h => by cases h
  | .tup _ :: _, h => by cases h
  | .lst _ :: _, h => by cases h
  | .dct :: _, h => by cases h
def ltD : Dt → Dt → Bool
  | .int i, .int j => decide (i < j)
  | .tup a, .tup b => HT.lexLt (ints1 a) (ints1 b)
  | _, _ => false
/-- what < of two values says -/
def Cmp (H : Hp) (x y : V) (b : Bool) : Prop := (∃ i j, x = .int i ∧ y = .int j ∧ b = decide (i < j)) ∨ (∃ p q ns ms, x = .ref p ∧ y = .ref q ∧ H p = some (.tup (ns.map V.int)) ∧ H q = some (.tup (ms.map V.int)) ∧ b = HT.lexLt ns ms)
theorem Cmp.mono {H H' : Hp} (s : Same H H') {x y : V} {b : Bool} (c : Cmp H x y b) : Cmp H' x y b := by
  rcases c with c | ⟨p, q, ns, ms, h1, h2, h3, h4, h5⟩
  · exact .inl c
  · exact .inr ⟨p, q, ns, ms, h1, h2, s _ _ h3, s _ _ h4, h5⟩
abbrev fLtA (K : PySem.W.Frag) : R2 := fun x y H Q => rLtI x y H Q ∨ rLtT K x y H Q
theorem Cmp.run {K : PySem.W.Frag} {H : Hp} {x y : V} {b : Bool} {Q : VK} (c : Cmp H x y b) (q : Q (.bl b) H) : fLtA K x y H Q := by
  rcases c with ⟨i, j, rfl, rfl, rfl⟩ | ⟨p, r, ns, ms, rfl, rfl, h3, h4, rfl⟩
  · exact .inl ⟨_, _, rfl, rfl, q⟩
  · exact .inr ⟨_, _, _, _, rfl, rfl, sqT h3, sqT h4, q⟩
/-! ### the comprehension over zip of two tuples -/
theorem lc_zipT {K : PySem.W.Frag} {a b : Addr} {xs ys : List V} {g : TG} {tt : TT} {te : TE} {vs : List Nat} {σ : L2.St} {H1 : Hp} {D : Addr} {Qd : Hp → Prop} (n : Nat) (hn : n = min xs.length ys.length) (Pv : Nat → Hp → Prop) (h0 : Pv 0 (upd H1 D (.lst [])))
    (hl : ∀ i H, Pv i H → SqT K H a xs ∧ SqT K H b ys)
    (hs : ∀ (i : Nat) (x y : V) (T : Addr) (H : Hp), xs[i]? = some x → ys[i]? = some y → Pv i H → H T = none → g (.ref T) (wipe σ vs) (upd H T (.tup [x, y])) fun σ2 H2 => wipe σ2 vs = wipe σ vs ∧ tt σ2 H2 fun b H3 =>
      if b = true then te σ2 H3 fun y H4 => ∃ acc, H4 D = some (.lst acc) ∧ acc.length < sizeLine ∧ Pv (i + 1) (upd H4 D (.lst (acc ++ [y]))) else Pv (i + 1) H3) (hd : ∀ H, Pv n H → Qd H) :
    ∃ W : Nat → Nat → Hp → Prop, (∃ m, W 0 m (upd H1 D (.lst []))) ∧ ∀ i m H, W i m H →
      ((ItzT K a b).stop i H ∧ Qd H) ∨ ((ItzT K a b).go i H ∧ ∃ Nx : Hp → Prop, (∀ H', Nx H' → ∃ m', m' < m ∧ W (i + 1) m' H') ∧ ∀ x H', (ItzT K a b).yld i H x H' → g x (wipe σ vs) H' fun σ2 H2 => wipe σ2 vs = wipe σ vs ∧ tt σ2 H2 fun b H3 =>
        if b = true then te σ2 H3 fun y H4 => ∃ acc, H4 D = some (.lst acc) ∧ acc.length < sizeLine ∧ Nx (upd H4 D (.lst (acc ++ [y]))) else Nx H3) := by
  refine ⟨fun i m H => m = n - i ∧ i ≤ n ∧ Pv i H, ⟨n, by simp, Nat.zero_le _, h0⟩, ?_⟩
  rintro i m H ⟨rfl, hi, p⟩
  obtain ⟨qa, qb⟩ := hl i H p
  by_cases hlt : i < n
  · have l1 : i < xs.length := by omega
    have l2 : i < ys.length := by omega
    refine .inr ⟨⟨xs, ys, xs[i], ys[i], qa, qb, List.getElem?_eq_getElem l1, List.getElem?_eq_getElem l2⟩, Pv (i + 1), fun H' p' => ⟨n - (i + 1), by omega, rfl, hlt, p'⟩, fun x H' y => ?_⟩
    obtain ⟨T, x1, x2, rfl, nT, rfl, f1, f2⟩ := y
    exact hs i x1 x2 T H (f1 _ qa) (f2 _ qb) p nT
  · have e : i = n := by omega
    subst e
    exact .inl ⟨⟨xs, ys, qa, qb, by omega⟩, hd H p⟩
/-! ### promises -/
def sp_is_int (_ : PySem.W.Frag) : Sp := fun vs H Q _ => ∃ (x : V) (d : Dt), vs = [x] ∧ At H x d ∧ Q (.bl (isIntD d)) H
def sp_is_pair (_ : PySem.W.Frag) : Sp := fun vs H Q _ => ∃ (x : V) (d : Dt), vs = [x] ∧ At H x d ∧ Q (.bl (isPairD d)) H
def sp_rises (_ : PySem.W.Frag) : Sp := fun vs H Q _ => ∃ (p : Addr) (xs : List V) (bs : List Bool), vs = [.ref p] ∧ H p = some (.tup xs) ∧ xs.length ≤ 100000 ∧ bs.length = xs.length - 1 ∧
  (∀ (i : Nat) (x y : V) (b : Bool), xs[i]? = some x → xs[i + 1]? = some y → bs[i]? = some b → Cmp H x y b) ∧ ∀ H', Same H H' → Q (.bl (bs.all id)) H'
abbrev N_is_int : List Str := ["thing"]
def t_is_int (K : PySem.W.Frag) : TS := (tRet (tAndV (tCB (rIsi K) (tCons (tVar 0) (tCons (tC (.ty "int")) tNil))) (tNotV (tCB (rIsi K) (tCons (tVar 0) (tCons (tC (.ty "bool")) tNil))))))
abbrev N_is_pair : List Str := ["thing"]
def t_is_pair (K : PySem.W.Frag) : TS := (tRet (tAndV (tCB (rIsi K) (tCons (tVar 0) (tCons (tC (.ty "tuple")) tNil))) (tOp rEq (tCB (fLen K) (tCons (tVar 0) tNil)) (tC (.int 2)))))
abbrev N_rises : List Str := ["things", "low", "high"]
def t_rises (K : PySem.W.Frag) : TS := (tRet (tCB (rAll K) (tCons (tLc (iZipA K (tCons (tVar 0) (tCons (tSl (rSlA K) (tVar 0) (tPart (tC (.int 1))) tNoPart) tNil))) (gTup K 2 (gCons (gName 1) (gCons (gName 2) gNil))) tYes (tOp (fLtA K) (tVar 1) (tVar 2)) [1, 2]) tNil)))
section
variable {K : PySem.W.Frag} {vs : List V} {H : Hp} {Q : VK} {E : XK}
theorem len_is_int (h : sp_is_int K vs H Q E) : vs.length = 1 := by
  obtain ⟨_, _, rfl, _⟩ := h
  rfl
theorem len_is_pair (h : sp_is_pair K vs H Q E) : vs.length = 1 := by
  obtain ⟨_, _, rfl, _⟩ := h
  rfl
theorem len_rises (h : sp_rises K vs H Q E) : vs.length = 1 := by
  obtain ⟨_, _, _, rfl, _⟩ := h
  rfl
theorem k_lI (d : Dt) : kitB d.ty "int" = some (match d with | .bl _ => true | .int _ => true | _ => false) := by
  cases d with
  | non => exact k_ni
  | bl b => exact k_bi
  | int i => exact k_ii
  | str z => exact k_si
  | tup xs => exact k_ti
  | lst xs => exact k_li
  | dct => exact k_di
theorem pure_is_int (h : sp_is_int K vs H Q E) : t_is_int K { nx := fun _ H' => Q .non H', rt := Q } (start N_is_int vs) H := by
  obtain ⟨x, d, rfl, a, k⟩ := h
  refine ⟨_, rfl, isi a.tyX (k_lI d) ⟨_, rfl, ?_⟩⟩
  cases d with
  | bl b => exact iteT ⟨_, rfl, isi a.tyX k_bb ⟨_, rfl, k⟩⟩
  | int i => exact iteT ⟨_, rfl, isi a.tyX k_ib ⟨_, rfl, k⟩⟩
  | _ => exact iteF k
theorem pure_is_pair (h : sp_is_pair K vs H Q E) : t_is_pair K { nx := fun _ H' => Q .non H', rt := Q } (start N_is_pair vs) H := by
  obtain ⟨x, d, rfl, a, k⟩ := h
  refine ⟨_, rfl, isiTup a ⟨_, rfl, ?_⟩⟩
  cases a with
  | @tup p xs ds hp hz hl ha =>
    refine iteT ⟨_, rfl, lenT hp ⟨rfl, ?_⟩⟩
    have e : decide (V.int (xs.length : Int) = V.int 2) = isPairD (.tup ds) := by
      show _ = decide (ds.length = 2)
      rw [← hl]
      by_cases h2 : xs.length = 2
      · rw [decide_eq_true h2, h2]
        rfl
      · rw [decide_eq_false h2]
        exact decide_eq_false fun z => h2 (by have := V.int.inj z; omega)
    rw [e]
    exact k
  | _ => exact iteF k
theorem cut1 (xs : List V) : cutV xs (some 1) none = xs.drop 1 := by
  unfold cutV
  rw [show HT.sIx xs.length 0 (some 1) = min 1 xs.length from HT.sIx_nat xs.length 0 1, HT.sIx_none]
  cases xs with
  | nil => rfl
  | cons x r =>
    rw [show min 1 (x :: r).length = 1 by
      rw [List.length_cons]
      omega]
    show (List.take ((x :: r).length - 1) r) = r
    rw [List.length_cons, Nat.add_sub_cancel]
    exact List.take_length
theorem pure_rises (h : sp_rises K vs H Q E) : t_rises K { nx := fun _ H' => Q .non H', rt := Q } (start N_rises vs) H := by
  obtain ⟨p, xs, bs, rfl, hp, hz, hb, hc, k⟩ := h
  -- zip(things, things[1:]), the second one at any place
  have main : ∀ (q : Addr) (H1 : Hp), Same H H1 → H1 q = some (.tup (xs.drop 1)) → ∀ D, H1 D = none → ∃ W : Nat → Nat → Hp → Prop, (∃ m, W 0 m (upd H1 D (.lst []))) ∧ ∀ i m H, W i m H →
      ((ItzT K p q).stop i H ∧ tNil (start N_rises [V.ref p]) H fun ys H2 => rAll K (.ref D :: ys) H2 Q) ∨ ((ItzT K p q).go i H ∧ ∃ Nx : Hp → Prop, (∀ H', Nx H' → ∃ m', m' < m ∧ W (i + 1) m' H') ∧ ∀ x H', (ItzT K p q).yld i H x H' → gTup K 2 (gCons (gName 1) (gCons (gName 2) gNil)) x (wipe (start N_rises [V.ref p]) [1, 2]) H' fun σ2 H2 => wipe σ2 [1, 2] = wipe (start N_rises [V.ref p]) [1, 2] ∧ tYes σ2 H2 fun b H3 =>
        if b = true then tOp (fLtA K) (tVar 1) (tVar 2) σ2 H3 fun y H4 => ∃ acc, H4 D = some (.lst acc) ∧ acc.length < sizeLine ∧ Nx (upd H4 D (.lst (acc ++ [y]))) else Nx H3) := by
    intro q H1 sm hq D nD
    refine lc_zipT (K := K) (a := p) (b := q) (xs := xs) (ys := xs.drop 1) (xs.length - 1) (by rw [List.length_drop]; omega) (fun i H2 => Same H1 H2 ∧ H2 D = some (.lst ((bs.take i).map V.bl))) ⟨fun b o e => updN (ne_of_none e nD) e, updS⟩ (fun i H2 s2 => ⟨sqT (s2.1 _ _ (sm _ _ hp)), sqT (s2.1 _ _ hq)⟩) (fun i x y T H2 hx hy s2 nT => ?_) (fun H2 s2 => ?_)
    · rw [List.getElem?_drop, Nat.add_comm] at hy
      have hi : i < bs.length := by
        have := (List.getElem?_eq_some_iff.mp hy).1
        omega
      have nTD : D ≠ T := ne_of_none s2.2 nT
      have sT : Same H1 (upd H2 T (.tup [x, y])) := fun b o e => updN (ne_of_none (s2.1 _ _ e) nT) (s2.1 _ _ e)
      refine ⟨T, [x, y], rfl, sqT updS, rfl, x, [y], rfl, y, [], rfl, rfl, rfl, ?_⟩
      refine ⟨_, rfl, _, rfl, Cmp.run ((hc i x y bs[i] hx hy (List.getElem?_eq_getElem hi)).mono (sm.trans sT)) ⟨(bs.take i).map V.bl, updN nTD s2.2, ?_, ?_⟩⟩
      · refine Nat.lt_of_le_of_lt (?_ : _ ≤ 100000) (by decide)
        rw [List.length_map, List.length_take]
        omega
      · refine ⟨fun b o e => updN (ne_of_none e nD) (sT _ _ e), ?_⟩
        rw [updS, List.take_add_one, List.getElem?_eq_getElem hi, List.map_append]
        rfl
    · refine ⟨D, bs, rfl, sqL ?_, k _ (sm.trans s2.1)⟩
      rw [s2.2, List.take_of_length_le (by omega)]
  refine ⟨_, rfl, _, rfl, _, rfl, p, xs, rfl, sqT hp, fun e => ?_, fun e q nq => ?_⟩
  · have e0 : xs.drop 1 = xs := by
      have e1 := e.1
      rw [show HT.sIx xs.length 0 (some 1) = min 1 xs.length from HT.sIx_nat xs.length 0 1] at e1
      have : xs.length = 0 := by omega
      rw [List.eq_nil_of_length_eq_zero this]
      rfl
    exact ⟨p, p, xs, xs, rfl, .inr ⟨sqT hp, sqT hp, main p H (Same.refl H) (by rw [e0]; exact hp)⟩⟩
  · have s1 : Same H (upd H q (.tup (cutV xs (some 1) none))) := fun b o e => updN (ne_of_none e nq) e
    refine ⟨p, q, xs, _, rfl, .inr ⟨sqT (s1 _ _ hp), sqT updS, main q _ s1 ?_⟩⟩
    rw [updS, cut1]
end
/-! ### sets of ints as dicts -/
def setOf (ns : List Int) : List (Key × V) := ns.foldl (fun acc n => putK acc (.inl n) (.bl true)) []
theorem setOf_snoc (ns : List Int) (n : Int) : setOf (ns ++ [n]) = putK (setOf ns) (.inl n) (.bl true) := by
  unfold setOf
  rw [List.foldl_append]
  rfl
theorem setOf_length (ns : List Int) : (setOf ns).length ≤ ns.length := by
  have : ∀ (ns : List Int) (acc : List (Key × V)), (ns.foldl (fun acc n => putK acc (.inl n) (.bl true)) acc).length ≤ acc.length + ns.length := by
    intro ns
    induction ns with
    | nil => intro acc; exact Nat.le_refl _
    | cons n r ih =>
      intro acc
      refine Nat.le_trans (ih (putK acc (.inl n) (.bl true))) ?_
      have := length_putK acc (.inl n : Key) (.bl true)
      rw [List.length_cons]
      omega
  have h := this ns []
  rw [List.length_nil, Nat.zero_add] at h
  exact h
theorem setOf_has (ns : List Int) (j : Int) : (valV (setOf ns) (.inl j)).isSome = ns.contains j := by
  have : ∀ (ns : List Int) (acc : List (Key × V)), (valV (ns.foldl (fun acc n => putK acc (.inl n) (.bl true)) acc) (.inl j)).isSome = ((valV acc (.inl j)).isSome || ns.contains j) := by
    intro ns
    induction ns with
    | nil => intro acc; simp
    | cons n r ih =>
      intro acc
      show (valV (r.foldl (fun acc n => putK acc (.inl n) (.bl true)) (putK acc (.inl n) (.bl true))) (.inl j)).isSome = _
      rw [ih, valV_put, List.contains_cons]
      by_cases e : j = n
      · subst e
        simp
      · have e2 : ¬ (Sum.inl j : Key) = Sum.inl n := fun z => e (Sum.inl.inj z)
        rw [if_neg e2, show (j == n) = false from beq_eq_false_iff_ne.mpr e, Bool.false_or]
  have h := this ns []
  rw [valV_nil] at h
  unfold setOf
  simpa using h
theorem take_snoc {α : Type} {l : List α} {i : Nat} {x : α} (h : l[i]? = some x) : l.take (i + 1) = l.take i ++ [x] := by
  rw [List.take_add_one, h]
  rfl
/-! ### rising, versions, links -/
def isRisingD : Dt → Bool
  | .tup ds => ds.all isIntD && adj ltD ds
  | _ => false
def geZ : Dt → Bool
  | .int i => decide (0 ≤ i)
  | _ => false
def areVersionsD : Dt → Bool
  | .tup ds => (ds.all isIntD && adj ltD ds) && (decide (ds.length ≤ 400) && ds.all geZ)
  | _ => false
def isLinkD (ns : List Int) : Dt → Bool
  | .tup [.int a, .int b] => ns.contains a && (ns.contains b && decide (b < a))
  | _ => false
def areLinksD (ns : List Int) : Dt → Bool
  | .tup ds => decide (ds.length ≤ 2000) && (ds.all (isLinkD ns) && adj ltD ds)
  | _ => false
def isShapeD : Dt → Bool
  | .tup [v, l] => areVersionsD v && areLinksD (match v with | .tup ds => ints1 ds | _ => []) l
  | _ => false
theorem isLinkD_two (ns : List Int) (a b : Int) : isLinkD ns (.tup [.int a, .int b]) = (ns.contains a && (ns.contains b && decide (b < a))) := rfl
theorem isRisingD_tup (ds : List Dt) : isRisingD (.tup ds) = (ds.all isIntD && adj ltD ds) := rfl
theorem areVersionsD_tup (ds : List Dt) : areVersionsD (.tup ds) = ((ds.all isIntD && adj ltD ds) && (decide (ds.length ≤ 400) && ds.all geZ)) := rfl
theorem areLinksD_tup (ns : List Int) (ds : List Dt) : areLinksD ns (.tup ds) = (decide (ds.length ≤ 2000) && (ds.all (isLinkD ns) && adj ltD ds)) := rfl
def isIntsD : Dt → Bool
  | .tup ds => ds.all isIntD
  | _ => false
def sp_is_intsD (_ : PySem.W.Frag) : Sp := fun vs H Q _ => ∃ (x : V) (d : Dt), vs = [x] ∧ At H x d ∧ ∀ H', Same H H' → Q (.bl (isIntsD d)) H'
theorem len_is_intsD {K : PySem.W.Frag} {vs : List V} {H : Hp} {Q : VK} {E : XK} (h : sp_is_intsD K vs H Q E) : vs.length = 1 := by
  obtain ⟨_, _, rfl, _⟩ := h
  rfl
def sp_is_rising (_ : PySem.W.Frag) : Sp := fun vs H Q _ => ∃ (x : V) (d : Dt), vs = [x] ∧ At H x d ∧ ∀ H', Same H H' → Q (.bl (isRisingD d)) H'
def sp_are_versions (_ : PySem.W.Frag) : Sp := fun vs H Q _ => ∃ (x : V) (d : Dt), vs = [x] ∧ At H x d ∧ ∀ H', Same H H' → Q (.bl (areVersionsD d)) H'
def sp_is_link (_ : PySem.W.Frag) : Sp := fun vs H Q _ => ∃ (x : V) (d : Dt) (k : Addr) (kvs : List (Key × V)) (ns : List Int), vs = [x, .ref k] ∧ At H x d ∧ H k = some (.dK kvs) ∧ (∀ i : Int, (valV kvs (.inl i)).isSome = ns.contains i) ∧ Q (.bl (isLinkD ns d)) H
def sp_are_links (_ : PySem.W.Frag) : Sp := fun vs H Q _ => ∃ (x y : V) (d : Dt) (ns : List Int), vs = [x, y] ∧ At H x d ∧ At H y (.tup (ns.map Dt.int)) ∧ ∀ H', Same H H' → Q (.bl (areLinksD ns d)) H'
abbrev N_is_ints : List Str := ["thing", "part"]
def t_is_ints (K : PySem.W.Frag) : TS := (tRet (tAndV (tCB (rIsi K) (tCons (tVar 0) (tCons (tC (.ty "tuple")) tNil))) (tCB (rAll K) (tCons (tLc (iTup K (tVar 0)) (gName 1) tYes (tCall (sp_is_int K) [] E0 (tCons (tVar 1) tNil)) [1]) tNil))))
abbrev N_is_rising : List Str := ["thing"]
def t_is_rising (K : PySem.W.Frag) : TS := (tRet (tAndV (tCall (sp_is_intsD K) [] E0 (tCons (tVar 0) tNil)) (tCall (sp_rises K) [] E0 (tCons (tVar 0) tNil))))
abbrev N_are_versions : List Str := ["thing", "version"]
def t_are_versions (K : PySem.W.Frag) : TS := (tRet (tAndV (tCall (sp_is_rising K) [] E0 (tCons (tVar 0) tNil)) (tAndV (tOp rLeI (tCB (fLen K) (tCons (tVar 0) tNil)) (tC (.int 400))) (tCB (rAll K) (tCons (tLc (iTup K (tVar 0)) (gName 1) tYes (tOp rGeI (tVar 1) (tC (.int 0))) [1]) tNil)))))
abbrev N_is_link : List Str := ["thing", "known"]
def t_is_link (K : PySem.W.Frag) : TS := (tSeq (tIfS (tOr (tNot (tB (tCall (sp_is_pair K) [] E0 (tCons (tVar 0) tNil)))) (tOr (tNot (tB (tCall (sp_is_int K) [] E0 (tCons (tOp (rIx K) (tVar 0) (tC (.int 0))) tNil)))) (tNot (tB (tCall (sp_is_int K) [] E0 (tCons (tOp (rIx K) (tVar 0) (tC (.int 1))) tNil)))))) (tRet (tC (.bl false))) tNext)
    (tRet (tAndV (tDIn (tOp (rIx K) (tVar 0) (tC (.int 0))) (tVar 1)) (tAndV (tDIn (tOp (rIx K) (tVar 0) (tC (.int 1))) (tVar 1)) (tOp rLtI (tOp (rIx K) (tVar 0) (tC (.int 1))) (tOp (rIx K) (tVar 0) (tC (.int 0))))))))
abbrev N_are_links : List Str := ["thing", "versions", "known", "version", "link"]
def t_are_links (K : PySem.W.Frag) : TS := (tSeq (tIfS (tOr (tNot (tB (tCB (rIsi K) (tCons (tVar 0) (tCons (tC (.ty "tuple")) tNil))))) (tTest (tOp rGtI (tCB (fLen K) (tCons (tVar 0) tNil)) (tC (.int 2000))))) (tRet (tC (.bl false))) tNext)
    (tSeq (tAsg (tDc (iTup K (tVar 1)) (gName 3) tYes (tVar 3) (tC (.bl true)) [3]) (gName 2))
    (tRet (tAndV (tCB (rAll K) (tCons (tLc (iTup K (tVar 0)) (gName 4) tYes (tCall (sp_is_link K) [] E0 (tCons (tVar 4) (tCons (tVar 2) tNil))) [4]) tNil)) (tCall (sp_rises K) [] E0 (tCons (tVar 0) tNil))))))
theorem cmp_of {H : Hp} {x y : V} {d e : Dt} (ax : At H x d) (ay : At H y e) (h : (∃ i j, d = .int i ∧ e = .int j) ∨ (∃ a b c f, d = .tup [.int a, .int b] ∧ e = .tup [.int c, .int f])) : Cmp H x y (ltD d e) := by
  rcases h with ⟨i, j, rfl, rfl⟩ | ⟨a, b, c, f, rfl, rfl⟩
  · exact .inl ⟨i, j, ax.int_inv, ay.int_inv, rfl⟩
  · obtain ⟨p, u, v, rfl, hp, a1, a2⟩ := ax.pair_inv
    obtain ⟨q, s, t, rfl, hq, b1, b2⟩ := ay.pair_inv
    rw [a1.int_inv, a2.int_inv] at hp
    rw [b1.int_inv, b2.int_inv] at hq
    exact .inr ⟨p, q, [a, b], [c, f], rfl, rfl, hp, hq, rfl⟩
section
variable {K : PySem.W.Frag} {vs : List V} {H : Hp} {Q : VK} {E : XK}
theorem len_is_rising (h : sp_is_rising K vs H Q E) : vs.length = 1 := by
  obtain ⟨_, _, rfl, _⟩ := h
  rfl
theorem len_are_versions (h : sp_are_versions K vs H Q E) : vs.length = 1 := by
  obtain ⟨_, _, rfl, _⟩ := h
  rfl
theorem len_is_link (h : sp_is_link K vs H Q E) : vs.length = 2 := by
  obtain ⟨_, _, _, _, _, rfl, _⟩ := h
  rfl
theorem len_are_links (h : sp_are_links K vs H Q E) : vs.length = 2 := by
  obtain ⟨_, _, _, _, rfl, _⟩ := h
  rfl
theorem map_all {α : Type} (f : α → Bool) (l : List α) : (l.map f).all id = l.all f := by
  rw [List.all_map]
  rfl
/-- rises of a tuple that is data of which all are ints, or all pairs of ints -/
theorem rises_at {p : Addr} {xs : List V} {ds : List Dt} {R : VK} (hp : H p = some (.tup xs)) (hz : xs.length ≤ 100000) (hl : xs.length = ds.length) (ha : ∀ (i : Nat) (x : V) (d : Dt), xs[i]? = some x → ds[i]? = some d → At H x d)
    (hd : (∀ d ∈ ds, ∃ i, d = .int i) ∨ ∀ d ∈ ds, ∃ a b, d = .tup [.int a, .int b]) (k : ∀ H', Same H H' → R (.bl (adj ltD ds)) H') : sp_rises K [.ref p] H R E := by
  refine ⟨p, xs, adjL ltD ds, rfl, hp, hz, by rw [adjL_length, hl], fun i x y b hx hy hb => ?_, k⟩
  have h1 : i < ds.length := by
    rw [← hl]
    exact (List.getElem?_eq_some_iff.mp hx).1
  have h2 : i + 1 < ds.length := by
    rw [← hl]
    exact (List.getElem?_eq_some_iff.mp hy).1
  have e1 := List.getElem?_eq_getElem h1
  have e2 := List.getElem?_eq_getElem h2
  rw [adjL_get e1 e2 hb]
  refine cmp_of (ha i x _ hx e1) (ha (i + 1) y _ hy e2) ?_
  rcases hd with hd | hd
  · obtain ⟨a, ea⟩ := hd _ (List.getElem_mem h1)
    obtain ⟨b, eb⟩ := hd _ (List.getElem_mem h2)
    exact .inl ⟨a, b, ea, eb⟩
  · obtain ⟨a, b, ea⟩ := hd _ (List.getElem_mem h1)
    obtain ⟨c, f, eb⟩ := hd _ (List.getElem_mem h2)
    exact .inr ⟨a, b, c, f, ea, eb⟩
theorem mem_int {ds : List Dt} (h : ds.all isIntD = true) : ∀ d ∈ ds, ∃ i, d = .int i := fun d hd => by
  have := List.all_eq_true.mp h d hd
  cases d with
  | int i => exact ⟨i, rfl⟩
  | _ => cases this
theorem pure_is_intsD (h : sp_is_intsD K vs H Q E) : t_is_ints K { nx := fun _ H' => Q .non H', rt := Q } (start N_is_ints vs) H := by
  obtain ⟨x, d, rfl, a, k⟩ := h
  refine ⟨_, rfl, isiTup a ⟨_, rfl, ?_⟩⟩
  cases a with
  | @tup p xs ds hp hz hl ha =>
    refine iteT ⟨_, rfl, p, rfl, ⟨_, sqT hp⟩, fun D nD => ?_⟩
    have up : ∀ acc, Same H (upd H D (.lst acc)) := fun acc b o e => updN (ne_of_none e nD) e
    refine lc_mapT (K := K) (a := p) (xs := xs) (ys := (ds.map isIntD).map V.bl) (fun acc => sqT (up acc _ _ hp)) (by simp [hl]) hz (fun i x y acc R hx hy r => ?_) ?_ mono_yes mono_gName
    · rw [List.getElem?_map, List.getElem?_map] at hy
      cases e : ds[i]? with
      | none => rw [e] at hy; cases hy
      | some d =>
        rw [e] at hy
        cases Option.some.inj hy
        exact ⟨rfl, ⟨_, rfl, x, d, rfl, (ha i x d hx e).mono (up acc), r⟩⟩
    · refine ⟨D, _, rfl, sqL updS, ?_⟩
      rw [map_all]
      exact k _ (up _)
  | _ => exact iteF (k _ (Same.refl H))
theorem pure_is_rising (h : sp_is_rising K vs H Q E) : t_is_rising K { nx := fun _ H' => Q .non H', rt := Q } (start N_is_rising vs) H := by
  obtain ⟨x, d, rfl, a, k⟩ := h
  refine ⟨_, rfl, x, d, rfl, a, fun H1 s1 => ⟨_, rfl, ?_⟩⟩
  cases a with
  | @tup p xs ds hp hz hl ha =>
    show if ds.all isIntD = true then _ else _
    refine ite2 (fun e => ?_) (fun e => ?_)
    · refine ⟨_, rfl, rises_at (K := K) (E := E0) (ds := ds) (s1 _ _ hp) hz hl (fun i x d h1 h2 => (ha i x d h1 h2).mono s1) (.inl (mem_int e)) fun H' s => ?_⟩
      have := k H' (s1.trans s)
      rw [isRisingD_tup, e, Bool.true_and] at this
      exact this
    · have e2 : ds.all isIntD = false := by
        cases q : ds.all isIntD with
        | true => exact absurd q e
        | false => rfl
      have := k _ s1
      rw [isRisingD_tup, e2, Bool.false_and] at this
      exact this
  | _ => exact iteF (k _ s1)
theorem pure_are_versions (h : sp_are_versions K vs H Q E) : t_are_versions K { nx := fun _ H' => Q .non H', rt := Q } (start N_are_versions vs) H := by
  obtain ⟨x, d, rfl, a, k⟩ := h
  refine ⟨_, rfl, x, d, rfl, a, fun H1 s1 => ⟨_, rfl, ?_⟩⟩
  have k1 : ∀ H', Same H1 H' → Q (.bl (areVersionsD d)) H' := fun H' s => k H' (s1.trans s)
  have a1 := a.mono s1
  cases a1 with
  | @tup p xs ds hp hz hl ha =>
    show if (ds.all isIntD && adj ltD ds) = true then _ else _
    refine ite2 (fun e => ?_) (fun e => ?_)
    · refine ⟨_, rfl, lenT hp ⟨_, _, rfl, rfl, _, rfl, ite2 (fun e2 => ?_) (fun e2 => ?_)⟩⟩
      · have e3 : decide (ds.length ≤ 400) = true := by
          have : (xs.length : Int) ≤ 400 := of_decide_eq_true e2
          exact decide_eq_true (by omega)
        refine ⟨_, rfl, p, rfl, ⟨_, sqT hp⟩, fun D nD => ?_⟩
        have up : ∀ acc, Same H1 (upd H1 D (.lst acc)) := fun acc b o e => updN (ne_of_none e nD) e
        refine lc_mapT (K := K) (a := p) (xs := xs) (ys := (ds.map geZ).map V.bl) (fun acc => sqT (up acc _ _ hp)) (by simp [hl]) hz (fun i x y acc R hx hy r => ?_) ?_ mono_yes mono_gName
        · rw [List.getElem?_map, List.getElem?_map] at hy
          cases ee : ds[i]? with
          | none => rw [ee] at hy; cases hy
          | some d =>
            rw [ee] at hy
            cases Option.some.inj hy
            rw [Bool.and_eq_true] at e
            obtain ⟨z, rfl⟩ := mem_int e.1 d (List.mem_of_getElem? ee)
            have := (ha i x _ hx ee).int_inv
            subst this
            exact ⟨rfl, ⟨_, rfl, _, _, rfl, rfl, r⟩⟩
        · refine ⟨D, _, rfl, sqL updS, ?_⟩
          rw [map_all]
          have := k1 _ (up ((ds.map geZ).map V.bl))
          rw [areVersionsD_tup, e, e3, Bool.true_and, Bool.true_and] at this
          exact this
      · have e3 : decide (ds.length ≤ 400) = false := decide_eq_false fun z => e2 (decide_eq_true (by omega))
        have := k1 _ (Same.refl H1)
        rw [areVersionsD_tup, e, e3, Bool.true_and, Bool.false_and] at this
        exact this
    · have e2 : (ds.all isIntD && adj ltD ds) = false := by
        cases q : (ds.all isIntD && adj ltD ds) with
        | true => exact absurd q e
        | false => rfl
      have := k1 _ (Same.refl H1)
      rw [areVersionsD_tup, e2, Bool.false_and] at this
      exact this
  | _ => exact iteF (k1 _ (Same.refl H1))
theorem link_no {ns : List Int} {e f : Dt} (h : ¬ (isIntD e = true ∧ isIntD f = true)) : isLinkD ns (.tup [e, f]) = false := by
  cases e <;> cases f <;> first | rfl | exact absurd ⟨rfl, rfl⟩ h
theorem pure_is_link (h : sp_is_link K vs H Q E) : t_is_link K { nx := fun _ H' => Q .non H', rt := Q } (start N_is_link vs) H := by
  obtain ⟨x, d, kk, kvs, ns, rfl, a, hk, hh, k⟩ := h
  refine ⟨_, rfl, x, d, rfl, a, _, rfl, ?_⟩
  by_cases hp : isPairD d = true
  · rw [hp]
    refine iteF ?_
    cases d with
    | tup ds =>
      have h2 : ds.length = 2 := of_decide_eq_true hp
      match ds, h2 with
      | [e, f], _ =>
        obtain ⟨p, y, z, rfl, hpp, ay, az⟩ := a.pair_inv
        refine ⟨_, rfl, ixT hpp rfl ⟨y, e, rfl, ay, _, rfl, ?_⟩⟩
        by_cases he : isIntD e = true
        · rw [he]
          refine iteF ⟨_, rfl, ixT hpp rfl ⟨z, f, rfl, az, _, rfl, ?_⟩⟩
          by_cases hf : isIntD f = true
          · rw [hf]
            refine iteF ?_
            cases e with
            | int i =>
              cases f with
              | int j =>
                have ey := ay.int_inv
                have ez := az.int_inv
                subst ey ez
                refine ⟨_, rfl, ixT hpp rfl ⟨_, rfl, kk, _, rfl, DGet.k (k := Sum.inl i) hk, _, rfl, ?_⟩⟩
                rw [hh]
                refine ite2 (fun e1 => ?_) (fun e1 => ?_)
                · refine ⟨_, rfl, ixT hpp rfl ⟨_, rfl, kk, _, rfl, DGet.k (k := Sum.inl j) hk, _, rfl, ?_⟩⟩
                  rw [hh]
                  refine ite2 (fun e2 => ?_) (fun e2 => ?_)
                  · refine ⟨_, rfl, ixT hpp rfl ⟨_, rfl, ixT hpp rfl ⟨_, _, rfl, rfl, ?_⟩⟩⟩
                    rw [isLinkD_two, e1, e2, Bool.true_and, Bool.true_and] at k
                    exact k
                  · rw [isLinkD_two, e1, Bool.eq_false_iff.mpr e2, Bool.true_and, Bool.false_and] at k
                    exact k
                · rw [isLinkD_two, Bool.eq_false_iff.mpr e1, Bool.false_and] at k
                  exact k
              | _ => cases hf
            | _ => cases he
          · rw [Bool.eq_false_iff.mpr hf]
            refine iteT ?_
            rw [link_no (fun q => hf q.2)] at k
            exact k
        · rw [Bool.eq_false_iff.mpr he]
          refine iteT ?_
          rw [link_no (fun q => he q.1)] at k
          exact k
    | _ => cases hp
  · rw [Bool.eq_false_iff.mpr hp]
    refine iteT ?_
    have e : isLinkD ns d = false := by
      cases d with
      | tup ds =>
        match ds, hp with
        | [], _ => rfl
        | [x], _ => cases x <;> rfl
        | [x, y], hp => exact absurd rfl hp
        | x :: y :: z :: r, _ => cases x <;> first | rfl | (cases y <;> rfl)
      | _ => rfl
    rw [e] at k
    exact k
theorem mem_link {ns : List Int} {ds : List Dt} (h : ds.all (isLinkD ns) = true) : ∀ d ∈ ds, ∃ a b, d = .tup [.int a, .int b] := fun d hd => by
  have := List.all_eq_true.mp h d hd
  unfold isLinkD at this
  split at this
  · exact ⟨_, _, rfl⟩
  · cases this
theorem pure_are_links (h : sp_are_links K vs H Q E) : t_are_links K { nx := fun _ H' => Q .non H', rt := Q } (start N_are_links vs) H := by
  obtain ⟨x, y, d, ns, rfl, a, ay, k⟩ := h
  refine ⟨_, rfl, isiTup a ⟨_, rfl, ?_⟩⟩
  cases a with
  | @tup p xs ds hp hz hl ha =>
    refine iteF ⟨_, rfl, lenT hp ⟨_, _, rfl, rfl, _, rfl, ite2 (fun e => ?_) (fun e => ?_)⟩⟩
    · have e2 : decide (ds.length ≤ 2000) = false := decide_eq_false fun z => by
        have : (2000 : Int) < xs.length := of_decide_eq_true e
        omega
      have := k _ (Same.refl H)
      rw [areLinksD_tup, e2, Bool.false_and] at this
      exact this
    · have e2 : decide (ds.length ≤ 2000) = true := by
        refine decide_eq_true ?_
        have : ¬ (2000 : Int) < xs.length := fun z => e (decide_eq_true z)
        omega
      obtain ⟨q, rfl, hq, hnz⟩ := ay.to_ints
      -- known = {version: True for version in versions}
      refine ⟨_, rfl, q, rfl, ⟨_, sqT hq⟩, fun D nD => ?_⟩
      have up : ∀ kvs, Same H (upd H D (.dK kvs)) := fun kvs b o e => updN (ne_of_none e nD) e
      refine dc_tup (K := K) (a := q) (xs := ns.map V.int) (fun i H2 => H2 = upd H D (.dK (setOf (ns.take i)))) (by rw [List.take_zero]; rfl) (fun i H2 _ e => by rw [e]; exact sqT (up _ _ _ hq)) (fun i x H2 hx e => ?_) (fun H2 e => ?_)
      · subst e
        rw [List.getElem?_map] at hx
        cases en : ns[i]? with
        | none => rw [en] at hx; cases hx
        | some n =>
          rw [en] at hx
          cases Option.some.inj hx
          refine ⟨rfl, ⟨_, rfl, setOf (ns.take i), Sum.inl n, rfl, updS, ?_, ?_⟩⟩
          · refine Nat.lt_of_le_of_lt (Nat.le_trans (setOf_length _) ?_ : _ ≤ 100000) (by decide)
            rw [List.length_take]
            omega
          · rw [upd_upd, take_snoc en, setOf_snoc]
      · subst e
        rw [List.length_map, List.take_length]
        -- all([is_link(link, known) for link in thing])
        refine ⟨_, rfl, p, rfl, ⟨_, sqT (up _ _ _ hp)⟩, fun M nM => ?_⟩
        have nMD : M ≠ D := fun z => by rw [z, updS] at nM; cases nM
        have s2 : ∀ acc, Same (upd H D (.dK (setOf ns))) (upd (upd H D (.dK (setOf ns))) M (.lst acc)) := fun acc b o e => updN (ne_of_none e nM) e
        refine lc_mapT (K := K) (a := p) (xs := xs) (ys := (ds.map (isLinkD ns)).map V.bl) (fun acc => sqT (s2 acc _ _ (up _ _ _ hp))) (by simp [hl]) hz (fun i x y acc R hx hy r => ?_) ?_ mono_yes mono_gName
        · rw [List.getElem?_map, List.getElem?_map] at hy
          cases ee : ds[i]? with
          | none => rw [ee] at hy; cases hy
          | some d =>
            rw [ee] at hy
            cases Option.some.inj hy
            exact ⟨rfl, ⟨_, rfl, _, rfl, x, d, D, setOf ns, ns, rfl, (ha i x d hx ee).mono ((up _).trans (s2 acc)), updN nMD.symm updS, setOf_has ns, r⟩⟩
        · refine ⟨M, _, rfl, sqL updS, _, rfl, ?_⟩
          rw [map_all]
          show if ds.all (isLinkD ns) = true then _ else _
          have kk : ∀ H', Same (upd (upd H D (.dK (setOf ns))) M (.lst ((ds.map (isLinkD ns)).map V.bl))) H' → Q (.bl (areLinksD ns (.tup ds))) H' := fun H' s => k H' (((up _).trans (s2 _)).trans s)
          refine ite2 (fun e3 => ?_) (fun e3 => ?_)
          · refine ⟨_, rfl, rises_at (K := K) (E := E0) (ds := ds) (s2 _ _ _ (up _ _ _ hp)) hz hl (fun i x d h1 h2 => (ha i x d h1 h2).mono ((up _).trans (s2 _))) (.inr (mem_link e3)) fun H' s => ?_⟩
            have := kk H' s
            rw [areLinksD_tup, e2, e3, Bool.true_and, Bool.true_and] at this
            exact this
          · have := kk _ (Same.refl _)
            rw [areLinksD_tup, e2, Bool.eq_false_iff.mpr e3, Bool.true_and, Bool.false_and] at this
            exact this
  | _ => exact iteT (k _ (Same.refl H))
end
end Fw

set_option Elab.async false
set_option linter.all false
set_option maxRecDepth 100000
set_option maxHeartbeats 4000000
namespace Fw
open PySem L2 RZ RT
/-! ### good shapes -/
def lkLt (a b : Int × Int) : Prop := a.1 < b.1 ∨ (a.1 = b.1 ∧ a.2 < b.2)
structure Good (vs : List Int) (ls : List (Int × Int)) : Prop where
  inc : vs.Pairwise (· < ·)
  nn : ∀ v ∈ vs, 0 ≤ v
  mem : ∀ l ∈ ls, l.1 ∈ vs ∧ l.2 ∈ vs ∧ l.2 < l.1
  lex : ls.Pairwise lkLt
theorem good_nil : Good [] [] := ⟨.nil, (fun _ h => by cases h), (fun _ h => by cases h), .nil⟩
/-- the links at these addresses -/
def LkAt (H : Hp) (rs : List Addr) (ls : List (Int × Int)) : Prop := rs.length = ls.length ∧ ∀ (i : Nat) (a : Addr) (l : Int × Int), rs[i]? = some a → ls[i]? = some l → H a = some (.tup [.int l.1, .int l.2])
def ShapeAt (H : Hp) (p : Addr) (vs : List Int) (ls : List (Int × Int)) : Prop := ∃ (q r : Addr) (rs : List Addr), H p = some (.tup [.ref q, .ref r]) ∧ H q = some (.tup (vs.map V.int)) ∧ H r = some (.tup (rs.map V.ref)) ∧ LkAt H rs ls
theorem LkAt.mono {H H' : Hp} {rs : List Addr} {ls : List (Int × Int)} (h : LkAt H rs ls) (s : ∀ (a : Addr) (xs : List V), H a = some (.tup xs) → H' a = some (.tup xs)) : LkAt H' rs ls := ⟨h.1, fun i a l h1 h2 => s _ _ (h.2 i a l h1 h2)⟩
theorem ShapeAt.mono {H H' : Hp} {p : Addr} {vs : List Int} {ls : List (Int × Int)} (h : ShapeAt H p vs ls) (s : ∀ (a : Addr) (xs : List V), H a = some (.tup xs) → H' a = some (.tup xs)) : ShapeAt H' p vs ls := by
  obtain ⟨q, r, rs, h1, h2, h3, h4⟩ := h
  exact ⟨q, r, rs, s _ _ h1, s _ _ h2, s _ _ h3, h4.mono s⟩
theorem LkAt.snoc {H : Hp} {rs : List Addr} {ls : List (Int × Int)} {T : Addr} {l : Int × Int} (h : LkAt H rs ls) (hT : H T = some (.tup [.int l.1, .int l.2])) : LkAt H (rs ++ [T]) (ls ++ [l]) := by
  refine ⟨by rw [List.length_append, List.length_append, h.1]; rfl, fun i a m h1 h2 => ?_⟩
  by_cases hi : i < rs.length
  · rw [List.getElem?_append_left hi] at h1
    rw [List.getElem?_append_left (by rw [← h.1]; exact hi)] at h2
    exact h.2 i a m h1 h2
  · have hi2 : i < (rs ++ [T]).length := (List.getElem?_eq_some_iff.mp h1).1
    rw [List.length_append, List.length_singleton] at hi2
    have e : i = rs.length := by omega
    rw [List.getElem?_append_right (by omega), e, Nat.sub_self] at h1
    rw [List.getElem?_append_right (by rw [← h.1]; omega), e, h.1, Nat.sub_self] at h2
    cases Option.some.inj h1
    cases Option.some.inj h2
    exact hT
theorem Dk.upd {c D q : Addr} {ns : List Int} {t : Nat} {H : Hp} {o : HO} (d : Dk c D ns t H) (h1 : q ≠ c) (h2 : q ≠ D) : Dk c D ns t (L2.upd H q o) := by
  obtain ⟨a, b, e, i, n, u, h, r⟩ := d
  exact ⟨a, updN h1.symm b, e, i, n, u, updN h2.symm h, r⟩
theorem Dk.le {c D : Addr} {ns : List Int} {t t' : Nat} {H : Hp} (d : Dk c D ns t H) (h : t ≤ t') : Dk c D ns t' H := by
  obtain ⟨a, b, e, i, n, u, hh, r1, r2, r3, r4, r5⟩ := d
  exact ⟨a, b, e, i, n, u, hh, r1, r2, r3, r4, by omega⟩
theorem Dk.someD {c D : Addr} {ns : List Int} {t : Nat} {H : Hp} (d : Dk c D ns t H) : ∃ xs, H D = some (.lst xs) := by
  obtain ⟨_, _, _, _, _, _, h, _⟩ := d
  exact ⟨_, h⟩
theorem Dk.someC {c D : Addr} {ns : List Int} {t : Nat} {H : Hp} (d : Dk c D ns t H) : ∃ xs, H c = some (.lst xs) := ⟨_, d.2.1⟩
theorem Dk.neD {c D q : Addr} {ns : List Int} {t : Nat} {H : Hp} (d : Dk c D ns t H) (h : H q = none) : q ≠ D := by
  obtain ⟨xs, e⟩ := d.someD
  exact (ne_of_none e h).symm
theorem Dk.neC {c D q : Addr} {ns : List Int} {t : Nat} {H : Hp} (d : Dk c D ns t H) (h : H q = none) : q ≠ c := by
  obtain ⟨xs, e⟩ := d.someC
  exact (ne_of_none e h).symm
/-- all but the deck stands -/
def Kp (D : Addr) (H H' : Hp) : Prop := ∀ b o, H b = some o → b ≠ D → H' b = some o
theorem Kp.refl (D : Addr) (H : Hp) : Kp D H H := fun _ _ e _ => e
theorem Kp.trans {D : Addr} {H H1 H2 : Hp} (a : Kp D H H1) (b : Kp D H1 H2) : Kp D H H2 := fun x o e n => b x o (a x o e n) n
theorem Kp.fr {D : Addr} {H H' : Hp} (f : ∀ b, b ≠ D → H' b = H b) : Kp D H H' := fun b o e n => by rw [f b n]; exact e
theorem Kp.new {D q : Addr} {H : Hp} {o : HO} (n : H q = none) : Kp D H (L2.upd H q o) := fun b u e _ => updN (ne_of_none e n) e
theorem Kp.of_same {D : Addr} {H H' : Hp} (s : Same H H') : Kp D H H' := fun b o e _ => s b o e
theorem Kp.tup {D : Addr} {H H' : Hp} {c : Addr} {ns : List Int} {t : Nat} (k : Kp D H H') (d : Dk c D ns t H) (a : Addr) (xs : List V) (h : H a = some (.tup xs)) : H' a = some (.tup xs) := by
  obtain ⟨ys, e⟩ := d.someD
  exact k a _ h (ne_of h e (by intro z; cases z))
/-- what was free at first, behind what keeps -/
theorem Kp.free {D q : Addr} {H H' : Hp} (k : Kp D H H') (h : H' q = none) (n : q ≠ D) : H q = none := by
  cases e : H q with
  | none => rfl
  | some o => rw [k q o e n] at h; cases h
/-- where two lists of one's own grow: versions and links -/
structure SI (H0 : Hp) (c D LV LL : Addr) (ns : List Int) (t : Nat) (vs : List Int) (rs : List Addr) (ls : List (Int × Int)) (H : Hp) : Prop where
  dk : Dk c D ns t H
  keep : Kp D H0 H
  hv : H LV = some (.lst (vs.map V.int))
  hl : H LL = some (.lst (rs.map V.ref))
  pr : LkAt H rs ls
  d0 : ∃ t0, Dk c D ns t0 H0
  v0 : H0 LV = none
  l0 : H0 LL = none
  ne : LV ≠ LL
section
variable {H0 H H' : Hp} {c D LV LL q : Addr} {ns : List Int} {t t' : Nat} {vs : List Int} {rs : List Addr} {ls : List (Int × Int)} {o : HO}
theorem SI.vD (s : SI H0 c D LV LL ns t vs rs ls H) : LV ≠ D := s.d0.choose_spec.neD s.v0
theorem SI.vC (s : SI H0 c D LV LL ns t vs rs ls H) : LV ≠ c := s.d0.choose_spec.neC s.v0
theorem SI.lD (s : SI H0 c D LV LL ns t vs rs ls H) : LL ≠ D := s.d0.choose_spec.neD s.l0
theorem SI.lC (s : SI H0 c D LV LL ns t vs rs ls H) : LL ≠ c := s.d0.choose_spec.neC s.l0
theorem SI.draw (s : SI H0 c D LV LL ns t vs rs ls H) (d : Dk c D ns t' H') (f : ∀ b, b ≠ D → H' b = H b) : SI H0 c D LV LL ns t' vs rs ls H' :=
  ⟨d, s.keep.trans (.fr f), by rw [f _ s.vD]; exact s.hv, by rw [f _ s.lD]; exact s.hl, s.pr.mono fun a xs h => (Kp.fr f).tup s.dk a xs h, s.d0, s.v0, s.l0, s.ne⟩
theorem SI.new (s : SI H0 c D LV LL ns t vs rs ls H) (n : H q = none) : SI H0 c D LV LL ns t vs rs ls (upd H q o) :=
  ⟨s.dk.upd (s.dk.neC n) (s.dk.neD n), s.keep.trans (.new n), updN (ne_of_none s.hv n) s.hv, updN (ne_of_none s.hl n) s.hl, s.pr.mono fun a xs h => updN (ne_of_none h n) h, s.d0, s.v0, s.l0, s.ne⟩
theorem SI.addV (s : SI H0 c D LV LL ns t vs rs ls H) (x : Int) : SI H0 c D LV LL ns t (vs ++ [x]) rs ls (upd H LV (.lst (vs.map V.int ++ [.int x]))) :=
  ⟨s.dk.upd s.vC s.vD, fun b u e n => updN (ne_of_none e s.v0) (s.keep b u e n), by rw [updS, List.map_append]; rfl, updN s.ne.symm s.hl, s.pr.mono fun a xs h => updN (ne_of h s.hv (by intro z; cases z)) h, s.d0, s.v0, s.l0, s.ne⟩
theorem SI.addL (s : SI H0 c D LV LL ns t vs rs ls H) {T : Addr} {l : Int × Int} (hT : H T = some (.tup [.int l.1, .int l.2])) : SI H0 c D LV LL ns t vs (rs ++ [T]) (ls ++ [l]) (upd H LL (.lst (rs.map V.ref ++ [.ref T]))) :=
  ⟨s.dk.upd s.lC s.lD, fun b u e n => updN (ne_of_none e s.l0) (s.keep b u e n), updN s.ne s.hv, by rw [updS, List.map_append]; rfl, (s.pr.snoc hT).mono fun a xs h => updN (ne_of h s.hl (by intro z; cases z)) h, s.d0, s.v0, s.l0, s.ne⟩
theorem SI.le (s : SI H0 c D LV LL ns t vs rs ls H) (h : t ≤ t') : SI H0 c D LV LL ns t' vs rs ls H := ⟨s.dk.le h, s.keep, s.hv, s.hl, s.pr, s.d0, s.v0, s.l0, s.ne⟩
end
/-- what a maker of shapes promises: a good shape, new -/
def sp_mkshape (most0 lim : Nat) (len : Int → Nat → Prop) (lks : List Int → List (Int × Int) → Prop) : Sp := fun vs H Q _ => ∃ (c D : Addr) (ns : List Int) (t : Nat) (most : Int), vs = [.ref D, .int most] ∧ Dk c D ns t H ∧ 0 ≤ most ∧ most ≤ most0 ∧ t + lim < 1000000000 ∧
  ∀ (p : Addr) (ws : List Int) (ls : List (Int × Int)) (H' : Hp), Kp D H H' → Dk c D ns (t + lim) H' → ShapeAt H' p ws ls → Good ws ls → len most ws.length → lks ws ls → Q (.ref p) H'
abbrev sp_l_shape (_ : PySem.W.Frag) : Sp := sp_mkshape 60 4000 (fun most n => (n : Int) ≤ most) (fun ws ls => ls.length ≤ ws.length * ws.length)
theorem len_mkshape {a b : Nat} {l : Int → Nat → Prop} {lk : List Int → List (Int × Int) → Prop} {vs : List V} {H : Hp} {Q : VK} {E : XK} (h : sp_mkshape a b l lk vs H Q E) : vs.length = 2 := by
  obtain ⟨_, _, _, _, _, rfl, _⟩ := h
  rfl
theorem len_l_shape {K : PySem.W.Frag} {vs : List V} {H : Hp} {Q : VK} {E : XK} (h : sp_l_shape K vs H Q E) : vs.length = 2 := len_mkshape h
abbrev N_l_shape : List Str := ["_law_deck_here", "_law_most", "_law_versions", "_law_last", "_law_far", "_law_road", "_law_links", "_law_k", "_law_j", "_law_hit"]
def t_l_shape_h3 (K : PySem.W.Frag) : TS := (tIfS (tB (tVar 9)) (tDrop (tBM K "list" rAppend (tVar 6) (tCons (tTup (tCons (tVar 3) (tCons (tOp (rIx K) (tVar 2) (tVar 8)) tNil))) tNil))) tNext)
def t_l_shape_h2 (K : PySem.W.Frag) : TS := (tSeq (tIfS (tAnd (tTest (tOp rEq (tVar 5) (tC (.int 2)))) (tTest (tOp rEq (tVar 8) (tOp rSubI (tVar 7) (tC (.int 1)))))) (tAsg (tC (.bl true)) (gName 9)) tNext)
    (t_l_shape_h3 K))
def t_l_shape_h1 (K : PySem.W.Frag) : TS := (tSeq (tIfS (tAnd (tTest (tOp rEq (tVar 5) (tC (.int 1)))) (tTest (tOp rGtI (tOp rSubI (tVar 7) (tVar 8)) (tC (.int 2))))) (tAsg (tC (.bl false)) (gName 9)) tNext)
    (t_l_shape_h2 K))
def t_l_shape_app (K : PySem.W.Frag) : TS := (tDrop (tBM K "list" rAppend (tVar 2) (tCons (tVar 3) tNil)))
def t_l_shape_inner (K : PySem.W.Frag) : TS := (tSeq (tFor (iRng1 (tCons (tVar 7) tNil)) (gName 8) (tSeq (tAsg (tOp rEq (tCall (sp_l_draw K) [] E0 (tCons (tVar 0) (tCons (tOp (rIx K) (tLst (tCons (tC (.int 3)) (tCons (tC (.int 2)) (tCons (tC (.int 6)) (tCons (tC (.int 9)) tNil))))) (tVar 5)) tNil))) (tC (.int 0))) (gName 9))
    (t_l_shape_h1 K)))
    (t_l_shape_app K))
def t_l_shape_end (K : PySem.W.Frag) : TS := (tRet (tTup (tCons (tCB (fTupleOf K) (tCons (tVar 2) tNil)) (tCons (tCB (fTupleOf K) (tCons (tVar 6) tNil)) tNil))))
def t_l_shape (K : PySem.W.Frag) : TS := (tSeq (tAsg (tLst tNil) (gName 2))
    (tSeq (tAsg (tUn rNegI (tC (.int 1))) (gName 3))
    (tSeq (tAsg (tCall (sp_l_draw K) [] E0 (tCons (tVar 0) (tCons (tC (.int 4)) tNil))) (gName 4))
    (tSeq (tAsg (tCall (sp_l_draw K) [] E0 (tCons (tVar 0) (tCons (tC (.int 4)) tNil))) (gName 5))
    (tSeq (tAsg (tLst tNil) (gName 6))
    (tSeq (tFor (iRng1 (tCons (tCall (sp_l_draw K) [] E0 (tCons (tVar 0) (tCons (tOp rAddI (tVar 1) (tC (.int 1))) tNil))) tNil)) (gName 7) (tSeq (tAsg (tOp rAddI (tOp rAddI (tVar 3) (tC (.int 1))) (tCall (sp_l_draw K) [] E0 (tCons (tVar 0) (tCons (tC (.int 3)) tNil)))) (gName 3))
    (tSeq (tIfS (tAnd (tTest (tOp rEq (tVar 4) (tC (.int 0)))) (tTest (tOp rEq (tCall (sp_l_draw K) [] E0 (tCons (tVar 0) (tCons (tC (.int 4)) tNil))) (tC (.int 0))))) (tAsg (tOp rAddI (tVar 3) (tCall (sp_l_draw K) [] E0 (tCons (tVar 0) (tCons (tOp rPowI (tC (.int 10)) (tC (.int 18))) tNil)))) (gName 3)) tNext)
    (t_l_shape_inner K))))
    (t_l_shape_end K)))))))
theorem pick4 {w : Int} (h0 : 0 ≤ w) (h1 : w < 4) : ∃ m : Int, atI [V.int 3, .int 2, .int 6, .int 9] w = some (.int m) ∧ 0 < m ∧ m ≤ 9 := by
  have : w = 0 ∨ w = 1 ∨ w = 2 ∨ w = 3 := by omega
  rcases this with rfl | rfl | rfl | rfl
  · exact ⟨3, rfl, by decide, by decide⟩
  · exact ⟨2, rfl, by decide, by decide⟩
  · exact ⟨6, rfl, by decide, by decide⟩
  · exact ⟨9, rfl, by decide, by decide⟩
/-- the links while those of one version are drawn: last is above all of vs -/
structure GI (vs : List Int) (ls : List (Int × Int)) (last : Int) (j : Nat) : Prop where
  inc : vs.Pairwise (· < ·)
  nn : ∀ v ∈ vs, 0 ≤ v
  top : ∀ v ∈ vs, v < last
  lz : 0 ≤ last
  mem : ∀ l ∈ ls, (l.1 ∈ vs ∨ l.1 = last) ∧ l.2 ∈ vs ∧ l.2 < l.1
  lex : ls.Pairwise lkLt
  new : ∀ l ∈ ls, l.1 < last ∨ (l.1 = last ∧ ∀ (i : Nat) (w : Int), j ≤ i → vs[i]? = some w → l.2 < w)
theorem GI.skip {vs : List Int} {ls : List (Int × Int)} {last : Int} {j : Nat} (g : GI vs ls last j) : GI vs ls last (j + 1) :=
  ⟨g.inc, g.nn, g.top, g.lz, g.mem, g.lex, fun l hl => (g.new l hl).imp id fun h => ⟨h.1, fun i w hi => h.2 i w (by omega)⟩⟩
theorem GI.hit {vs : List Int} {ls : List (Int × Int)} {last w : Int} {j : Nat} (g : GI vs ls last j) (hw : vs[j]? = some w) : GI vs (ls ++ [(last, w)]) last (j + 1) := by
  have hm : w ∈ vs := List.mem_of_getElem? hw
  refine ⟨g.inc, g.nn, g.top, g.lz, fun l hl => ?_, ?_, fun l hl => ?_⟩
  · rcases List.mem_append.mp hl with hl | hl
    · exact g.mem l hl
    · cases List.mem_singleton.mp hl
      exact ⟨.inr rfl, hm, g.top w hm⟩
  · refine List.pairwise_append.mpr ⟨g.lex, List.pairwise_singleton _ _, fun l hl m hm2 => ?_⟩
    cases List.mem_singleton.mp hm2
    rcases g.new l hl with h | h
    · exact .inl h
    · exact .inr ⟨h.1, h.2 j w (Nat.le_refl _) hw⟩
  · rcases List.mem_append.mp hl with hl | hl
    · exact g.skip.new l hl
    · cases List.mem_singleton.mp hl
      refine .inr ⟨rfl, fun i u hi hu => ?_⟩
      have h1 := (List.getElem?_eq_some_iff.mp hw)
      have h2 := (List.getElem?_eq_some_iff.mp hu)
      obtain ⟨l1, e1⟩ := h1
      obtain ⟨l2, e2⟩ := h2
      have := List.pairwise_iff_getElem.mp g.inc j i l1 l2 (by omega)
      show w < u
      rw [← e1, ← e2]
      exact this
theorem GI.close {vs : List Int} {ls : List (Int × Int)} {last : Int} {j : Nat} (g : GI vs ls last j) : Good (vs ++ [last]) ls := by
  refine ⟨List.pairwise_append.mpr ⟨g.inc, List.pairwise_singleton _ _, fun a ha b hb => ?_⟩, fun v hv => ?_, fun l hl => ?_, g.lex⟩
  · cases List.mem_singleton.mp hb
    exact g.top a ha
  · rcases List.mem_append.mp hv with hv | hv
    · exact g.nn v hv
    · cases List.mem_singleton.mp hv
      exact g.lz
  · obtain ⟨h1, h2, h3⟩ := g.mem l hl
    refine ⟨?_, List.mem_append_left _ h2, h3⟩
    rcases h1 with h1 | h1
    · exact List.mem_append_left _ h1
    · exact List.mem_append_right _ (by rw [h1]; exact List.mem_singleton.mpr rfl)
theorem GI.open {vs : List Int} {ls : List (Int × Int)} {last : Int} (g : Good vs ls) (h : ∀ v ∈ vs, v < last) (h0 : 0 ≤ last) : GI vs ls last 0 :=
  ⟨g.inc, g.nn, h, h0, fun l hl => ⟨.inl (g.mem l hl).1, (g.mem l hl).2⟩, g.lex, fun l hl => .inl (h _ (g.mem l hl).1)⟩
theorem shape_end {K : PySem.W.Frag} {H0 H : Hp} {c D LV LL : Addr} {ns : List Int} {t : Nat} {vs : List Int} {rs : List Addr} {ls : List (Int × Int)} {Q : VK} (s : SI H0 c D LV LL ns t vs rs ls H)
    (k : ∀ p H', Kp D H0 H' → Dk c D ns t H' → ShapeAt H' p vs ls → Q (.ref p) H') : ∀ p, H p = none → ∀ r, upd H p (.tup (vs.map V.int)) r = none → ∀ w, upd (upd H p (.tup (vs.map V.int))) r (.tup (rs.map V.ref)) w = none →
      Q (.ref w) (upd (upd (upd H p (.tup (vs.map V.int))) r (.tup (rs.map V.ref))) w (.tup [.ref p, .ref r])) := by
  intro p np r nr w nw
  have s1 : SI H0 c D LV LL ns t vs rs ls (upd H p (.tup (vs.map V.int))) := s.new np
  have s2 : SI H0 c D LV LL ns t vs rs ls (upd (upd H p (.tup (vs.map V.int))) r (.tup (rs.map V.ref))) := s1.new nr
  have s3 : SI H0 c D LV LL ns t vs rs ls (upd (upd (upd H p (.tup (vs.map V.int))) r (.tup (rs.map V.ref))) w (.tup [.ref p, .ref r])) := s2.new nw
  have npr : p ≠ r := fun e => by rw [← e, updS] at nr; cases nr
  have npw : p ≠ w := fun e => by rw [← e, upd_ne npr, updS] at nw; cases nw
  have nrw : r ≠ w := fun e => by rw [← e, updS] at nw; cases nw
  exact k w _ s3.keep s3.dk ⟨p, r, rs, updS, updN npw (updN npr updS), updN nrw updS, s3.pr⟩
/-- the state of the outer loop -/
def ShO (H : Hp) (c D LV LL : Addr) (ns : List Int) (most far road : Int) (t : Nat) (i : Nat) (σ : L2.St) (H' : Hp) : Prop := ∃ (ws : List Int) (rs : List Addr) (ls : List (Int × Int)) (last : Int) (z7 z8 z9 : Option V),
  σ = [some (.ref D), some (.int most), some (.ref LV), some (.int last), some (.int far), some (.int road), some (.ref LL), z7, z8, z9] ∧
    SI H c D LV LL ns (t + 3 + 64 * i) ws rs ls H' ∧ Good ws ls ∧ ws.length = i ∧ (∀ v ∈ ws, v ≤ last) ∧ -1 ≤ last ∧ ls.length ≤ i * i
/-- the state of the inner one -/
def ShN (H : Hp) (c D LV LL : Addr) (ns : List Int) (most far road last : Int) (t : Nat) (i : Nat) (ws : List Int) (j : Nat) (σ : L2.St) (H' : Hp) : Prop := ∃ (rs : List Addr) (ls : List (Int × Int)) (z8 z9 : Option V),
  σ = [some (.ref D), some (.int most), some (.ref LV), some (.int last), some (.int far), some (.int road), some (.ref LL), some (.int (0 + (i : Int))), z8, z9] ∧
    SI H c D LV LL ns (t + j) ws rs ls H' ∧ GI ws ls last j ∧ ls.length ≤ i * i + j
theorem pure_l_shape {K : PySem.W.Frag} {vs : List V} {H : Hp} {Q : VK} {E : XK} (h : sp_l_shape K vs H Q E) : t_l_shape K { nx := fun _ H' => Q .non H', rt := Q } (start N_l_shape vs) H := by
  obtain ⟨c, D, ns, t, most, rfl, dk, m0, m1, ht, k⟩ := h
  refine ⟨Nat.zero_le _, fun LV nV => ⟨_, rfl, ?_⟩⟩
  have d1 := dk.upd (o := .lst []) (dk.neC nV) (dk.neD nV)
  refine ⟨_, rfl, c, D, ns, t, 4, rfl, d1, by omega, by decide, by decide, fun far H1 f0 f1 d2 fr1 => ?_⟩
  refine ⟨_, rfl, c, D, ns, t + 1, 4, rfl, d2, by omega, by decide, by decide, fun road H2 r0 r1 d3 fr2 => ?_⟩
  refine ⟨Nat.zero_le _, fun LL nL => ?_⟩
  have hV2 : H2 LV = some (.lst []) := by rw [fr2 _ (dk.neD nV), fr1 _ (dk.neD nV)]; exact updS
  have nVL : LV ≠ LL := ne_of_none hV2 nL
  have k2 : Kp D H H2 := ((Kp.new nV).trans (.fr fr1)).trans (.fr fr2)
  have nL0 : H LL = none := k2.free nL (d3.neD nL)
  have s0 : SI H c D LV LL ns (t + 1 + 1) [] [] [] (upd H2 LL (.lst [])) :=
    ⟨d3.upd (d3.neC nL) (d3.neD nL), k2.trans (.new nL), updN nVL hV2, updS, ⟨rfl, fun i a l h1 _ => by cases h1⟩, ⟨t, dk⟩, nV, nL0, nVL⟩
  have m100 : (most + 1).natAbs < 2 ^ 100 := small100 (by omega)
  refine ⟨_, rfl, _, rfl, _, _, rfl, rfl, c, D, ns, t + 1 + 1, most + 1, rfl, s0.dk, by omega, by omega, m100, fun n H3 n0 n1 d4 fr3 => ⟨_, rfl, by omega, by omega, ?_⟩⟩
  refine for_range (lo := 0) (n := n.toNat) (ShO H c D LV LL ns most far road t) ?_ ?_ ?_
  · exact ⟨[], [], [], -1, none, none, none, rfl, s0.draw d4 fr3, good_nil, rfl, (fun _ h => by cases h), Int.le_refl _, Nat.le_refl _⟩
  · rintro i σ H' hi ⟨ws, rs, ls, last, z7, z8, z9, rfl, s, g, hw, hlast, hl1, hlen⟩
    have hi60 : i < 61 := by omega
    -- last = last + 1 + draw(3)
    refine ⟨_, rfl, _, _, rfl, rfl, _, rfl, c, D, ns, _, 3, rfl, s.dk, by omega, by decide, by decide, fun x H4 x0 x1 d5 fr4 => ⟨_, _, rfl, rfl, ?_⟩⟩
    have sA := s.draw d5 fr4
    -- what stands from the inner loop on
    have inner : ∀ (last' : Int) (t' : Nat) (H5 : Hp) (z8 z9 : Option V) (Dd : Ends), (∀ σ H', ShO H c D LV LL ns most far road t (i + 1) σ H' → Dd.nx σ H') → last < last' → t' ≤ t + 3 + 64 * i + 3 → SI H c D LV LL ns t' ws rs ls H5 →
        t_l_shape_inner K Dd [some (.ref D), some (.int most), some (.ref LV), some (.int last'), some (.int far), some (.int road), some (.ref LL), some (.int (0 + (i : Int))), z8, z9] H5 := by
      intro last' t' H5 z8 z9 Dd kd hlt htt s5
      have g0 : GI ws ls last' 0 := .open g (fun v hv => by have := hlast v hv; omega) (by omega)
      refine ⟨_, rfl, _, rfl, by omega, by omega, ?_⟩
      refine for_range (lo := 0) (n := (0 + (i : Int)).toNat) (ShN H c D LV LL ns most far road last' t' i ws) ?_ ?_ ?_
      · exact ⟨rs, ls, z8, z9, rfl, s5, g0, hlen⟩
      · rintro j σ H6 hj ⟨rs, ls, z8, z9, rfl, s6, g6, hlen6⟩
        have hj2 : j < ws.length := by omega
        have hwj : ws[j]? = some ws[j] := List.getElem?_eq_getElem hj2
        -- the last if, the hit known
        have h3 : ∀ (b : Bool) (H7 : Hp) (Dd : Ends), (∀ σ H', ShN H c D LV LL ns most far road last' t' i ws (j + 1) σ H' → Dd.nx σ H') → SI H c D LV LL ns (t' + j + 1) ws rs ls H7 → t_l_shape_h3 K Dd
            [some (.ref D), some (.int most), some (.ref LV), some (.int last'), some (.int far), some (.int road), some (.ref LL), some (.int (0 + (i : Int))), some (.int (0 + (j : Int))), some (.bl b)] H7 := by
          intro b H7 Dd kd s7
          refine ⟨_, rfl, _, rfl, ?_⟩
          cases b with
          | false => exact iteF (kd _ _ ⟨rs, ls, _, _, rfl, s7, g6.skip, by omega⟩)
          | true =>
            refine iteT ⟨_, rfl, .inl ⟨rfl, _, sqL s7.hl⟩, _, rfl, _, rfl, _, rfl, ixL s7.hv (v := .int ws[j]) ?_ ⟨by show (2 : Nat) ≤ sizeLine; decide, fun T nT => ?_⟩⟩
            · rw [Int.zero_add]
              exact atI_nat (by rw [List.getElem?_map, hwj]; rfl)
            · have s8 : SI H c D LV LL ns (t' + j + 1) ws rs ls (upd H7 T (.tup [.int last', .int ws[j]])) := s7.new nT
              have nTL : T ≠ LL := (ne_of_none s7.hl nT).symm
              refine ⟨LL, _, _, rfl, rfl, s8.hl, ?_, ?_⟩
              · rw [List.length_map, s7.pr.1]
                have : i * i ≤ 60 * 60 := Nat.mul_le_mul (by omega) (by omega)
                exact Nat.lt_of_le_of_lt (show ls.length ≤ 4000 by omega) (by decide)
              · exact kd _ _ ⟨rs ++ [T], ls ++ [(last', ws[j])], _, _, rfl, s8.addL (l := (last', ws[j])) updS, g6.hit hwj, by rw [List.length_append, List.length_singleton]; omega⟩
        -- hit = draw(..) == 0
        refine ⟨_, rfl, by show (4 : Nat) ≤ sizeLine; decide, fun q nq => ?_⟩
        obtain ⟨m, em, mm0, mm1⟩ := pick4 r0 r1
        have s7 : SI H c D LV LL ns (t' + j) ws rs ls (upd H6 q (.lst [.int 3, .int 2, .int 6, .int 9])) := s6.new nq
        refine ⟨_, rfl, ixL updS em ⟨c, D, ns, _, m, rfl, s7.dk, by omega, mm0, small100 (by omega), fun y H8 y0 y1 d8 fr8 => ⟨rfl, ?_⟩⟩⟩
        have s8 := s7.draw d8 fr8
        have h2 : ∀ (b : Bool) (Dd : Ends), (∀ σ H', ShN H c D LV LL ns most far road last' t' i ws (j + 1) σ H' → Dd.nx σ H') → t_l_shape_h2 K Dd [some (.ref D), some (.int most), some (.ref LV), some (.int last'), some (.int far), some (.int road), some (.ref LL), some (.int (0 + (i : Int))), some (.int (0 + (j : Int))), some (.bl b)] H8 := fun b Dd kd =>
          ⟨_, rfl, rfl, _, rfl, ite2 (fun _ => ⟨_, rfl, _, rfl, _, _, rfl, rfl, rfl, _, rfl, ite2 (fun _ => h3 true H8 _ kd s8) (fun _ => h3 b H8 _ kd s8)⟩) (fun _ => iteF (h3 b H8 _ kd s8))⟩
        refine ⟨_, rfl, rfl, _, rfl, ?_⟩
        refine ite2 (fun _ => ?_) (fun _ => iteF (h2 _ _ fun _ _ z => z))
        exact ⟨_, rfl, _, rfl, _, _, rfl, rfl, _, _, rfl, rfl, _, rfl, ite2 (fun _ => h2 false _ fun _ _ z => z) (fun _ => h2 _ _ fun _ _ z => z)⟩
      · rintro σ H6 ⟨rs, ls, z8, z9, rfl, s6, g6, hlen6⟩
        -- versions.append(last)
        refine ⟨_, rfl, .inl ⟨rfl, _, sqL s6.hv⟩, _, rfl, LV, _, _, rfl, rfl, s6.hv, ?_, ?_⟩
        · rw [List.length_map, hw]
          exact Nat.lt_of_le_of_lt (show i ≤ 1000 by omega) (by decide)
        · refine kd _ _ ⟨ws ++ [last'], rs, ls, last', _, _, _, rfl, (s6.addV last').le (by omega), g6.close, by rw [List.length_append, hw]; rfl, fun v hv => ?_, by omega, ?_⟩
          · rcases List.mem_append.mp hv with hv | hv
            · have := hlast v hv
              omega
            · cases List.mem_singleton.mp hv
              exact Int.le_refl _
          · have : (i + 1) * (i + 1) = i * i + 2 * i + 1 := by rw [Nat.add_mul, Nat.mul_add]; omega
            omega
    -- if far == 0 and draw(4) == 0
    refine ⟨_, rfl, rfl, _, rfl, ite2 (fun _ => ?_) (fun _ => iteF (inner _ _ _ _ _ _ (fun _ _ z => z) (by omega) (by omega) sA))⟩
    refine ⟨_, rfl, c, D, ns, _, 4, rfl, sA.dk, by omega, by decide, by decide, fun y H5 y0 y1 d6 fr5 => ⟨rfl, _, rfl, ?_⟩⟩
    have sB := sA.draw d6 fr5
    refine ite2 (fun _ => ?_) (fun _ => inner _ _ _ _ _ _ (fun _ _ z => z) (by omega) (by omega) sB)
    refine ⟨_, rfl, _, rfl, _, _, rfl, rfl, ⟨by decide, by decide, by decide⟩, c, D, ns, _, _, rfl, sB.dk, by omega, by rw [pow18]; decide, by rw [pow18]; decide, fun z H6 w0 w1 d7 fr6 => ⟨_, _, rfl, rfl, ?_⟩⟩
    exact inner _ _ _ _ _ _ (fun _ _ z => z) (by omega) (by omega) (sB.draw d7 fr6)
  · rintro σ H' ⟨ws, rs, ls, last, z7, z8, z9, rfl, s, g, hw, hlast, hl1, hlen⟩
    refine ⟨_, rfl, LV, _, rfl, .inl ⟨sqL s.hv, fun p np => ⟨_, rfl, LL, _, rfl, .inl ⟨sqL (updN (ne_of_none s.hl np) s.hl), fun r nr => ⟨by show (2 : Nat) ≤ sizeLine; decide, fun w nw => ?_⟩⟩⟩⟩⟩
    exact shape_end (K := K) s (fun p H' k1 d sh => k p ws ls H' k1 (d.le (by omega)) sh g (show ((ws.length : Nat) : Int) ≤ most by rw [hw]; omega) (show ls.length ≤ ws.length * ws.length by rw [hw]; exact hlen)) p np r nr w nw
end Fw

set_option Elab.async false
set_option linter.all false
set_option maxRecDepth 100000
set_option maxHeartbeats 4000000
namespace Fw
open PySem L2 RZ RT
/-! ### long shapes -/
def vsL (a g : Int) (n : Nat) : List Int := (List.range n).map fun k : Nat => a + g * (k : Int)
def lsL (a g : Int) (w n : Nat) : List (Int × Int) := (List.range (n - w)).map fun j : Nat => (a + g * ((w : Int) + (j : Int)), a + g * (j : Int))
theorem vsL_length (a g : Int) (n : Nat) : (vsL a g n).length = n := by simp [vsL]
theorem lsL_length (a g : Int) (w n : Nat) : (lsL a g w n).length = n - w := by simp [lsL]
theorem vsL_get {a g : Int} {n i : Nat} (h : i < n) : (vsL a g n)[i]? = some (a + g * (i : Int)) := by
  simp [vsL, h]
theorem vsL_get_lt {a g : Int} {n i : Nat} {z : Int} (h : (vsL a g n)[i]? = some z) : i < n ∧ z = a + g * (i : Int) := by
  have hi : i < (vsL a g n).length := (List.getElem?_eq_some_iff.mp h).1
  rw [vsL_length] at hi
  rw [vsL_get hi] at h
  exact ⟨hi, (Option.some.inj h).symm⟩
theorem vsL_mem {a g : Int} {n : Nat} {v : Int} (h : v ∈ vsL a g n) : ∃ k : Nat, k < n ∧ v = a + g * (k : Int) := by
  obtain ⟨k, hk, e⟩ := List.mem_map.mp h
  exact ⟨k, List.mem_range.mp hk, e.symm⟩
theorem vsL_mem_of {a g : Int} {n k : Nat} (h : k < n) : a + g * (k : Int) ∈ vsL a g n := List.mem_map.mpr ⟨k, List.mem_range.mpr h, rfl⟩
theorem mono_g {a g : Int} (h : 0 < g) {i j : Nat} (hij : i < j) : a + g * (i : Int) < a + g * (j : Int) := by
  have := Int.mul_lt_mul_of_pos_left (show (i : Int) < (j : Int) by omega) h
  omega
theorem good_long {a g : Int} {w n : Nat} (ha : 0 ≤ a) (hg : 0 < g) (hw : 0 < w) : Good (vsL a g n) (lsL a g w n) := by
  refine ⟨?_, fun v hv => ?_, fun l hl => ?_, ?_⟩
  · exact List.pairwise_map.mpr (List.pairwise_lt_range.imp fun h => mono_g hg h)
  · obtain ⟨k, _, rfl⟩ := vsL_mem hv
    have := Int.mul_nonneg (Int.le_of_lt hg) (show (0 : Int) ≤ (k : Int) by omega)
    omega
  · obtain ⟨j, hj, rfl⟩ := List.mem_map.mp hl
    have hj2 := List.mem_range.mp hj
    have e : ((w : Int) + (j : Int)) = ((w + j : Nat) : Int) := by omega
    refine ⟨?_, vsL_mem_of (by omega), ?_⟩
    · show a + g * ((w : Int) + (j : Int)) ∈ vsL a g n
      rw [e]
      exact vsL_mem_of (by omega)
    · show a + g * (j : Int) < a + g * ((w : Int) + (j : Int))
      rw [e]
      exact mono_g hg (by omega)
  · refine List.pairwise_map.mpr (List.pairwise_lt_range.imp fun {i j} h => .inl ?_)
    show a + g * ((w : Int) + (i : Int)) < a + g * ((w : Int) + (j : Int))
    have e : ∀ x : Nat, ((w : Int) + (x : Int)) = ((w + x : Nat) : Int) := fun x => by omega
    rw [e, e]
    exact mono_g hg (by omega)
/-! ### a comprehension over a range, its elements changing nothing -/
theorem lc_mapR {lo : Int} {n : Nat} {ys : List V} {g : TG} {tt : TT} {te : TE} {vs : List Nat} {σ : L2.St} {H1 : Hp} {D : Addr} {Qd : Hp → Prop} (hl : ys.length = n) (hz : n ≤ 100000)
    (hs : ∀ (i : Nat) (y : V) (acc : List V) (R : VK), i < n → ys[i]? = some y → R y (upd H1 D (.lst acc)) → g (.int (lo + i)) (wipe σ vs) (upd H1 D (.lst acc)) fun σ2 H2 => wipe σ2 vs = wipe σ vs ∧ tt σ2 H2 fun b H3 => if b = true then te σ2 H3 R else False)
    (hd : Qd (upd H1 D (.lst ys))) (mt : ∀ σ H P P', (∀ b H1, P b H1 → P' b H1) → tt σ H P → tt σ H P') (mg : ∀ v σ H P P', (∀ σ1 H1, P σ1 H1 → P' σ1 H1) → g v σ H P → g v σ H P') :
    ∃ W : Nat → Nat → Hp → Prop, (∃ m, W 0 m (upd H1 D (.lst []))) ∧ ∀ i m H, W i m H →
      ((Itr lo n).stop i H ∧ Qd H) ∨ ((Itr lo n).go i H ∧ ∃ Nx : Hp → Prop, (∀ H', Nx H' → ∃ m', m' < m ∧ W (i + 1) m' H') ∧ ∀ x H', (Itr lo n).yld i H x H' → g x (wipe σ vs) H' fun σ2 H2 => wipe σ2 vs = wipe σ vs ∧ tt σ2 H2 fun b H3 =>
        if b = true then te σ2 H3 fun y H4 => ∃ acc, H4 D = some (.lst acc) ∧ acc.length < sizeLine ∧ Nx (upd H4 D (.lst (acc ++ [y]))) else Nx H3) := by
  refine lc_range (lo := lo) (n := n) (fun i H => H = upd H1 D (.lst (ys.take i))) (by rw [List.take_zero]) (fun i H hi e => ?_) (fun H e => by
    rw [e, List.take_of_length_le (by omega)]
    exact hd)
  subst e
  have hi2 : i < ys.length := by omega
  refine mg _ _ _ _ _ (fun σ1 H2 q => ⟨q.1, mt _ _ _ _ (fun b H3 q2 => ?_) q.2⟩) (hs i ys[i] (ys.take i) (fun y H4 => ∃ acc, H4 D = some (.lst acc) ∧ acc.length < sizeLine ∧ upd H4 D (.lst (acc ++ [y])) = upd H1 D (.lst (ys.take (i + 1)))) hi (List.getElem?_eq_getElem hi2) ⟨ys.take i, upd_same, Nat.lt_of_le_of_lt (by rw [List.length_take]; omega : (ys.take i).length ≤ 100000) (by decide), by rw [upd_upd, List.take_add_one, List.getElem?_eq_getElem hi2]; rfl⟩)
  cases b with
  | true => exact q2
  | false => exact q2.elim
def sp_l_long_shape (_ : PySem.W.Frag) : Sp := fun vs H Q _ => ∃ (c D : Addr) (ns : List Int) (t : Nat) (most : Int), vs = [.ref D, .int most] ∧ Dk c D ns t H ∧ 0 ≤ most ∧ most ≤ 400 ∧ t + 4 < 1000000000 ∧
  ∀ (p q r : Addr) (rs : List Addr) (a g : Int) (w n : Nat) (H' : Hp), Kp D H H' → Dk c D ns (t + 4) H' → H' p = some (.tup [.ref q, .ref r, .int (w : Int)]) → H' q = some (.tup ((vsL a g n).map V.int)) → H' r = some (.tup (rs.map V.ref)) → LkAt H' rs (lsL a g w n) →
    0 ≤ a → a < 1000000 → 1 ≤ g → g ≤ 3 → 1 ≤ w → w ≤ 6 → (n : Int) ≤ most → Q (.ref p) H'
theorem len_l_long_shape {K : PySem.W.Frag} {vs : List V} {H : Hp} {Q : VK} {E : XK} (h : sp_l_long_shape K vs H Q E) : vs.length = 2 := by
  obtain ⟨_, _, _, _, _, rfl, _⟩ := h
  rfl
abbrev N_l_long_shape : List Str := ["_law_deck_here", "_law_most", "_law_first", "_law_gap", "_law_width", "_law_many", "_law_versions", "_law_k", "_law_links"]
def t_l_long_shape_links (K : PySem.W.Frag) : TS := (tSeq (tAsg (tLc (iRng2 (tCons (tVar 4) (tCons (tVar 5) tNil))) (gName 7) tYes (tTup (tCons (tOp (rIx K) (tVar 6) (tVar 7)) (tCons (tOp (rIx K) (tVar 6) (tOp rSubI (tVar 7) (tVar 4))) tNil))) [7]) (gName 8))
    (tRet (tTup (tCons (tCB (fTupleOf K) (tCons (tVar 6) tNil)) (tCons (tCB (fTupleOf K) (tCons (tVar 8) tNil)) (tCons (tVar 4) tNil))))))
def t_l_long_shape (K : PySem.W.Frag) : TS := (tSeq (tAsg (tCall (sp_l_draw K) [] E0 (tCons (tVar 0) (tCons (tOp rPowI (tC (.int 10)) (tC (.int 6))) tNil))) (gName 2))
    (tSeq (tAsg (tOp rAddI (tC (.int 1)) (tCall (sp_l_draw K) [] E0 (tCons (tVar 0) (tCons (tC (.int 3)) tNil)))) (gName 3))
    (tSeq (tAsg (tOp rAddI (tC (.int 1)) (tCall (sp_l_draw K) [] E0 (tCons (tVar 0) (tCons (tC (.int 6)) tNil)))) (gName 4))
    (tSeq (tAsg (tCall (sp_l_draw K) [] E0 (tCons (tVar 0) (tCons (tOp rAddI (tVar 1) (tC (.int 1))) tNil))) (gName 5))
    (tSeq (tAsg (tLc (iRng1 (tCons (tVar 5) tNil)) (gName 7) tYes (tOp rAddI (tVar 2) (tOp rMulI (tVar 3) (tVar 7))) [7]) (gName 6))
    (t_l_long_shape_links K))))))
theorem pow6 : (10 : Int) ^ (6 : Int).toNat = 1000000 := by decide
theorem pure_l_long_shape {K : PySem.W.Frag} {vs : List V} {H : Hp} {Q : VK} {E : XK} (h : sp_l_long_shape K vs H Q E) : t_l_long_shape K { nx := fun _ H' => Q .non H', rt := Q } (start N_l_long_shape vs) H := by
  obtain ⟨c, D, ns, t, most, rfl, dk, m0, m1, ht, k⟩ := h
  refine ⟨_, rfl, _, _, rfl, rfl, ⟨by decide, by decide, by decide⟩, c, D, ns, t, _, rfl, dk, by omega, by rw [pow6]; decide, by rw [pow6]; decide, fun a H1 a0 a1 d1 fr1 => ?_⟩
  rw [pow6] at a1
  refine ⟨_, rfl, c, D, ns, _, 3, rfl, d1, by omega, by decide, by decide, fun g H2 g0 g1 d2 fr2 => ⟨_, _, rfl, rfl, ?_⟩⟩
  refine ⟨_, rfl, c, D, ns, _, 6, rfl, d2, by omega, by decide, by decide, fun w H3 w0 w1 d3 fr3 => ⟨_, _, rfl, rfl, ?_⟩⟩
  refine ⟨_, rfl, _, rfl, _, _, rfl, rfl, c, D, ns, _, most + 1, rfl, d3, by omega, by omega, small100 (by omega), fun n H4 n0 n1 d4 fr4 => ?_⟩
  have k4 : Kp D H H4 := (((Kp.fr fr1).trans (.fr fr2)).trans (.fr fr3)).trans (.fr fr4)
  obtain ⟨N, rfl⟩ := Int.eq_ofNat_of_zero_le n0
  obtain ⟨W, hW⟩ := Int.eq_ofNat_of_zero_le (show 0 ≤ 1 + w by omega)
  have hN : N ≤ 400 := by omega
  have eN : ((N : Int)).toNat = N := by omega
  -- versions = [first + gap * k for k in range(many)]
  refine ⟨_, rfl, _, rfl, by omega, by omega, fun LV nV => ?_⟩
  rw [eN]
  refine lc_mapR (lo := 0) (n := N) (ys := (vsL a (1 + g) N).map V.int) (by rw [List.length_map, vsL_length]) (by omega) (fun i y acc R hi hy r => ?_) ?_ mono_yes mono_gName
  · rw [List.getElem?_map, vsL_get hi] at hy
    cases Option.some.inj hy
    refine ⟨rfl, ⟨_, rfl, _, rfl, _, rfl, _, _, rfl, rfl, .inl ⟨by omega, by omega⟩, _, _, rfl, rfl, ?_⟩⟩
    rw [Int.zero_add]
    exact r
  -- links = [(versions[k], versions[k - width]) for k in range(width, many)]
  have d5 : Dk c D ns (t + 4) (upd H4 LV (.lst ((vsL a (1 + g) N).map V.int))) := d4.upd (d4.neC nV) (d4.neD nV)
  have k5 : Kp D H (upd H4 LV (.lst ((vsL a (1 + g) N).map V.int))) := k4.trans (.new nV)
  show t_l_long_shape_links K _ [some (.ref D), some (.int most), some (.int a), some (.int (1 + g)), some (.int (1 + w)), some (.int (N : Int)), some (.ref LV), none, none] (upd H4 LV (.lst ((vsL a (1 + g) N).map V.int)))
  rw [hW]
  generalize hH5 : upd H4 LV (.lst ((vsL a (1 + g) N).map V.int)) = H5 at *
  have hV5 : H5 LV = some (.lst ((vsL a (1 + g) N).map V.int)) := by rw [← hH5]; exact updS
  refine ⟨_, rfl, _, rfl, _, _, rfl, ⟨by omega, by omega, by omega, by omega⟩, fun LL nL => ?_⟩
  have nVL : LV ≠ LL := ne_of_none hV5 nL
  have eNW : ((N : Int) - (W : Int)).toNat = N - W := by omega
  rw [eNW]
  refine lc_range (lo := (W : Int)) (n := N - W) (fun i H' => ∃ rs : List Addr, Kp D H5 H' ∧ Dk c D ns (t + 4) H' ∧ H' LV = some (.lst ((vsL a (1 + g) N).map V.int)) ∧ H' LL = some (.lst (rs.map V.ref)) ∧ LkAt H' rs ((lsL a (1 + g) W N).take i)) ?_ ?_ ?_
  · exact ⟨[], .new nL, d5.upd (d5.neC nL) (d5.neD nL), updN nVL hV5, updS, rfl, fun i b l h1 _ => by cases h1⟩
  · rintro i H6 hi ⟨rs, k6, d6, hV6, hL6, pr⟩
    have e1 : ((W : Int) + (i : Int)) = ((W + i : Nat) : Int) := by omega
    have e2 : ((W : Int) + (i : Int)) - (W : Int) = ((i : Nat) : Int) := by omega
    have g1 : atI ((vsL a (1 + g) N).map V.int) ((W : Int) + (i : Int)) = some (.int (a + (1 + g) * ((W : Int) + (i : Int)))) := by
      rw [e1]
      exact atI_nat (by rw [List.getElem?_map, vsL_get (by omega)]; rfl)
    have g2 : atI ((vsL a (1 + g) N).map V.int) ((W : Int) + (i : Int) - (W : Int)) = some (.int (a + (1 + g) * (i : Int))) := by
      rw [e2]
      exact atI_nat (by rw [List.getElem?_map, vsL_get (by omega)]; rfl)
    refine ⟨rfl, ⟨_, rfl, _, rfl, ixL hV6 g1 ⟨_, rfl, _, rfl, _, rfl, _, _, rfl, rfl, ixL hV6 g2 ⟨by show (2 : Nat) ≤ sizeLine; decide, fun T nT => ?_⟩⟩⟩⟩
    have nTL : T ≠ LL := (ne_of_none hL6 nT).symm
    have nTV : T ≠ LV := (ne_of_none hV6 nT).symm
    have hlen : rs.length ≤ 400 := by
      rw [pr.1, List.length_take, lsL_length]
      omega
    have ll : (lsL a (1 + g) W N)[i]? = some (a + (1 + g) * ((W : Int) + (i : Int)), a + (1 + g) * (i : Int)) := by
      simp [lsL, hi]
    have nLD : LL ≠ D := d5.neD nL
    have nLC : LL ≠ c := d5.neC nL
    refine ⟨rs.map V.ref, updN nTL.symm hL6, ?_, rs ++ [T], ?_, ?_, ?_, ?_, ?_⟩
    · rw [List.length_map]
      exact Nat.lt_of_le_of_lt (show rs.length ≤ 1000 by omega) (by decide)
    · exact fun b o e n => updN (ne_of_none e nL) (updN (ne_of_none (k6 b o e n) nT) (k6 b o e n))
    · exact (d6.upd (d6.neC nT) (d6.neD nT)).upd nLC nLD
    · exact updN nVL (updN nTV.symm hV6)
    · rw [updS, List.map_append]
      rfl
    · rw [take_snoc ll]
      refine (LkAt.snoc (pr.mono fun b xs h => updN (ne_of_none h nT) h) (l := (a + (1 + g) * ((W : Int) + (i : Int)), a + (1 + g) * (i : Int))) (T := T) updS).mono fun b xs h => updN (fun e => ?_) h
      rw [e, updN nTL.symm hL6] at h
      cases h
  · rintro H6 ⟨rs, k6, d6, hV6, hL6, pr⟩
    rw [List.take_of_length_le (by rw [lsL_length]; omega)] at pr
    refine ⟨_, rfl, LV, _, rfl, .inl ⟨sqL hV6, fun q nq => ?_⟩⟩
    have nqL : q ≠ LL := (ne_of_none hL6 nq).symm
    refine ⟨_, rfl, LL, _, rfl, .inl ⟨sqL (updN nqL.symm hL6), fun r nr => ?_⟩⟩
    have nqr : q ≠ r := fun e => by rw [← e, updS] at nr; cases nr
    have nr6 : H6 r = none := by rw [upd_ne nqr.symm] at nr; exact nr
    refine ⟨_, rfl, by show (3 : Nat) ≤ sizeLine; decide, fun p np => ?_⟩
    have npq : q ≠ p := fun e => by rw [← e, upd_ne nqr, updS] at np; cases np
    have npr : r ≠ p := fun e => by rw [← e, updS] at np; cases np
    have np6 : H6 p = none := by rw [upd_ne npr.symm, upd_ne npq.symm] at np; exact np
    have d7 : Dk c D ns (t + 4) (upd (upd (upd H6 q (.tup ((vsL a (1 + g) N).map V.int))) r (.tup (rs.map V.ref))) p (.tup [.ref q, .ref r, .int (W : Int)])) := ((d6.upd (d6.neC nq) (d6.neD nq)).upd (d6.neC nr6) (d6.neD nr6)).upd (d6.neC np6) (d6.neD np6)
    have up : ∀ b o, H6 b = some o → (upd (upd (upd H6 q (.tup ((vsL a (1 + g) N).map V.int))) r (.tup (rs.map V.ref))) p (.tup [.ref q, .ref r, .int (W : Int)])) b = some o := fun b o e => updN (ne_of_none e np6) (updN (ne_of_none e nr6) (updN (ne_of_none e nq) e))
    exact k p q r rs a (1 + g) W N _ (k5.trans (k6.trans fun b o e _ => up b o e)) d7 updS (updN npq (updN nqr updS)) (updN npr updS) (pr.mono fun b xs h => up _ _ h) a0 a1 (by omega) (by omega) (by omega) (by omega) (by omega)
end Fw

set_option Elab.async false
set_option linter.all false
set_option maxRecDepth 100000
set_option maxHeartbeats 4000000
namespace Fw
open PySem L2 RZ RT
/-! ### what is below -/
inductive Dn (ls : List (Int × Int)) : Int → Int → Prop where
  | refl (v : Int) : Dn ls v v
  | step {v p u : Int} (h : (v, p) ∈ ls) (r : Dn ls p u) : Dn ls v u
theorem Dn.trans {ls : List (Int × Int)} {a b c : Int} (h : Dn ls a b) (k : Dn ls b c) : Dn ls a c := by
  induction h with
  | refl v => exact k
  | step h r ih => exact .step h (ih k)
theorem Dn.le {vs : List Int} {ls : List (Int × Int)} (g : Good vs ls) {a b : Int} (h : Dn ls a b) : b ≤ a := by
  induction h with
  | refl v => exact Int.le_refl v
  | step h r ih =>
    have := (g.mem _ h).2.2
    simp only at this
    omega
theorem Dn.mem {vs : List Int} {ls : List (Int × Int)} (g : Good vs ls) {a b : Int} (h : Dn ls a b) : a ∈ vs → b ∈ vs := by
  induction h with
  | refl v => exact id
  | step h r ih => exact fun _ => ih (g.mem _ h).2.1
/-- one more, if it is not there -/
def ins1 (fs : List Int) (j : Int) : List Int := if fs.contains j then fs else fs ++ [j]
theorem mem_ins1 {fs : List Int} {j x : Int} : x ∈ ins1 fs j ↔ x ∈ fs ∨ x = j := by
  unfold ins1
  by_cases h : fs.contains j = true
  · rw [if_pos h]
    refine ⟨Or.inl, fun k => k.elim id fun e => ?_⟩
    rw [e]
    exact List.contains_iff_mem.mp h
  · rw [if_neg h, List.mem_append, List.mem_singleton]
theorem nodup_ins1 {fs : List Int} {j : Int} (h : fs.Nodup) : (ins1 fs j).Nodup := by
  unfold ins1
  by_cases hc : fs.contains j = true
  · rw [if_pos hc]
    exact h
  · rw [if_neg hc]
    refine List.nodup_append.mpr ⟨h, List.pairwise_singleton _ _, fun a ha b hb e => ?_⟩
    rw [e, List.mem_singleton.mp hb] at ha
    exact hc (List.contains_iff_mem.mpr ha)
theorem length_ins1 (fs : List Int) (j : Int) : (ins1 fs j).length ≤ fs.length + 1 := by
  unfold ins1
  split
  · omega
  · rw [List.length_append, List.length_singleton]
    omega
/-- behind one link -/
def addB (fs : List Int) (l : Int × Int) : List Int := if fs.contains l.1 then ins1 fs l.2 else fs
/-- the links gone through from the last one on -/
def lower (ls : List (Int × Int)) (ss : List Int) : List Int := ls.foldr (fun l fs => addB fs l) ss
theorem lower_cons (l : Int × Int) (ls : List (Int × Int)) (ss : List Int) : lower (l :: ls) ss = addB (lower ls ss) l := rfl
theorem nodup_lower {ls : List (Int × Int)} {ss : List Int} (h : ss.Nodup) : (lower ls ss).Nodup := by
  induction ls with
  | nil => exact h
  | cons l r ih =>
    rw [lower_cons]
    unfold addB
    split
    · exact nodup_ins1 ih
    · exact ih
theorem mem_addB {fs : List Int} {l : Int × Int} {x : Int} : x ∈ addB fs l ↔ x ∈ fs ∨ (l.1 ∈ fs ∧ x = l.2) := by
  unfold addB
  by_cases h : fs.contains l.1 = true
  · rw [if_pos h, mem_ins1]
    exact ⟨fun k => k.imp id fun e => ⟨List.contains_iff_mem.mp h, e⟩, fun k => k.imp id fun e => e.2⟩
  · rw [if_neg h]
    refine ⟨Or.inl, fun k => k.elim id fun e => absurd (List.contains_iff_mem.mpr e.1) h⟩
theorem lower_sub {ls : List (Int × Int)} {ss : List Int} {x : Int} (h : x ∈ ss) : x ∈ lower ls ss := by
  induction ls with
  | nil => exact h
  | cons l r ih => exact mem_addB.mpr (.inl ih)
theorem Dn.more {ls : List (Int × Int)} {l : Int × Int} {a b : Int} (h : Dn ls a b) : Dn (l :: ls) a b := by
  induction h with
  | refl v => exact .refl v
  | step h r ih => exact .step (List.mem_cons_of_mem _ h) ih
theorem Dn.snoc {ls : List (Int × Int)} {a b c : Int} (h : Dn ls a b) (k : (b, c) ∈ ls) : Dn ls a c := h.trans (.step k (.refl c))
theorem lower_dn {ls : List (Int × Int)} {ss : List Int} {x : Int} (h : x ∈ lower ls ss) : ∃ s ∈ ss, Dn ls s x := by
  induction ls generalizing x with
  | nil => exact ⟨x, h, .refl x⟩
  | cons l r ih =>
    rw [lower_cons] at h
    rcases mem_addB.mp h with h | ⟨h1, h2⟩
    · obtain ⟨s, hs, d⟩ := ih h
      exact ⟨s, hs, d.more⟩
    · obtain ⟨s, hs, d⟩ := ih h1
      rw [h2]
      exact ⟨s, hs, d.more.snoc (List.mem_cons_self ..)⟩
theorem lower_closed {ls : List (Int × Int)} {ss : List Int} (hx : ls.Pairwise lkLt) (hd : ∀ l ∈ ls, l.2 < l.1) : ∀ l ∈ ls, l.1 ∈ lower ls ss → l.2 ∈ lower ls ss := by
  induction ls with
  | nil => exact fun l h => nomatch h
  | cons m r ih =>
    intro l hl h1
    rw [lower_cons] at h1 ⊢
    have hx2 := List.pairwise_cons.mp hx
    have hd2 : ∀ l ∈ r, l.2 < l.1 := fun l hl => hd l (List.mem_cons_of_mem _ hl)
    -- the link m adds m.2 alone, and no link of r begins there
    have no : l ∈ r → l.1 ≠ m.2 := fun hr e => by
      have h3 := hd m (List.mem_cons_self ..)
      have h4 := hx2.1 l hr
      unfold lkLt at h4
      omega
    rcases List.mem_cons.mp hl with e | hr
    · subst e
      rcases mem_addB.mp h1 with h1 | ⟨h1, _⟩
      · exact mem_addB.mpr (.inr ⟨h1, rfl⟩)
      · exact mem_addB.mpr (.inr ⟨h1, rfl⟩)
    · rcases mem_addB.mp h1 with h1 | ⟨_, h1⟩
      · exact mem_addB.mpr (.inl (ih hx2.2 hd2 l hr h1))
      · exact absurd h1 (no hr)
theorem mem_lower {vs : List Int} {ls : List (Int × Int)} (g : Good vs ls) {ss : List Int} {x : Int} : x ∈ lower ls ss ↔ ∃ s ∈ ss, Dn ls s x := by
  refine ⟨lower_dn, fun ⟨s, hs, d⟩ => ?_⟩
  have cl := lower_closed (ss := ss) g.lex fun l hl => (g.mem l hl).2.2
  have key : ∀ s x, Dn ls s x → s ∈ lower ls ss → x ∈ lower ls ss := fun s x d => by
    induction d with
    | refl v => exact id
    | step h r ih => exact fun k => ih (cl _ h k)
  exact key s x d (lower_sub hs)
theorem lower_in {vs : List Int} {ls : List (Int × Int)} (g : Good vs ls) {ss : List Int} (hs : ∀ s ∈ ss, s ∈ vs) : ∀ x ∈ lower ls ss, x ∈ vs := fun x hx => by
  obtain ⟨s, h, d⟩ := lower_dn hx
  exact d.mem g (hs s h)
/-- rising lists with the same things are the same -/
theorem rising_ext : ∀ {l m : List Int}, l.Pairwise (· < ·) → m.Pairwise (· < ·) → (∀ x, x ∈ l ↔ x ∈ m) → l = m
  | [], [], _, _, _ => rfl
  | [], b :: m, _, _, h => by
    have := (h b).mpr (List.mem_cons_self ..)
    cases this
  | a :: l, [], _, _, h => by
    have := (h a).mp (List.mem_cons_self ..)
    cases this
  | a :: l, b :: m, hl, hm, h => by
    obtain ⟨l1, l2⟩ := List.pairwise_cons.mp hl
    obtain ⟨m1, m2⟩ := List.pairwise_cons.mp hm
    have e : a = b := by
      rcases List.mem_cons.mp ((h a).mp (List.mem_cons_self ..)) with e | e
      · exact e
      · rcases List.mem_cons.mp ((h b).mpr (List.mem_cons_self ..)) with e2 | e2
        · exact e2.symm
        · have h1 := m1 a e
          have h2 := l1 b e2
          omega
    subst e
    have r : l = m := rising_ext l2 m2 fun x => by
      refine ⟨fun hx => ?_, fun hx => ?_⟩
      · rcases List.mem_cons.mp ((h x).mp (List.mem_cons_of_mem _ hx)) with e | e
        · have := l1 x hx
          omega
        · exact e
      · rcases List.mem_cons.mp ((h x).mpr (List.mem_cons_of_mem _ hx)) with e | e
        · have := m1 x hx
          omega
        · exact e
    rw [r]
theorem rising_nodup {l : List Int} (h : l.Pairwise (· < ·)) : l.Nodup := h.imp fun {a b} k e => by omega
theorem rising_of {l : List Int} (h : l.Pairwise (· ≤ ·)) (n : l.Nodup) : l.Pairwise (· < ·) := by
  refine (h.and n).imp fun {a b} k => ?_
  have := k.1
  have := k.2
  omega
/-- sorted is what of the versions is in it -/
theorem sorted_is {vs fs ys : List Int} (hv : vs.Pairwise (· < ·)) (hf : fs.Nodup) (hin : ∀ x ∈ fs, x ∈ vs) (hp : ys.Perm fs) (hs : ys.Pairwise (· ≤ ·)) : ys = vs.filter fun u => fs.contains u := by
  refine rising_ext (rising_of hs (hp.nodup_iff.mpr hf)) (hv.filter _) fun x => ?_
  rw [hp.mem_iff, List.mem_filter, List.contains_iff_mem]
  exact ⟨fun h => ⟨hin x h, h⟩, fun h => h.2⟩
/-- a version and all that are below it, rising -/
def belowL (vs : List Int) (ls : List (Int × Int)) (v : Int) : List Int := vs.filter fun u => (lower ls [v]).contains u
theorem mem_belowL {vs : List Int} {ls : List (Int × Int)} (g : Good vs ls) {v u : Int} (hv : v ∈ vs) : u ∈ belowL vs ls v ↔ Dn ls v u := by
  unfold belowL
  rw [List.mem_filter, List.contains_iff_mem, mem_lower g]
  refine ⟨fun h => ?_, fun h => ⟨h.mem g hv, v, List.mem_singleton.mpr rfl, h⟩⟩
  obtain ⟨_, s, hs, d⟩ := h
  rw [List.mem_singleton.mp hs] at d
  exact d
theorem belowL_rising {vs : List Int} {ls : List (Int × Int)} (g : Good vs ls) (v : Int) : (belowL vs ls v).Pairwise (· < ·) := g.inc.filter _
theorem belowL_length {vs : List Int} {ls : List (Int × Int)} (v : Int) : (belowL vs ls v).length ≤ vs.length := List.length_filter_le _ _
/-! ### sets as dicts, in order -/
def mkS (fs : List Int) : List (Key × V) := fs.map fun i => ((Sum.inl i : Key), V.bl true)
theorem mkS_length (fs : List Int) : (mkS fs).length = fs.length := by simp [mkS]
theorem mkS_keys (fs : List Int) : (mkS fs).map (·.1) = fs.map Sum.inl := by simp [mkS]
theorem mkS_val (j : Int) : ∀ fs : List Int, valV (mkS fs) (.inl j) = if fs.contains j then some (.bl true) else none
  | [] => rfl
  | i :: r => by
    show valV ((Sum.inl i, V.bl true) :: mkS r) (.inl j) = _
    by_cases e : i = j
    · subst e
      rw [valV_pos (p := ((Sum.inl i : Key), V.bl true)) rfl, if_pos (by simp)]
    · rw [valV_neg (p := ((Sum.inl i : Key), V.bl true)) (fun z => e (Sum.inl.inj z)), mkS_val j r, List.contains_cons, show (j == i) = false from beq_eq_false_iff_ne.mpr fun z => e z.symm, Bool.false_or]
theorem mkS_has (fs : List Int) (j : Int) : (valV (mkS fs) (.inl j)).isSome = fs.contains j := by
  rw [mkS_val]
  cases fs.contains j <;> rfl
theorem mkS_put (fs : List Int) (j : Int) : putK (mkS fs) (.inl j) (.bl true) = mkS (ins1 fs j) := by
  unfold ins1
  by_cases h : fs.contains j = true
  · rw [if_pos h]
    unfold putK
    rw [valV_any, mkS_has, if_pos h]
    unfold mkS
    rw [List.map_map]
    refine List.map_congr_left fun i _ => ?_
    show (if (Sum.inl i : Key) = Sum.inl j then ((Sum.inl i : Key), V.bl true) else _) = _
    split <;> rfl
  · rw [if_neg h, putK_new (V.bl true) (by rw [mkS_val, if_neg h])]
    unfold mkS
    rw [List.map_append]
    rfl
theorem mkS_ins {fs : List Int} {j : Int} (h : j ∉ fs) : ins1 fs j = fs ++ [j] := by
  unfold ins1
  rw [if_neg fun z => h (List.contains_iff_mem.mp z)]
/-! ### a dict comprehension over a list -/
theorem dc_list {K : PySem.W.Frag} {a : Addr} {xs : List V} {g : TG} {tt : TT} {tk tv : TE} {vs : List Nat} {σ : L2.St} {H1 : Hp} {D : Addr} {Qd : Hp → Prop} (Pv : Nat → Hp → Prop) (h0 : Pv 0 (upd H1 D (.dK []))) (hl : ∀ i H, i ≤ xs.length → Pv i H → SqL K H a xs)
    (hs : ∀ i x H, xs[i]? = some x → Pv i H → g x (wipe σ vs) H fun σ2 H2 => wipe σ2 vs = wipe σ vs ∧ tt σ2 H2 fun b H3 =>
      if b = true then tk σ2 H3 fun y H4 => tv σ2 H4 fun z H5 => ∃ kvs k, y = kV k ∧ H5 D = some (.dK kvs) ∧ kvs.length < sizeLine ∧ Pv (i + 1) (upd H5 D (.dK (putK kvs k z))) else Pv (i + 1) H3) (hd : ∀ H, Pv xs.length H → Qd H) :
    ∃ W : Nat → Nat → Hp → Prop, (∃ m, W 0 m (upd H1 D (.dK []))) ∧ ∀ i m H, W i m H →
      ((Itl K a).stop i H ∧ Qd H) ∨ ((Itl K a).go i H ∧ ∃ Nx : Hp → Prop, (∀ H', Nx H' → ∃ m', m' < m ∧ W (i + 1) m' H') ∧ ∀ x H', (Itl K a).yld i H x H' → g x (wipe σ vs) H' fun σ2 H2 => wipe σ2 vs = wipe σ vs ∧ tt σ2 H2 fun b H3 =>
        if b = true then tk σ2 H3 fun y H4 => tv σ2 H4 fun z H5 => ∃ kvs k, y = kV k ∧ H5 D = some (.dK kvs) ∧ kvs.length < sizeLine ∧ Nx (upd H5 D (.dK (putK kvs k z))) else Nx H3) := by
  refine ⟨fun i m H => m = xs.length - i ∧ i ≤ xs.length ∧ Pv i H, ⟨xs.length, by simp, Nat.zero_le _, h0⟩, ?_⟩
  rintro i m H ⟨rfl, hi, p⟩
  have q := hl i H hi p
  by_cases hlt : i < xs.length
  · refine .inr ⟨⟨xs, xs[i], q, by simp [hlt]⟩, Pv (i + 1), fun H' p' => ⟨xs.length - (i + 1), by omega, rfl, hlt, p'⟩, fun x H' y => ?_⟩
    obtain ⟨e, y⟩ := y
    subst e
    exact hs i x _ (y xs q) p
  · have e : i = xs.length := by omega
    subst e
    exact .inl ⟨⟨xs, q, Nat.le_refl _⟩, hd H p⟩
end Fw

set_option Elab.async false
set_option linter.all false
set_option maxRecDepth 100000
set_option maxHeartbeats 4000000
namespace Fw
open PySem L2 RZ RT
/-! ### with_lower -/
def sp_with_lower (_ : PySem.W.Frag) : Sp := fun vs H Q _ => ∃ (p q : Addr) (ws : List Int) (ls : List (Int × Int)) (ss : List Int), vs = [.ref p, .ref q] ∧ ShapeAt H p ws ls ∧ Good ws ls ∧ ls.length ≤ 10000 ∧ H q = some (.lst (ss.map V.int)) ∧ ss.Nodup ∧ ss.length ≤ 1000 ∧
  ∀ (F : Addr) (H' : Hp), Same H H' → H F = none → H' F = some (.dK (mkS (lower ls ss))) → Q (.ref F) H'
abbrev N_with_lower : List Str := ["shape", "starts", "found", "version", "upper", "lower"]
def t_with_lower (K : PySem.W.Frag) : TS := (tSeq (tAsg (tDc (iList K (tVar 1)) (gName 3) tYes (tVar 3) (tC (.bl true)) [3]) (gName 2))
    (tSeq (tFor (iRevA K (tOp (rIx K) (tVar 0) (tC (.int 1)))) (gTup K 2 (gCons (gName 4) (gCons (gName 5) gNil))) (tIfS (tB (tDIn (tVar 4) (tVar 2))) (sDPut (tVar 2) (tVar 5) (tC (.bl true))) tNext))
    (tRet (tVar 2))))
theorem len_with_lower {K : PySem.W.Frag} {vs : List V} {H : Hp} {Q : VK} {E : XK} (h : sp_with_lower K vs H Q E) : vs.length = 2 := by
  obtain ⟨_, _, _, _, _, rfl, _⟩ := h
  rfl
theorem length_lower (ls : List (Int × Int)) (ss : List Int) : (lower ls ss).length ≤ ss.length + ls.length := by
  induction ls with
  | nil => exact Nat.le_refl _
  | cons l r ih =>
    rw [lower_cons]
    unfold addB
    split
    · have := length_ins1 (lower r ss) l.2
      rw [List.length_cons]
      omega
    · rw [List.length_cons]
      omega
theorem drop_rev {α : Type} {l : List α} {i : Nat} {x : α} (hi : i < l.length) (h : l[l.length - 1 - i]? = some x) : l.drop (l.length - (i + 1)) = x :: l.drop (l.length - i) := by
  have e1 : l.length - (i + 1) = l.length - 1 - i := by omega
  obtain ⟨h1, h2⟩ := List.getElem?_eq_some_iff.mp h
  rw [e1, List.drop_eq_getElem_cons h1, h2, show l.length - 1 - i + 1 = l.length - i by omega]
theorem pure_with_lower {K : PySem.W.Frag} {vs : List V} {H : Hp} {Q : VK} {E : XK} (h : sp_with_lower K vs H Q E) : t_with_lower K { nx := fun _ H' => Q .non H', rt := Q } (start N_with_lower vs) H := by
  obtain ⟨p, q, ws, ls, ss, rfl, ⟨a, r, rs, hp, ha, hr, lk⟩, g, hlz, hq, nd, hsz, k⟩ := h
  refine ⟨_, rfl, q, rfl, ⟨_, sqL hq⟩, fun F nF => ?_⟩
  have up : ∀ kvs, Same H (upd H F (.dK kvs)) := fun kvs b o e => updN (ne_of_none e nF) e
  refine dc_list (K := K) (a := q) (xs := ss.map V.int) (fun i H2 => H2 = upd H F (.dK (mkS (ss.take i)))) (by rw [List.take_zero]; rfl) (fun i H2 _ e => by rw [e]; exact sqL (up _ _ _ hq)) (fun i x H2 hx e => ?_) (fun H2 e => ?_)
  · subst e
    rw [List.getElem?_map] at hx
    cases en : ss[i]? with
    | none => rw [en] at hx; cases hx
    | some n =>
      rw [en] at hx
      cases Option.some.inj hx
      refine ⟨rfl, ⟨_, rfl, mkS (ss.take i), Sum.inl n, rfl, updS, ?_, ?_⟩⟩
      · rw [mkS_length]
        exact Nat.lt_of_le_of_lt (by rw [List.length_take]; omega : (ss.take i).length ≤ 1000) (by decide)
      · have nin : n ∉ ss.take i := fun hm => by
          obtain ⟨j, hj, e⟩ := List.getElem_of_mem hm
          rw [List.length_take] at hj
          rw [List.getElem_take] at e
          have hi := (List.getElem?_eq_some_iff.mp en)
          have : j = i := (List.getElem_inj nd).mp (e.trans hi.2.symm)
          omega
        rw [upd_upd, take_snoc en, mkS_put, mkS_ins nin]
  · subst e
    rw [List.length_map, List.take_length]
    have hrl : (rs.map V.ref).length = ls.length := by rw [List.length_map, lk.1]
    -- for upper, lower in reversed(shape[1])
    refine ⟨_, rfl, ixT (up _ _ _ hp) rfl ⟨r, rs.map V.ref, rfl, .inr ⟨sqT (up _ _ _ hr), ?_⟩⟩⟩
    refine for_ItvT (K := K) (a := r) (xs := rs.map V.ref) (fun i σ H2 => ∃ z3 z4 z5 : Option V, σ = [some (.ref p), some (.ref q), some (.ref F), z3, z4, z5] ∧ H2 = upd H F (.dK (mkS (lower (ls.drop (ls.length - i)) ss)))) ?_ ?_ ?_ ?_
    · refine ⟨none, none, none, rfl, ?_⟩
      rw [Nat.sub_zero, List.drop_length]
      rfl
    · rintro i σ H2 ⟨_, _, _, _, rfl⟩
      exact sqT (up _ _ _ hr)
    · rintro i x σ H2 hi hx ⟨z3, z4, z5, rfl, rfl⟩
      rw [hrl] at hi hx
      rw [List.getElem?_map] at hx
      have hj : ls.length - 1 - i < ls.length := by omega
      cases er : rs[ls.length - 1 - i]? with
      | none => rw [er] at hx; cases hx
      | some b =>
        rw [er] at hx
        cases Option.some.inj hx
        have el : ls[ls.length - 1 - i]? = some ls[ls.length - 1 - i] := List.getElem?_eq_getElem hj
        generalize ls[ls.length - 1 - i] = l at el
        have hb := lk.2 _ _ _ er el
        have ed := drop_rev hi el
        refine ⟨b, [.int l.1, .int l.2], rfl, sqT (up _ _ _ hb), rfl, _, [.int l.2], rfl, _, [], rfl, rfl, ?_⟩
        have hlen : (mkS (lower (ls.drop (ls.length - i)) ss)).length < sizeLine := by
          rw [mkS_length]
          have := length_lower (ls.drop (ls.length - i)) ss
          rw [List.length_drop] at this
          exact Nat.lt_of_le_of_lt (show _ ≤ 20000 by omega) (by decide)
        refine ⟨_, rfl, _, rfl, F, _, rfl, DGet.k (k := Sum.inl l.1) updS, _, rfl, ?_⟩
        rw [mkS_has]
        refine ite2 (fun e => ?_) (fun e => ?_)
        · refine ⟨_, rfl, _, rfl, F, _, rfl, DPut.k (k := Sum.inl l.2) updS hlen, _, _, _, rfl, ?_⟩
          rw [upd_upd, mkS_put, ed, lower_cons]
          unfold addB
          rw [if_pos e]
        · refine ⟨_, _, _, rfl, ?_⟩
          rw [ed, lower_cons]
          unfold addB
          rw [if_neg e]
    · rintro σ H2 ⟨z3, z4, z5, rfl, rfl⟩
      rw [hrl, Nat.sub_self, List.drop_zero]
      exact ⟨_, rfl, k F _ (up _) nF updS⟩
/-! ### rows: for each version what is below it -/
def rowsKV (ws : List Int) (as : List Addr) : List (Key × V) := List.zipWith (fun v a => ((Sum.inl v : Key), V.ref a)) ws as
def RowsAt (H : Hp) (R : Addr) (ws : List Int) (ls : List (Int × Int)) (done : List Int) (as : List Addr) : Prop := as.length = done.length ∧ H R = some (.dK (rowsKV done as)) ∧ ∀ (i : Nat) (v : Int) (a : Addr), done[i]? = some v → as[i]? = some a → H a = some (.lst ((belowL ws ls v).map V.int))
theorem rows_val {v : Int} {a : Addr} : ∀ {ws : List Int} {as : List Addr} {i : Nat}, ws.Nodup → ws[i]? = some v → as[i]? = some a → valV (rowsKV ws as) (.inl v) = some (.ref a)
  | [], _, _, _, h, _ => by simp at h
  | _ :: _, [], _, _, _, h => by simp at h
  | w :: ws, b :: as, 0, nd, h1, h2 => by
    cases Option.some.inj h1
    cases Option.some.inj h2
    exact valV_pos (p := ((Sum.inl v : Key), V.ref a)) rfl
  | w :: ws, b :: as, i + 1, nd, h1, h2 => by
    have n2 := List.nodup_cons.mp nd
    have h1' : ws[i]? = some v := h1
    have ne : ¬ (Sum.inl w : Key) = Sum.inl v := fun e => n2.1 (by rw [Sum.inl.inj e]; exact List.mem_of_getElem? h1')
    show valV ((Sum.inl w, V.ref b) :: rowsKV ws as) (.inl v) = _
    rw [valV_neg (p := ((Sum.inl w : Key), V.ref b)) ne]
    exact rows_val n2.2 h1' h2
theorem rows_none {v : Int} : ∀ {ws : List Int} {as : List Addr}, v ∉ ws → valV (rowsKV ws as) (.inl v) = none
  | [], _, _ => rfl
  | _ :: _, [], _ => rfl
  | w :: ws, b :: as, h => by
    show valV ((Sum.inl w, V.ref b) :: rowsKV ws as) (.inl v) = _
    rw [valV_neg (p := ((Sum.inl w : Key), V.ref b)) fun e => h (by rw [Sum.inl.inj e]; exact List.mem_cons_self ..)]
    exact rows_none fun hm => h (List.mem_cons_of_mem _ hm)
theorem rowsKV_length {ws : List Int} {as : List Addr} (h : as.length = ws.length) : (rowsKV ws as).length = ws.length := by
  unfold rowsKV
  rw [List.length_zipWith, h, Nat.min_self]
theorem rowsKV_snoc {ws : List Int} {as : List Addr} {v : Int} {a : Addr} (h : as.length = ws.length) : rowsKV (ws ++ [v]) (as ++ [a]) = rowsKV ws as ++ [((Sum.inl v : Key), V.ref a)] := by
  unfold rowsKV
  rw [List.zipWith_append h.symm]
  rfl
def sp_l_spans (_ : PySem.W.Frag) : Sp := fun vs H Q _ => ∃ (p : Addr) (ws : List Int) (ls : List (Int × Int)), vs = [.ref p] ∧ ShapeAt H p ws ls ∧ Good ws ls ∧ ws.length ≤ 60 ∧ ls.length ≤ 10000 ∧
  ∀ (R : Addr) (as : List Addr) (H' : Hp), Same H H' → H R = none → RowsAt H' R ws ls ws as → (∀ a ∈ as, H a = none) → Q (.ref R) H'
theorem len_l_spans {K : PySem.W.Frag} {vs : List V} {H : Hp} {Q : VK} {E : XK} (h : sp_l_spans K vs H Q E) : vs.length = 1 := by
  obtain ⟨_, _, _, rfl, _⟩ := h
  rfl
def fSortD : List V → Hp → VK → Prop := fun xs H Q => ∃ (a : Addr) (kvs : List (Key × V)) (ks : List Int), xs = [.ref a] ∧ Rd H a (.dK kvs) ∧ kvs.map (·.1) = ks.map Sum.inl ∧ ks.length < 64 ∧ ∀ (ys : List Int) (p : Addr), ys.Perm ks → ys.Pairwise (· ≤ ·) → H p = none → Q (.ref p) (upd H p (.lst (ys.map V.int)))
abbrev N_l_spans : List Str := ["_law_web", "_law_rows", "_law_version", "_law_found", "_law_two", "_law_low"]
def t_l_spans (K : PySem.W.Frag) : TS := (tSeq (tAsg tDNewK (gName 1))
    (tSeq (tFor (iTup K (tOp (rIx K) (tVar 0) (tC (.int 0)))) (gName 2) (tSeq (tAsg (tDisp (((tVar 2), (tC (.bl true))) :: [])) (gName 3))
    (tSeq (tFor (iTup K (tOp (rIx K) (tVar 0) (tC (.int 1)))) (gName 4) (tIfS (tTest (tOp rEq (tOp (rIx K) (tVar 4) (tC (.int 0))) (tVar 2))) (tFor (iList K (tDGet (tVar 1) (tOp (rIx K) (tVar 4) (tC (.int 1))))) (gName 5) (sDPut (tVar 3) (tVar 5) (tC (.bl true)))) tNext))
    (sDPut (tVar 1) (tVar 2) (tCB fSortD (tCons (tVar 3) tNil))))))
    (tRet (tVar 1))))
def insAll (fs ns : List Int) : List Int := ns.foldl ins1 fs
theorem insAll_snoc (fs ns : List Int) (n : Int) : insAll fs (ns ++ [n]) = ins1 (insAll fs ns) n := by
  unfold insAll
  rw [List.foldl_append]
  rfl
theorem mem_insAll {x : Int} : ∀ {ns fs : List Int}, x ∈ insAll fs ns ↔ x ∈ fs ∨ x ∈ ns
  | [], fs => ⟨Or.inl, fun h => h.elim id fun z => nomatch z⟩
  | n :: r, fs => by
    show x ∈ insAll (ins1 fs n) r ↔ _
    rw [mem_insAll, mem_ins1, List.mem_cons, or_assoc]
theorem nodup_insAll : ∀ {ns fs : List Int}, fs.Nodup → (insAll fs ns).Nodup
  | [], _, h => h
  | n :: r, fs, h => nodup_insAll (ns := r) (fs := ins1 fs n) (nodup_ins1 h)
theorem length_sub : ∀ {fs vs : List Int}, fs.Nodup → (∀ x ∈ fs, x ∈ vs) → fs.length ≤ vs.length
  | [], _, _, _ => Nat.zero_le _
  | x :: r, vs, nd, h => by
    obtain ⟨n1, n2⟩ := List.nodup_cons.mp nd
    have hx := h x (List.mem_cons_self ..)
    have := length_sub (vs := vs.erase x) n2 fun y hy => (List.mem_erase_of_ne fun e => n1 (by rw [← e]; exact hy)).mpr (h y (List.mem_cons_of_mem _ hy))
    rw [List.length_erase_of_mem hx] at this
    have := List.length_pos_of_mem hx
    rw [List.length_cons]
    omega
/-- what is found for v behind the first j links -/
def Fnd (ls : List (Int × Int)) (v : Int) (j : Nat) (fs : List Int) : Prop := fs.Nodup ∧ ∀ x, x ∈ fs ↔ x = v ∨ ∃ l ∈ ls.take j, l.1 = v ∧ Dn ls l.2 x
theorem Fnd.all {ls : List (Int × Int)} {v : Int} {fs : List Int} (h : Fnd ls v ls.length fs) (x : Int) : x ∈ fs ↔ Dn ls v x := by
  rw [h.2, List.take_length]
  refine ⟨fun k => ?_, fun k => ?_⟩
  · rcases k with rfl | ⟨l, hl, rfl, d⟩
    · exact .refl _
    · exact .step hl d
  · cases k with
    | refl => exact .inl rfl
    | step hl d => exact .inr ⟨_, hl, rfl, d⟩
theorem pure_l_spans {K : PySem.W.Frag} {vs : List V} {H : Hp} {Q : VK} {E : XK} (h : sp_l_spans K vs H Q E) : t_l_spans K { nx := fun _ H' => Q .non H', rt := Q } (start N_l_spans vs) H := by
  obtain ⟨p, ws, ls, rfl, ⟨q, r, rs, hp, hq, hr, lk⟩, g, hw, hlz, k⟩ := h
  refine fun R nR => ?_
  have upR : Same H (upd H R (.dK [])) := fun b o e => updN (ne_of_none e nR) e
  refine ⟨_, rfl, ixT (upR _ _ hp) rfl ⟨q, rfl, ⟨_, sqT (upR _ _ hq)⟩, ?_⟩⟩
  refine for_tup (K := K) (a := q) (xs := ws.map V.int) (fun i σ H' => ∃ (as : List Addr) (z2 z3 z4 z5 : Option V), σ = [some (.ref p), some (.ref R), z2, z3, z4, z5] ∧ (Same H H' ∧ ∀ a ∈ as, H a = none) ∧ RowsAt H' R ws ls (ws.take i) as) ?_ ?_ ?_ ?_
  · refine ⟨[], none, none, none, none, rfl, ⟨upR, fun a ha => nomatch ha⟩, rfl, ?_, fun i v a h1 _ => by rw [List.take_zero] at h1; cases h1⟩
    rw [List.take_zero]
    exact updS
  · rintro i σ H' _ ⟨_, _, _, _, _, _, ⟨s, _⟩, _⟩
    exact sqT (s _ _ hq)
  · rintro i x σ H1 hx ⟨as, z2, z3, z4, z5, rfl, ⟨s1, hfree⟩, hal, hR, hrow⟩
    rw [List.getElem?_map] at hx
    cases ev : ws[i]? with
    | none => rw [ev] at hx; cases hx
    | some v =>
      rw [ev] at hx
      cases Option.some.inj hx
      have hvm : v ∈ ws := List.mem_of_getElem? ev
      have hi : i < ws.length := (List.getElem?_eq_some_iff.mp ev).1
      have htl : (ws.take i).length = i := by rw [List.length_take]; omega
      -- found = {version: True}
      refine fun F nF => ⟨_, rfl, updS, [(Sum.inl v, .bl true)], rfl, (by show (1 : Nat) ≤ 15; decide), ?_⟩
      rw [upd_upd]
      have e0 : mergeK [] [((Sum.inl v : Key), V.bl true)] = mkS [v] := rfl
      rw [e0]
      have sF : ∀ kvs, Same H1 (upd H1 F (.dK kvs)) := fun kvs b o e => updN (ne_of_none e nF) e
      have nRF : R ≠ F := ne_of_none hR nF
      -- for two in web[1]
      refine ⟨_, rfl, ixT (sF _ _ _ (s1 _ _ hp)) rfl ⟨r, rfl, ⟨_, sqT (sF _ _ _ (s1 _ _ hr))⟩, ?_⟩⟩
      refine for_tup (K := K) (a := r) (xs := rs.map V.ref) (fun j σ H' => ∃ (fs : List Int) (z4 z5 : Option V), σ = [some (.ref p), some (.ref R), some (.int v), some (.ref F), z4, z5] ∧ H' = upd H1 F (.dK (mkS fs)) ∧ Fnd ls v j fs) ?_ ?_ ?_ ?_
      · refine ⟨[v], z4, z5, rfl, rfl, List.pairwise_singleton _ _, fun x => ?_⟩
        rw [List.mem_singleton, List.take_zero]
        exact ⟨Or.inl, fun h => h.elim id fun ⟨l, hl, _⟩ => nomatch hl⟩
      · rintro j σ H' _ ⟨_, _, _, _, rfl, _⟩
        exact sqT (sF _ _ _ (s1 _ _ hr))
      · rintro j x σ H' hxj ⟨fs, z4, z5, rfl, rfl, fd⟩
        rw [List.getElem?_map] at hxj
        cases er : rs[j]? with
        | none => rw [er] at hxj; cases hxj
        | some b =>
          rw [er] at hxj
          cases Option.some.inj hxj
          have hj : j < ls.length := by rw [← lk.1]; exact (List.getElem?_eq_some_iff.mp er).1
          have el : ls[j]? = some ls[j] := List.getElem?_eq_getElem hj
          generalize ls[j] = l at el
          have hb : upd H1 F (.dK (mkS fs)) b = some (.tup [.int l.1, .int l.2]) := sF _ _ _ (s1 _ _ (lk.2 j b l er el))
          have hlm : l ∈ ls := List.mem_of_getElem? el
          obtain ⟨m1, m2, m3⟩ := g.mem l hlm
          have tk : ls.take (j + 1) = ls.take j ++ [l] := take_snoc el
          refine ⟨_, rfl, ixT hb rfl ⟨_, rfl, rfl, _, rfl, ite2 (fun e => ?_) (fun e => ?_)⟩⟩
          · have e1 : l.1 = v := V.int.inj (of_decide_eq_true e)
            -- for low in rows[two[1]]
            obtain ⟨m, hm, em⟩ := List.getElem_of_mem m2
            have em2 : ws[m]? = some l.2 := List.getElem?_eq_some_iff.mpr ⟨hm, em⟩
            have hmi : m < i := by
              have h1 := List.getElem?_eq_some_iff.mp ev
              have : ¬ i ≤ m := fun hle => by
                rcases Nat.lt_or_eq_of_le hle with hlt | heq
                · have := List.pairwise_iff_getElem.mp g.inc i m h1.1 hm hlt
                  rw [h1.2, em] at this
                  omega
                · subst heq
                  rw [em2] at ev
                  have := Option.some.inj ev
                  omega
              omega
            have em3 : (ws.take i)[m]? = some l.2 := by rw [List.getElem?_take_of_lt hmi]; exact em2
            have hma : m < as.length := by rw [hal, htl]; exact hmi
            have ea : as[m]? = some as[m] := List.getElem?_eq_getElem hma
            have rv : valV (rowsKV (ws.take i) as) (.inl l.2) = some (.ref as[m]) := rows_val ((rising_nodup g.inc).sublist (List.take_sublist _ _)) em3 ea
            have hlist := hrow m l.2 as[m] em3 ea
            refine ⟨_, rfl, _, rfl, ixT hb rfl ⟨R, _, rfl, ?_, as[m], rfl, ⟨_, sqL (sF _ _ _ hlist)⟩, ?_⟩⟩
            · have := DGet.k (k := Sum.inl l.2) (sF (mkS fs) _ _ hR)
              rw [rv] at this
              exact this
            · refine for_list (K := K) (a := as[m]) (xs := (belowL ws ls l.2).map V.int) (fun n σ H' => ∃ z5 : Option V, σ = [some (.ref p), some (.ref R), some (.int v), some (.ref F), some (.ref b), z5] ∧ H' = upd H1 F (.dK (mkS (insAll fs ((belowL ws ls l.2).take n))))) ?_ ?_ ?_ ?_
              · exact ⟨z5, rfl, by rw [List.take_zero]; rfl⟩
              · rintro n σ H' _ ⟨_, _, rfl⟩
                exact sqL (sF _ _ _ hlist)
              · rintro n x σ H' hxn ⟨z5, rfl, rfl⟩
                rw [List.getElem?_map] at hxn
                cases eu : (belowL ws ls l.2)[n]? with
                | none => rw [eu] at hxn; cases hxn
                | some u =>
                  rw [eu] at hxn
                  cases Option.some.inj hxn
                  have hnd : (insAll fs ((belowL ws ls l.2).take n)).Nodup := nodup_insAll fd.1
                  have hlen : (mkS (insAll fs ((belowL ws ls l.2).take n))).length < sizeLine := by
                    rw [mkS_length]
                    have := length_sub (vs := ws) hnd fun y hy => by
                      rcases mem_insAll.mp hy with hy | hy
                      · rcases (fd.2 y).mp hy with rfl | ⟨l', hl', _, d⟩
                        · exact hvm
                        · exact d.mem g (g.mem l' (List.mem_of_mem_take hl')).2.1
                      · exact ((mem_belowL g m2).mp (List.mem_of_mem_take hy)).mem g m2
                    exact Nat.lt_of_le_of_lt (show _ ≤ 1000 by omega) (by decide)
                  refine ⟨_, rfl, _, rfl, F, _, rfl, DPut.k (k := Sum.inl u) updS hlen, _, rfl, ?_⟩
                  rw [upd_upd, mkS_put, take_snoc eu, insAll_snoc]
              · rintro σ H' ⟨z5, rfl, rfl⟩
                rw [List.length_map, List.take_length]
                refine ⟨_, _, _, rfl, rfl, nodup_insAll fd.1, fun x => ?_⟩
                rw [mem_insAll, fd.2, mem_belowL g m2, tk]
                refine ⟨fun h => ?_, fun h => ?_⟩
                · rcases h with (h | ⟨l', hl', h⟩) | h
                  · exact .inl h
                  · exact .inr ⟨l', List.mem_append_left _ hl', h⟩
                  · exact .inr ⟨l, List.mem_append_right _ (List.mem_singleton.mpr rfl), e1, h⟩
                · rcases h with h | ⟨l', hl', e', d⟩
                  · exact .inl (.inl h)
                  · rcases List.mem_append.mp hl' with hl' | hl'
                    · exact .inl (.inr ⟨l', hl', e', d⟩)
                    · cases List.mem_singleton.mp hl'
                      exact .inr d
          · have e1 : ¬ l.1 = v := fun z => e (decide_eq_true (by rw [z]))
            refine ⟨fs, _, _, rfl, rfl, fd.1, fun x => ?_⟩
            rw [fd.2, tk]
            refine or_congr Iff.rfl ⟨fun ⟨l', hl', h⟩ => ⟨l', List.mem_append_left _ hl', h⟩, fun ⟨l', hl', h⟩ => ?_⟩
            rcases List.mem_append.mp hl' with hl' | hl'
            · exact ⟨l', hl', h⟩
            · cases List.mem_singleton.mp hl'
              exact absurd h.1 e1
      · rintro σ H' ⟨fs, z4, z5, rfl, rfl, fd⟩
        rw [List.length_map, lk.1] at fd
        have hin : ∀ x ∈ fs, x ∈ ws := fun x hx => ((fd.all x).mp hx).mem g hvm
        have hfl := length_sub fd.1 hin
        -- rows[version] = sorted(found)
        refine ⟨_, rfl, F, mkS fs, fs, rfl, .inl updS, mkS_keys fs, by omega, fun ys S py sy nS => ?_⟩
        have ey : ys = belowL ws ls v := by
          rw [sorted_is g.inc fd.1 hin py sy]
          unfold belowL
          refine List.filter_congr fun u _ => ?_
          have : fs.contains u = (lower ls [v]).contains u := by
            rw [Bool.eq_iff_iff, List.contains_iff_mem, List.contains_iff_mem, fd.all, mem_lower g]
            exact ⟨fun d => ⟨v, List.mem_singleton.mpr rfl, d⟩, fun ⟨s, hs, d⟩ => by rw [← List.mem_singleton.mp hs]; exact d⟩
          exact this
        subst ey
        have nSR : R ≠ S := ne_of_none (sF (mkS fs) _ _ hR) nS
        have nS1 : H1 S = none := by
          cases e : H1 S with
          | none => rfl
          | some o => rw [sF (mkS fs) _ _ e] at nS; cases nS
        have nvt : v ∉ ws.take i := fun hm => by
          obtain ⟨j, hj, e⟩ := List.getElem_of_mem hm
          rw [htl] at hj
          rw [List.getElem_take] at e
          have h1 := List.getElem?_eq_some_iff.mp ev
          have := (List.getElem_inj (rising_nodup g.inc)).mp (e.trans h1.2.symm)
          omega
        refine ⟨_, rfl, _, rfl, R, _, rfl, DPut.k (k := Sum.inl v) (updN nSR (sF _ _ _ hR)) ?_, as ++ [S], _, _, _, _, rfl, ?_, ?_, ?_, ?_⟩
        · rw [rowsKV_length hal, htl]
          exact Nat.lt_of_le_of_lt (show i ≤ 1000 by omega) (by decide)
        · refine ⟨fun b o e => updN (ne_of_none e nR) (updN (ne_of_none (s1 _ _ e) nS1) (sF _ _ _ (s1 _ _ e))), fun a ha => ?_⟩
          rcases List.mem_append.mp ha with ha | ha
          · exact hfree a ha
          · rw [List.mem_singleton.mp ha]
            exact s1.free nS1
        · rw [List.length_append, take_snoc ev, List.length_append, hal]
          rfl
        · rw [updS, putK_new _ (rows_none nvt), take_snoc ev, rowsKV_snoc hal]
        · intro m w a h1 h2
          have keep : ∀ b xs, H1 b = some (.lst xs) → upd (upd (upd H1 F (.dK (mkS fs))) S (.lst ((belowL ws ls v).map V.int))) R (.dK (putK (rowsKV (ws.take i) as) (.inl v) (.ref S))) b = some (.lst xs) := fun b xs e =>
            updN (ne_of e hR (by intro z; cases z)) (updN (ne_of_none e nS1) (sF _ _ _ e))
          rw [take_snoc ev] at h1
          by_cases hmi : m < i
          · rw [List.getElem?_append_left (by rw [htl]; exact hmi)] at h1
            rw [List.getElem?_append_left (by rw [hal, htl]; exact hmi)] at h2
            exact keep _ _ (hrow m w a h1 h2)
          · have hm2 := (List.getElem?_eq_some_iff.mp h1).1
            rw [List.length_append, htl, List.length_singleton] at hm2
            have : m = i := by omega
            subst this
            rw [List.getElem?_append_right (by rw [htl]; exact Nat.le_refl _), htl, Nat.sub_self] at h1
            rw [List.getElem?_append_right (by rw [hal, htl]; exact Nat.le_refl _), hal, htl, Nat.sub_self] at h2
            cases Option.some.inj h1
            cases Option.some.inj h2
            exact updN nSR.symm updS
  · rintro σ H' ⟨as, z2, z3, z4, z5, rfl, ⟨s1, hfree⟩, rw1⟩
    rw [List.length_map, List.take_length] at rw1
    exact ⟨_, rfl, k R as _ s1 nR rw1 hfree⟩
end Fw

set_option Elab.async false
set_option linter.all false
set_option maxRecDepth 100000
set_option maxHeartbeats 4000000
namespace Fw
open PySem L2 RZ RT
/-! ### ladders -/
/-- where one list of links grows -/
structure LI (H0 : Hp) (c D LL : Addr) (ns : List Int) (t : Nat) (rs : List Addr) (ls : List (Int × Int)) (H : Hp) : Prop where
  dk : Dk c D ns t H
  keep : Kp D H0 H
  hl : H LL = some (.lst (rs.map V.ref))
  pr : LkAt H rs ls
  d0 : ∃ t0, Dk c D ns t0 H0
  l0 : H0 LL = none
section
variable {H0 H H' : Hp} {c D LL q : Addr} {ns : List Int} {t t' : Nat} {rs : List Addr} {ls : List (Int × Int)} {o : HO}
theorem LI.lD (s : LI H0 c D LL ns t rs ls H) : LL ≠ D := s.d0.choose_spec.neD s.l0
theorem LI.lC (s : LI H0 c D LL ns t rs ls H) : LL ≠ c := s.d0.choose_spec.neC s.l0
theorem LI.new (s : LI H0 c D LL ns t rs ls H) (n : H q = none) : LI H0 c D LL ns t rs ls (upd H q o) :=
  ⟨s.dk.upd (s.dk.neC n) (s.dk.neD n), s.keep.trans (.new n), updN (ne_of_none s.hl n) s.hl, s.pr.mono fun a xs h => updN (ne_of_none h n) h, s.d0, s.l0⟩
theorem LI.addL (s : LI H0 c D LL ns t rs ls H) {T : Addr} {l : Int × Int} (hT : H T = some (.tup [.int l.1, .int l.2])) : LI H0 c D LL ns t (rs ++ [T]) (ls ++ [l]) (upd H LL (.lst (rs.map V.ref ++ [.ref T]))) :=
  ⟨s.dk.upd s.lC s.lD, fun b u e n => updN (ne_of_none e s.l0) (s.keep b u e n), by rw [updS, List.map_append]; rfl, (s.pr.snoc hT).mono fun a xs h => updN (ne_of h s.hl (by intro z; cases z)) h, s.d0, s.l0⟩
end
theorem GI.le {vs : List Int} {ls : List (Int × Int)} {last : Int} {j j' : Nat} (g : GI vs ls last j) (h : j ≤ j') : GI vs ls last j' :=
  ⟨g.inc, g.nn, g.top, g.lz, g.mem, g.lex, fun l hl => (g.new l hl).imp id fun k => ⟨k.1, fun i w hi => k.2 i w (by omega)⟩⟩
theorem vsL_snoc (a g : Int) (n : Nat) : vsL a g (n + 1) = vsL a g n ++ [a + g * (n : Int)] := by
  unfold vsL
  rw [List.range_succ, List.map_append]
  rfl
/-- the place behind j1, behind j2 -/
def ix2 (j1 j2 : Int) (n : Nat) : Nat := if n = 0 then 0 else if n = 1 then (j1 + 1).toNat else (j2 + 1).toNat
abbrev sp_l_ladder (_ : PySem.W.Frag) : Sp := sp_mkshape 60 4000 (fun most n => (n : Int) ≤ most) (fun _ ls => ls.length ≤ 4000)
theorem len_l_ladder {K : PySem.W.Frag} {vs : List V} {H : Hp} {Q : VK} {E : XK} (h : sp_l_ladder K vs H Q E) : vs.length = 2 := len_mkshape h
abbrev N_l_ladder : List Str := ["_law_deck_here", "_law_most", "_law_first", "_law_gap", "_law_pairs", "_law_many", "_law_links", "_law_k", "_law_j"]
def t_l_ladder_b (K : PySem.W.Frag) : TS := (tFor (iList K (tLst (tCons (tOp rSubI (tVar 7) (tC (.int 2))) (tCons (tOp rSubI (tVar 7) (tC (.int 1))) tNil)))) (gName 8) (tIfS (tAnd (tTest (tOp rEq (tVar 4) (tC (.int 0)))) (tTest (tOp rGeI (tVar 8) (tC (.int 0))))) (tDrop (tBM K "list" rAppend (tVar 6) (tCons (tTup (tCons (tOp rAddI (tVar 2) (tOp rMulI (tVar 3) (tVar 7))) (tCons (tOp rAddI (tVar 2) (tOp rMulI (tVar 3) (tVar 8))) tNil))) tNil))) tNext))
def t_l_ladder_a (K : PySem.W.Frag) : TS := (tSeq (tFor (iList K (tLst (tCons (tOp rAddI (tOp rSubI (tVar 7) (tC (.int 3))) (tOp rModI (tOp rAddI (tVar 7) (tC (.int 1))) (tC (.int 2)))) (tCons (tOp rAddI (tOp rSubI (tVar 7) (tC (.int 2))) (tOp rModI (tOp rAddI (tVar 7) (tC (.int 1))) (tC (.int 2)))) tNil)))) (gName 8) (tIfS (tAnd (tTest (tOp rEq (tVar 4) (tC (.int 1)))) (tTest (tOp rGeI (tVar 8) (tC (.int 0))))) (tDrop (tBM K "list" rAppend (tVar 6) (tCons (tTup (tCons (tOp rAddI (tVar 2) (tOp rMulI (tVar 3) (tVar 7))) (tCons (tOp rAddI (tVar 2) (tOp rMulI (tVar 3) (tVar 8))) tNil))) tNil))) tNext))
    (t_l_ladder_b K))
def t_l_ladder_end (K : PySem.W.Frag) : TS := (tRet (tTup (tCons (tCB (fTupleOf K) (tCons (tLc (iRng1 (tCons (tVar 5) tNil)) (gName 7) tYes (tOp rAddI (tVar 2) (tOp rMulI (tVar 3) (tVar 7))) [7]) tNil)) (tCons (tCB (fTupleOf K) (tCons (tVar 6) tNil)) tNil))))
def t_l_ladder_loop (K : PySem.W.Frag) : TS := (tSeq (tFor (iRng1 (tCons (tVar 5) tNil)) (gName 7) (t_l_ladder_a K))
    (t_l_ladder_end K))
def t_l_ladder (K : PySem.W.Frag) : TS := (tSeq (tAsg (tCall (sp_l_draw K) [] E0 (tCons (tVar 0) (tCons (tOp rPowI (tC (.int 10)) (tC (.int 6))) tNil))) (gName 2))
    (tSeq (tAsg (tOp rAddI (tC (.int 1)) (tCall (sp_l_draw K) [] E0 (tCons (tVar 0) (tCons (tC (.int 3)) tNil)))) (gName 3))
    (tSeq (tAsg (tCall (sp_l_draw K) [] E0 (tCons (tVar 0) (tCons (tC (.int 2)) tNil))) (gName 4))
    (tSeq (tAsg (tOp rAddI (tOp rDivI (tVar 1) (tC (.int 2))) (tCall (sp_l_draw K) [] E0 (tCons (tVar 0) (tCons (tOp rAddI (tOp rDivI (tVar 1) (tC (.int 2))) (tC (.int 1))) tNil)))) (gName 5))
    (tSeq (tAsg (tLst tNil) (gName 6))
    (t_l_ladder_loop K))))))
/-- the state of a loop over two -/
def Lad (H : Hp) (c D LL : Addr) (ns : List Int) (most a gp pr many : Int) (t i : Nat) (pv : Int) (j0 : Nat) (ix : Nat → Nat) (add : Nat) (n : Nat) (σ : L2.St) (H' : Hp) : Prop := ∃ (rs : List Addr) (ls : List (Int × Int)) (z8 : Option V),
  σ = [some (.ref D), some (.int most), some (.int a), some (.int gp), some (.int pr), some (.int many), some (.ref LL), some (.int (0 + (i : Int))), z8] ∧ LI H c D LL ns (t + 4) rs ls H' ∧ GI (vsL a gp i) ls (a + gp * (i : Int)) (if pr = pv then ix n else j0) ∧ ls.length ≤ 4 * i + add + n
theorem pure_l_ladder {K : PySem.W.Frag} {vs : List V} {H : Hp} {Q : VK} {E : XK} (h : sp_l_ladder K vs H Q E) : t_l_ladder K { nx := fun _ H' => Q .non H', rt := Q } (start N_l_ladder vs) H := by
  obtain ⟨c, D, ns, t, most, rfl, dk, m0, m1, ht, k⟩ := h
  refine ⟨_, rfl, _, _, rfl, rfl, ⟨by decide, by decide, by decide⟩, c, D, ns, t, _, rfl, dk, by omega, by rw [pow6]; decide, by rw [pow6]; decide, fun a H1 a0 a1 d1 fr1 => ?_⟩
  rw [pow6] at a1
  refine ⟨_, rfl, c, D, ns, _, 3, rfl, d1, by omega, by decide, by decide, fun g1 H2 g10 g11 d2 fr2 => ⟨_, _, rfl, rfl, ?_⟩⟩
  refine ⟨_, rfl, c, D, ns, _, 2, rfl, d2, by omega, by decide, by decide, fun pr H3 p0 p1 d3 fr3 => ?_⟩
  refine ⟨_, rfl, _, _, rfl, rfl, ⟨by decide, by decide⟩, _, rfl, _, rfl, _, _, rfl, rfl, ⟨by decide, by decide⟩, _, _, rfl, rfl, c, D, ns, _, most / 2 + 1, rfl, d3, by omega, by omega, small100 (by omega), fun x H4 x0 x1 d4 fr4 => ⟨_, _, rfl, rfl, ?_⟩⟩
  have k4 : Kp D H H4 := (((Kp.fr fr1).trans (.fr fr2)).trans (.fr fr3)).trans (.fr fr4)
  obtain ⟨N, hN⟩ := Int.eq_ofNat_of_zero_le (show 0 ≤ most / 2 + x by omega)
  obtain ⟨gp, hgp⟩ : ∃ gp, gp = 1 + g1 := ⟨_, rfl⟩
  have gp0 : 1 ≤ gp := by omega
  have gp1 : gp ≤ 3 := by omega
  refine ⟨Nat.zero_le _, fun LL nL => ?_⟩
  show t_l_ladder_loop K _ [some (.ref D), some (.int most), some (.int a), some (.int (1 + g1)), some (.int pr), some (.int (most / 2 + x)), some (.ref LL), none, none] _
  rw [← hgp]
  generalize hmany : most / 2 + x = many at *
  have s0 : LI H c D LL ns (t + 4) [] [] (upd H4 LL (.lst [])) := ⟨d4.upd (d4.neC nL) (d4.neD nL), k4.trans (.new nL), updS, ⟨rfl, fun i b l h1 _ => by cases h1⟩, ⟨t, dk⟩, k4.free nL (d4.neD nL)⟩
  refine ⟨_, rfl, _, rfl, by omega, by omega, ?_⟩
  have eN : many.toNat = N := by omega
  rw [eN]
  refine for_range (lo := 0) (n := N) (fun i σ H' => ∃ (rs : List Addr) (ls : List (Int × Int)) (z7 z8 : Option V), σ = [some (.ref D), some (.int most), some (.int a), some (.int gp), some (.int pr), some (.int many), some (.ref LL), z7, z8] ∧ LI H c D LL ns (t + 4) rs ls H' ∧ Good (vsL a gp i) ls ∧ ls.length ≤ 4 * i) ?_ ?_ ?_
  · exact ⟨[], [], none, none, rfl, s0, good_nil, Nat.le_refl _⟩
  · rintro i σ H5 hi ⟨rs, ls, z7, z8, rfl, s, g, hlen⟩
    have g0 : GI (vsL a gp i) ls (a + gp * (i : Int)) 0 := .open g (fun v hv => by
      obtain ⟨kk, hk, rfl⟩ := vsL_mem hv
      exact mono_g (by omega) hk) (by
      have := Int.mul_nonneg (show 0 ≤ gp by omega) (show (0 : Int) ≤ (i : Int) by omega)
      omega)
    have e0 : (0 : Int) + (i : Int) = (i : Int) := Int.zero_add _
    have pickA : ∀ (n : Nat) (x : V), [V.int ((i : Int) - 3 + ((i : Int) + 1) % 2), V.int ((i : Int) - 2 + ((i : Int) + 1) % 2)][n]? = some x → ∃ j : Int, x = .int j ∧ (j < (i : Int)) ∧ ix2 ((i : Int) - 3 + ((i : Int) + 1) % 2) ((i : Int) - 2 + ((i : Int) + 1) % 2) n ≤ j.toNat ∧ (j + 1).toNat ≤ ix2 ((i : Int) - 3 + ((i : Int) + 1) % 2) ((i : Int) - 2 + ((i : Int) + 1) % 2) (n + 1) := by
      intro n x hx
      match n, hx with
      | 0, hx => exact ⟨_, (Option.some.inj hx).symm, by omega, by show 0 ≤ _; omega, Nat.le_refl _⟩
      | 1, hx => exact ⟨_, (Option.some.inj hx).symm, by omega, by show ((i : Int) - 3 + ((i : Int) + 1) % 2 + 1).toNat ≤ _; omega, Nat.le_refl _⟩
      | n + 2, hx => simp at hx
    have pickB : ∀ (n : Nat) (x : V), [V.int ((i : Int) - 2), V.int ((i : Int) - 1)][n]? = some x → ∃ j : Int, x = .int j ∧ (j < (i : Int)) ∧ ix2 ((i : Int) - 2) ((i : Int) - 1) n ≤ j.toNat ∧ (j + 1).toNat ≤ ix2 ((i : Int) - 2) ((i : Int) - 1) (n + 1) := by
      intro n x hx
      match n, hx with
      | 0, hx => exact ⟨_, (Option.some.inj hx).symm, by omega, by show 0 ≤ _; omega, Nat.le_refl _⟩
      | 1, hx => exact ⟨_, (Option.some.inj hx).symm, by omega, by show ((i : Int) - 2 + 1).toNat ≤ _; omega, Nat.le_refl _⟩
      | n + 2, hx => simp at hx
    have second : ∀ (jz : Nat) (rs : List Addr) (ls : List (Int × Int)) (z8 : Option V) (H6 : Hp) (Dd : Ends), (∀ (rs : List Addr) (ls : List (Int × Int)) (z7 z8 : Option V) (H' : Hp), LI H c D LL ns (t + 4) rs ls H' → Good (vsL a gp (i + 1)) ls → ls.length ≤ 4 * (i + 1) → Dd.nx [some (.ref D), some (.int most), some (.int a), some (.int gp), some (.int pr), some (.int many), some (.ref LL), z7, z8] H') →
        LI H c D LL ns (t + 4) rs ls H6 → GI (vsL a gp i) ls (a + gp * (i : Int)) (if pr = 0 then 0 else jz) → ls.length ≤ 4 * i + 2 → t_l_ladder_b K Dd [some (.ref D), some (.int most), some (.int a), some (.int gp), some (.int pr), some (.int many), some (.ref LL), some (.int (0 + (i : Int))), z8] H6 := by
      intro jz rs ls z8 H6 Dd kd s5 g5 hl5
      refine ⟨_, rfl, _, _, rfl, rfl, _, rfl, _, _, rfl, rfl, (by show (2 : Nat) ≤ sizeLine; decide), fun q nq => ⟨q, rfl, ⟨_, sqL updS⟩, ?_⟩⟩
      have ex : [V.int (0 + (i : Int) - 2), V.int (0 + (i : Int) - 1)] = [V.int ((i : Int) - 2), V.int ((i : Int) - 1)] := by rw [e0]
      have sq : LI H c D LL ns (t + 4) rs ls (upd H6 q (.lst [V.int ((i : Int) - 2), V.int ((i : Int) - 1)])) := s5.new nq
      have nqL : q ≠ LL := (ne_of_none s5.hl nq).symm
      show ∃ W : Nat → Nat → L2.St → Hp → Prop, (∃ m, W 0 m _ (upd H6 q (.lst [V.int (0 + (i : Int) - 2), V.int (0 + (i : Int) - 1)]))) ∧ _
      rw [ex]
      refine for_list (K := K) (a := q) (xs := [V.int ((i : Int) - 2), V.int ((i : Int) - 1)]) (fun n σ H' => Lad H c D LL ns most a gp pr many t i 0 jz (ix2 ((i : Int) - 2) ((i : Int) - 1)) 2 n σ H' ∧ H' q = some (.lst [V.int ((i : Int) - 2), V.int ((i : Int) - 1)])) ?_ ?_ ?_ ?_
      · exact ⟨⟨rs, ls, z8, rfl, sq, g5, hl5⟩, updS⟩
      · rintro n σ H' _ ⟨_, hq⟩
        exact sqL hq
      · rintro n x σ H6 hx ⟨⟨rs, ls, z8, rfl, s6, g6, hl6⟩, hq6⟩
        have hn2 : n < 2 := (List.getElem?_eq_some_iff.mp hx).1
        obtain ⟨j, rfl, hj1, hj2, hj3⟩ := pickB n x hx
        have nxt : ∀ (rs : List Addr) (ls : List (Int × Int)) (H7 : Hp), LI H c D LL ns (t + 4) rs ls H7 → GI (vsL a gp i) ls (a + gp * (i : Int)) (if pr = 0 then (ix2 ((i : Int) - 2) ((i : Int) - 1)) (n + 1) else jz) → ls.length ≤ 4 * i + 2 + n + 1 → H7 q = some (.lst [V.int ((i : Int) - 2), V.int ((i : Int) - 1)]) → Lad H c D LL ns most a gp pr many t i 0 jz (ix2 ((i : Int) - 2) ((i : Int) - 1)) 2 (n + 1) [some (.ref D), some (.int most), some (.int a), some (.int gp), some (.int pr), some (.int many), some (.ref LL), some (.int (0 + (i : Int))), some (.int j)] H7 ∧ H7 q = some (.lst [V.int ((i : Int) - 2), V.int ((i : Int) - 1)]) := fun rs ls H7 s7 g7 hl7 hq7 => ⟨⟨rs, ls, _, rfl, s7, g7, by omega⟩, hq7⟩
        refine ⟨_, rfl, rfl, _, rfl, ite2 (fun e => ?_) (fun e => ?_)⟩
        · have e1 : pr = 0 := V.int.inj (of_decide_eq_true e)
          rw [if_pos e1] at g6
          refine ⟨_, rfl, _, _, rfl, rfl, _, rfl, ite2 (fun e2 => ?_) (fun e2 => ?_)⟩
          · have j0 : 0 ≤ j := of_decide_eq_true e2
            obtain ⟨J, rfl⟩ := Int.eq_ofNat_of_zero_le j0
            have gj : GI (vsL a gp i) ls (a + gp * (i : Int)) J := g6.le (by omega)
            have wj : (vsL a gp i)[J]? = some (a + gp * (J : Int)) := vsL_get (by omega)
            refine ⟨_, rfl, .inl ⟨rfl, _, sqL s6.hl⟩, _, rfl, _, rfl, _, rfl, _, _, rfl, rfl, .inl ⟨by omega, by omega⟩, _, _, rfl, rfl, _, rfl, _, rfl, _, rfl, _, _, rfl, rfl, .inl ⟨by omega, by omega⟩, _, _, rfl, rfl, (by show (2 : Nat) ≤ sizeLine; decide), fun T nT => ?_⟩
            rw [e0]
            have s8 : LI H c D LL ns (t + 4) rs ls (upd H6 T (.tup [.int (a + gp * (i : Int)), .int (a + gp * (J : Int))])) := s6.new nT
            refine ⟨LL, _, _, rfl, rfl, s8.hl, ?_, ?_⟩
            · rw [List.length_map, s6.pr.1]
              exact Nat.lt_of_le_of_lt (show ls.length ≤ 1000 by omega) (by decide)
            · have h9 := nxt (rs ++ [T]) (ls ++ [(a + gp * (i : Int), a + gp * (J : Int))]) _ (s8.addL (l := (a + gp * (i : Int), a + gp * (J : Int))) updS) (by rw [if_pos e1]; exact (gj.hit wj).le (by omega)) (by rw [List.length_append, List.length_singleton]; omega) (updN nqL (updN (ne_of_none hq6 nT) hq6))
              rw [e0] at h9
              exact h9
          · have j0 : ¬ 0 ≤ j := fun z => e2 (decide_eq_true z)
            exact nxt rs ls H6 s6 (by rw [if_pos e1]; exact g6.le (by omega)) (by omega) hq6
        · have e1 : ¬ pr = 0 := fun z => e (decide_eq_true (by rw [z]))
          rw [if_neg e1] at g6
          exact iteF (nxt rs ls H6 s6 (by rw [if_neg e1]; exact g6) (by omega) hq6)
      · rintro σ H' ⟨⟨rs, ls, z8, rfl, s6, g6, hl6⟩, _⟩
        refine kd rs ls _ _ H' s6 ?_ (by show _ ≤ _; have : [V.int ((i : Int) - 2), V.int ((i : Int) - 1)].length = 2 := rfl; omega)
        rw [vsL_snoc]
        exact g6.close
    refine ⟨_, rfl, _, _, rfl, rfl, _, rfl, _, _, rfl, rfl, _, _, rfl, rfl, (by show (0 : Int) < 2; decide), _, _, rfl, rfl, _, rfl, _, _, rfl, rfl, _, rfl, _, _, rfl, rfl, _, _, rfl, rfl, (by show (0 : Int) < 2; decide), _, _, rfl, rfl, (by show (2 : Nat) ≤ sizeLine; decide), fun q nq => ⟨q, rfl, ⟨_, sqL updS⟩, ?_⟩⟩
    have ex : [V.int (0 + (i : Int) - 3 + (0 + (i : Int) + 1) % 2), V.int (0 + (i : Int) - 2 + (0 + (i : Int) + 1) % 2)] = [V.int ((i : Int) - 3 + ((i : Int) + 1) % 2), V.int ((i : Int) - 2 + ((i : Int) + 1) % 2)] := by rw [e0]
    have sq : LI H c D LL ns (t + 4) rs ls (upd H5 q (.lst [V.int ((i : Int) - 3 + ((i : Int) + 1) % 2), V.int ((i : Int) - 2 + ((i : Int) + 1) % 2)])) := s.new nq
    have nqL : q ≠ LL := (ne_of_none s.hl nq).symm
    show ∃ W : Nat → Nat → L2.St → Hp → Prop, (∃ m, W 0 m _ (upd H5 q (.lst [V.int (0 + (i : Int) - 3 + (0 + (i : Int) + 1) % 2), V.int (0 + (i : Int) - 2 + (0 + (i : Int) + 1) % 2)]))) ∧ _
    rw [ex]
    refine for_list (K := K) (a := q) (xs := [V.int ((i : Int) - 3 + ((i : Int) + 1) % 2), V.int ((i : Int) - 2 + ((i : Int) + 1) % 2)]) (fun n σ H' => Lad H c D LL ns most a gp pr many t i 1 0 (ix2 ((i : Int) - 3 + ((i : Int) + 1) % 2) ((i : Int) - 2 + ((i : Int) + 1) % 2)) 0 n σ H' ∧ H' q = some (.lst [V.int ((i : Int) - 3 + ((i : Int) + 1) % 2), V.int ((i : Int) - 2 + ((i : Int) + 1) % 2)])) ?_ ?_ ?_ ?_
    · refine ⟨⟨rs, ls, z8, rfl, sq, ?_, hlen⟩, updS⟩
      split <;> exact g0
    · rintro n σ H' _ ⟨_, hq⟩
      exact sqL hq
    · rintro n x σ H6 hx ⟨⟨rs, ls, z8, rfl, s6, g6, hl6⟩, hq6⟩
      have hn2 : n < 2 := (List.getElem?_eq_some_iff.mp hx).1
      obtain ⟨j, rfl, hj1, hj2, hj3⟩ := pickA n x hx
      have nxt : ∀ (rs : List Addr) (ls : List (Int × Int)) (H7 : Hp), LI H c D LL ns (t + 4) rs ls H7 → GI (vsL a gp i) ls (a + gp * (i : Int)) (if pr = 1 then (ix2 ((i : Int) - 3 + ((i : Int) + 1) % 2) ((i : Int) - 2 + ((i : Int) + 1) % 2)) (n + 1) else 0) → ls.length ≤ 4 * i + 0 + n + 1 → H7 q = some (.lst [V.int ((i : Int) - 3 + ((i : Int) + 1) % 2), V.int ((i : Int) - 2 + ((i : Int) + 1) % 2)]) → Lad H c D LL ns most a gp pr many t i 1 0 (ix2 ((i : Int) - 3 + ((i : Int) + 1) % 2) ((i : Int) - 2 + ((i : Int) + 1) % 2)) 0 (n + 1) [some (.ref D), some (.int most), some (.int a), some (.int gp), some (.int pr), some (.int many), some (.ref LL), some (.int (0 + (i : Int))), some (.int j)] H7 ∧ H7 q = some (.lst [V.int ((i : Int) - 3 + ((i : Int) + 1) % 2), V.int ((i : Int) - 2 + ((i : Int) + 1) % 2)]) := fun rs ls H7 s7 g7 hl7 hq7 => ⟨⟨rs, ls, _, rfl, s7, g7, by omega⟩, hq7⟩
      refine ⟨_, rfl, rfl, _, rfl, ite2 (fun e => ?_) (fun e => ?_)⟩
      · have e1 : pr = 1 := V.int.inj (of_decide_eq_true e)
        rw [if_pos e1] at g6
        refine ⟨_, rfl, _, _, rfl, rfl, _, rfl, ite2 (fun e2 => ?_) (fun e2 => ?_)⟩
        · have j0 : 0 ≤ j := of_decide_eq_true e2
          obtain ⟨J, rfl⟩ := Int.eq_ofNat_of_zero_le j0
          have gj : GI (vsL a gp i) ls (a + gp * (i : Int)) J := g6.le (by omega)
          have wj : (vsL a gp i)[J]? = some (a + gp * (J : Int)) := vsL_get (by omega)
          refine ⟨_, rfl, .inl ⟨rfl, _, sqL s6.hl⟩, _, rfl, _, rfl, _, rfl, _, _, rfl, rfl, .inl ⟨by omega, by omega⟩, _, _, rfl, rfl, _, rfl, _, rfl, _, rfl, _, _, rfl, rfl, .inl ⟨by omega, by omega⟩, _, _, rfl, rfl, (by show (2 : Nat) ≤ sizeLine; decide), fun T nT => ?_⟩
          rw [e0]
          have s8 : LI H c D LL ns (t + 4) rs ls (upd H6 T (.tup [.int (a + gp * (i : Int)), .int (a + gp * (J : Int))])) := s6.new nT
          refine ⟨LL, _, _, rfl, rfl, s8.hl, ?_, ?_⟩
          · rw [List.length_map, s6.pr.1]
            exact Nat.lt_of_le_of_lt (show ls.length ≤ 1000 by omega) (by decide)
          · have h9 := nxt (rs ++ [T]) (ls ++ [(a + gp * (i : Int), a + gp * (J : Int))]) _ (s8.addL (l := (a + gp * (i : Int), a + gp * (J : Int))) updS) (by rw [if_pos e1]; exact (gj.hit wj).le (by omega)) (by rw [List.length_append, List.length_singleton]; omega) (updN nqL (updN (ne_of_none hq6 nT) hq6))
            rw [e0] at h9
            exact h9
        · have j0 : ¬ 0 ≤ j := fun z => e2 (decide_eq_true z)
          exact nxt rs ls H6 s6 (by rw [if_pos e1]; exact g6.le (by omega)) (by omega) hq6
      · have e1 : ¬ pr = 1 := fun z => e (decide_eq_true (by rw [z]))
        rw [if_neg e1] at g6
        exact iteF (nxt rs ls H6 s6 (by rw [if_neg e1]; exact g6) (by omega) hq6)
    · rintro σ H' ⟨⟨rs, ls, z8, rfl, s6, g6, hl6⟩, _⟩
      refine second (ix2 ((i : Int) - 3 + ((i : Int) + 1) % 2) ((i : Int) - 2 + ((i : Int) + 1) % 2) 2) rs ls z8 H' _ (fun rs ls z7 z8 H' s9 g9 h9 => ⟨rs, ls, z7, z8, rfl, s9, g9, h9⟩) s6 ?_ (by have : [V.int ((i : Int) - 3 + ((i : Int) + 1) % 2), V.int ((i : Int) - 2 + ((i : Int) + 1) % 2)].length = 2 := rfl; omega)
      by_cases hp0 : pr = 0
      · rw [if_pos hp0]
        rw [if_neg (show ¬ pr = 1 by omega)] at g6
        exact g6
      · rw [if_neg hp0]
        rw [if_pos (show pr = 1 by omega)] at g6
        exact g6
  · rintro σ H5 ⟨rs, ls, z7, z8, rfl, s, g, hlen⟩
    refine ⟨_, rfl, _, rfl, by omega, by omega, fun LV nV => ?_⟩
    have eN2 : many.toNat = N := by omega
    rw [eN2]
    refine lc_mapR (lo := 0) (n := N) (ys := (vsL a gp N).map V.int) (by rw [List.length_map, vsL_length]) (by omega) (fun i y acc R hi hy r => ?_) ?_ mono_yes mono_gName
    · rw [List.getElem?_map, vsL_get hi] at hy
      cases Option.some.inj hy
      refine ⟨rfl, ⟨_, rfl, _, rfl, _, rfl, _, _, rfl, rfl, .inl ⟨by omega, by omega⟩, _, _, rfl, rfl, ?_⟩⟩
      rw [Int.zero_add]
      exact r
    · have sV : LI H c D LL ns (t + 4) rs ls (upd H5 LV (.lst ((vsL a gp N).map V.int))) := s.new nV
      refine ⟨LV, _, rfl, .inl ⟨sqL updS, fun p np => ?_⟩⟩
      have s1 : LI H c D LL ns (t + 4) rs ls (upd (upd H5 LV (.lst ((vsL a gp N).map V.int))) p (.tup ((vsL a gp N).map V.int))) := sV.new np
      refine ⟨_, rfl, LL, _, rfl, .inl ⟨sqL s1.hl, fun r nr => ⟨by show (2 : Nat) ≤ sizeLine; decide, fun w nw => ?_⟩⟩⟩
      have s2 := s1.new (o := .tup (rs.map V.ref)) nr
      have s3 := s2.new (o := .tup [.ref p, .ref r]) nw
      have npr : p ≠ r := fun e => by rw [← e, updS] at nr; cases nr
      have npw : p ≠ w := fun e => by rw [← e, upd_ne npr, updS] at nw; cases nw
      have nrw : r ≠ w := fun e => by rw [← e, updS] at nw; cases nw
      exact k w (vsL a gp N) ls _ s3.keep (s3.dk.le (by omega)) ⟨p, r, rs, updS, updN npw (updN npr updS), updN nrw updS, s3.pr⟩ g (show (((vsL a gp N).length : Nat) : Int) ≤ most by rw [vsL_length]; omega) (show ls.length ≤ 4000 by omega)
end Fw

set_option Elab.async false
set_option linter.all false
set_option maxRecDepth 100000
set_option maxHeartbeats 4000000
namespace Fw
open PySem L2 RZ RT
/-! ### shape or ladder -/
def sp_l_shape_or_ladder (_ : PySem.W.Frag) : Sp := fun vs H Q _ => ∃ (c D : Addr) (ns : List Int) (t : Nat) (most high : Int), vs = [.ref D, .int most, .int high] ∧ Dk c D ns t H ∧ 0 ≤ most ∧ most ≤ 60 ∧ 0 ≤ high ∧ high ≤ 60 ∧ t + 4001 < 1000000000 ∧
  ∀ (p : Addr) (ws : List Int) (ls : List (Int × Int)) (H' : Hp), Kp D H H' → Dk c D ns (t + 4001) H' → ShapeAt H' p ws ls → Good ws ls → ws.length ≤ 60 → ls.length ≤ 4000 → Q (.ref p) H'
abbrev N_l_shape_or_ladder : List Str := ["_law_deck_here", "_law_most", "_law_high"]
def t_l_shape_or_ladder (K : PySem.W.Frag) : TS := (tSeq (tIfS (tTest (tOp rEq (tCall (sp_l_draw K) [] E0 (tCons (tVar 0) (tCons (tC (.int 8)) tNil))) (tC (.int 0)))) (tRet (tCall (sp_l_ladder K) [] E0 (tCons (tVar 0) (tCons (tVar 2) tNil)))) tNext)
    (tRet (tCall (sp_l_shape K) [] E0 (tCons (tVar 0) (tCons (tVar 1) tNil)))))
section
variable {K : PySem.W.Frag} {vs : List V} {H : Hp} {Q : VK} {E : XK}
theorem len_l_shape_or_ladder (h : sp_l_shape_or_ladder K vs H Q E) : vs.length = 3 := by
  obtain ⟨_, _, _, _, _, _, rfl, _⟩ := h
  rfl
theorem pure_l_shape_or_ladder (h : sp_l_shape_or_ladder K vs H Q E) : t_l_shape_or_ladder K { nx := fun _ H' => Q .non H', rt := Q } (start N_l_shape_or_ladder vs) H := by
  obtain ⟨c, D, ns, t, most, high, rfl, dk, m0, m1, h0, h1, ht, k⟩ := h
  refine ⟨_, rfl, c, D, ns, t, 8, rfl, dk, by omega, by decide, by decide, fun v H2 v0 v1 d2 fr2 => ⟨rfl, _, rfl, ite2 (fun _ => ?_) (fun _ => ?_)⟩⟩
  · refine ⟨_, rfl, _, rfl, c, D, ns, t + 1, high, rfl, d2, h0, by omega, by omega, fun p ws ls H3 k3 d3 sh g hl hk => ?_⟩
    have hl2 : ((ws.length : Nat) : Int) ≤ high := hl
    exact k p ws ls H3 ((Kp.fr fr2).trans k3) (d3.le (by omega)) sh g (by omega) hk
  · refine ⟨_, rfl, _, rfl, c, D, ns, t + 1, most, rfl, d2, m0, by omega, by omega, fun p ws ls H3 k3 d3 sh g hl hk => ?_⟩
    have hl2 : ((ws.length : Nat) : Int) ≤ most := hl
    have h60 : ws.length ≤ 60 := by omega
    exact k p ws ls H3 ((Kp.fr fr2).trans k3) (d3.le (by omega)) sh g h60 (Nat.le_trans hk (Nat.le_trans (Nat.mul_le_mul h60 h60) (by decide)))
end
/-! ### answers -/
def AnsAt (H : Hp) (q : Addr) (ans : List (Int × Bool)) : Prop := ∃ as : List Addr, H q = some (.tup (as.map V.ref)) ∧ as.length = ans.length ∧ ∀ (i : Nat) (a : Addr) (e : Int × Bool), as[i]? = some a → ans[i]? = some e → H a = some (.tup [.int e.1, .bl e.2])
theorem AnsAt.mono {H H' : Hp} {q : Addr} {ans : List (Int × Bool)} (h : AnsAt H q ans) (s : ∀ (a : Addr) (xs : List V), H a = some (.tup xs) → H' a = some (.tup xs)) : AnsAt H' q ans := by
  obtain ⟨as, h1, h2, h3⟩ := h
  exact ⟨as, s _ _ h1, h2, fun i a e x y => s _ _ (h3 i a e x y)⟩
def yesL (ans : List (Int × Bool)) : List Int := (ans.filter (·.2)).map (·.1)
theorem mem_yesL {ans : List (Int × Bool)} {v : Int} : v ∈ yesL ans ↔ (v, true) ∈ ans := by
  unfold yesL
  rw [List.mem_map]
  refine ⟨fun ⟨e, he, h⟩ => ?_, fun h => ⟨(v, true), List.mem_filter.mpr ⟨h, rfl⟩, rfl⟩⟩
  obtain ⟨h1, h2⟩ := List.mem_filter.mp he
  obtain ⟨a, b⟩ := e
  cases b
  · cases h2
  · rw [← h]
    exact h1
/-- d tells for each version the least one answered False that it is or that is below it -/
structure Low (ls : List (Int × Int)) (ans : List (Int × Bool)) (S : List (Int × Int)) (d : Int → Option Int) : Prop where
  sound : ∀ v m, d v = some m → (m, false) ∈ ans ∧ Dn ls v m
  base : ∀ u, (u, false) ∈ ans → ∃ m, d u = some m ∧ m ≤ u
  cl : ∀ l ∈ S, ∀ m', d l.2 = some m' → ∃ m, d l.1 = some m ∧ m ≤ m'
theorem Low.reach {ls : List (Int × Int)} {ans : List (Int × Bool)} {d : Int → Option Int} (h : Low ls ans ls d) {v u : Int} (r : Dn ls v u) : (u, false) ∈ ans → ∃ m, d v = some m ∧ m ≤ u := by
  induction r with
  | refl v => exact h.base v
  | step hl r ih =>
    intro hu
    obtain ⟨m', h1, h2⟩ := ih hu
    obtain ⟨m, h3, h4⟩ := h.cl _ hl m' h1
    exact ⟨m, h3, by omega⟩
theorem Low.some_iff {ls : List (Int × Int)} {ans : List (Int × Bool)} {d : Int → Option Int} (h : Low ls ans ls d) (v : Int) : (d v).isSome = true ↔ ∃ u, (u, false) ∈ ans ∧ Dn ls v u := by
  refine ⟨fun e => ?_, fun ⟨u, h1, h2⟩ => ?_⟩
  · obtain ⟨m, hm⟩ := Option.isSome_iff_exists.mp e
    exact ⟨m, h.sound v m hm⟩
  · obtain ⟨m, hm, _⟩ := h.reach h2 h1
    rw [hm]
    rfl
def DictI (kvs : List (Key × V)) (d : Int → Option Int) : Prop := ∀ v : Int, valV kvs (.inl v) = (d v).map V.int
def setF (d : Int → Option Int) (v x : Int) : Int → Option Int := fun w => if w = v then some x else d w
theorem setF_eq {d : Int → Option Int} {v x w : Int} (e : w = v) : setF d v x w = some x := if_pos e
theorem setF_ne {d : Int → Option Int} {v x w : Int} (e : ¬ w = v) : setF d v x w = d w := if_neg e
theorem DictI.put {kvs : List (Key × V)} {d : Int → Option Int} (h : DictI kvs d) (v x : Int) : DictI (putK kvs (.inl v) (.int x)) (setF d v x) := fun w => by
  rw [valV_put]
  by_cases e : w = v
  · rw [if_pos (by rw [e]), setF_eq e]
    rfl
  · rw [if_neg (fun z => e (Sum.inl.inj z)), setF_ne e]
    exact h w
def sp_lowest_lacking (_ : PySem.W.Frag) : Sp := fun vs H Q _ => ∃ (p q : Addr) (ws : List Int) (ls : List (Int × Int)) (ans : List (Int × Bool)), vs = [.ref p, .ref q] ∧ ShapeAt H p ws ls ∧ Good ws ls ∧ ls.length ≤ 10000 ∧ AnsAt H q ans ∧ ans.length ≤ 1000 ∧ (ans.map (·.1)).Nodup ∧
  ∀ (L : Addr) (kvs : List (Key × V)) (d : Int → Option Int) (H' : Hp), Same H H' → H L = none → H' L = some (.dK kvs) → DictI kvs d → Low ls ans ls d → Q (.ref L) H'
def sp_refuse_contrary (_ : PySem.W.Frag) : Sp := fun vs H Q _ => ∃ (p L : Addr) (ns : List Int) (kvs : List (Key × V)), vs = [.ref p, .ref L] ∧ H p = some (.lst (ns.map V.int)) ∧ H L = some (.dK kvs) ∧ (∀ v ∈ ns, valV kvs (.inl v) = none) ∧ ∀ H', Same H H' → Q .non H'
abbrev N_lowest_lacking : List Str := ["shape", "answers", "lowest", "version", "truth", "upper", "lower"]
def t_lowest_lacking (K : PySem.W.Frag) : TS := (tSeq (tAsg (tDc (iTup K (tVar 1)) (gTup K 2 (gCons (gName 3) (gCons (gName 4) gNil))) (tNot (tB (tVar 4))) (tVar 3) (tVar 3) [3, 4]) (gName 2))
    (tSeq (tFor (iTup K (tOp (rIx K) (tVar 0) (tC (.int 1)))) (gTup K 2 (gCons (gName 5) (gCons (gName 6) gNil))) (tIfS (tB (tDIn (tVar 6) (tVar 2))) (sDPut (tVar 2) (tVar 5) (tCB fMin2 (tCons (tDGet (tVar 2) (tVar 6)) (tCons (tDGet2 (tVar 2) (tVar 5) (tVar 5)) tNil)))) tNext))
    (tRet (tVar 2))))
abbrev N_refuse_contrary : List Str := ["yes", "lacking", "upper"]
def t_refuse_contrary (K : PySem.W.Frag) : TS := (tFor (iList K (tCB (rSortedI K) (tCons (tVar 0) tNil))) (gName 2) (tIfS (tB (tDIn (tVar 2) (tVar 1))) tNever tNext))
section
variable {K : PySem.W.Frag} {vs : List V} {H : Hp} {Q : VK} {E : XK}
theorem len_lowest_lacking (h : sp_lowest_lacking K vs H Q E) : vs.length = 2 := by
  obtain ⟨_, _, _, _, _, rfl, _⟩ := h
  rfl
theorem len_refuse_contrary (h : sp_refuse_contrary K vs H Q E) : vs.length = 2 := by
  obtain ⟨_, _, _, _, rfl, _⟩ := h
  rfl
theorem pure_refuse_contrary (h : sp_refuse_contrary K vs H Q E) : t_refuse_contrary K { nx := fun _ H' => Q .non H', rt := Q } (start N_refuse_contrary vs) H := by
  obtain ⟨p, L, ns, kvs, rfl, hp, hL, hn, k⟩ := h
  refine ⟨_, rfl, p, ns, rfl, sqL hp, fun ys S py sy nS => ⟨S, rfl, ⟨_, sqL updS⟩, ?_⟩⟩
  have up : ∀ o, Same H (upd H S o) := fun o b u e => updN (ne_of_none e nS) e
  refine for_list (K := K) (a := S) (xs := ys.map V.int) (fun i σ H' => H' = upd H S (.lst (ys.map V.int)) ∧ ∃ z, σ = [some (.ref p), some (.ref L), z]) ⟨rfl, none, rfl⟩ (fun i σ H' _ ⟨e, _⟩ => by rw [e]; exact sqL updS) ?_ ?_
  · rintro i x σ H' hx ⟨rfl, z, rfl⟩
    rw [List.getElem?_map] at hx
    cases ey : ys[i]? with
    | none => rw [ey] at hx; cases hx
    | some v =>
      rw [ey] at hx
      cases Option.some.inj hx
      have hv := hn v (py.mem_iff.mp (List.mem_of_getElem? ey))
      refine ⟨_, rfl, _, rfl, L, _, rfl, DGet.k (k := Sum.inl v) (up _ _ _ hL), _, rfl, ?_⟩
      rw [hv]
      exact iteF ⟨rfl, _, rfl⟩
  · rintro σ H' ⟨rfl, z, rfl⟩
    exact k _ (up _)
theorem pure_lowest_lacking (h : sp_lowest_lacking K vs H Q E) : t_lowest_lacking K { nx := fun _ H' => Q .non H', rt := Q } (start N_lowest_lacking vs) H := by
  obtain ⟨p, q, ws, ls, ans, rfl, ⟨a0, r, rs, hp, ha0, hr, lk⟩, g, hlz, ⟨as, hq, hal, has⟩, hasz, nd, k⟩ := h
  refine ⟨_, rfl, q, rfl, ⟨_, sqT hq⟩, fun L nL => ?_⟩
  have up : ∀ kvs, Same H (upd H L (.dK kvs)) := fun kvs b o e => updN (ne_of_none e nL) e
  -- {version: version for version, truth in answers if not truth}
  refine dc_tup (K := K) (a := q) (xs := as.map V.ref) (fun i H2 => ∃ (kvs : List (Key × V)) (d : Int → Option Int), H2 = upd H L (.dK kvs) ∧ DictI kvs d ∧ kvs.length ≤ i ∧ ∀ v, d v = if (v, false) ∈ ans.take i then some v else none) ?_ (fun i H2 _ ⟨kvs, d, e, _⟩ => by rw [e]; exact sqT (up _ _ _ hq)) (fun i x H2 hx ⟨kvs, d, e, hd, hkl, hdv⟩ => ?_) (fun H2 ⟨kvs, d, e, hd, hkl, hdv⟩ => ?_)
  · exact ⟨[], fun _ => none, rfl, fun _ => rfl, Nat.le_refl _, fun v => by rw [List.take_zero, if_neg (fun z => nomatch z)]⟩
  · subst e
    rw [List.getElem?_map] at hx
    cases ea : as[i]? with
    | none => rw [ea] at hx; cases hx
    | some a =>
      rw [ea] at hx
      cases Option.some.inj hx
      have hi : i < ans.length := by rw [← hal]; exact (List.getElem?_eq_some_iff.mp ea).1
      have ee : ans[i]? = some ans[i] := List.getElem?_eq_getElem hi
      generalize ans[i] = e at ee
      obtain ⟨v, b⟩ := e
      have hb := up (kvs) _ _ (has i a _ ea ee)
      have tk : ans.take (i + 1) = ans.take i ++ [(v, b)] := take_snoc ee
      refine ⟨a, [.int v, .bl b], rfl, sqT hb, rfl, _, [.bl b], rfl, _, [], rfl, rfl, rfl, _, rfl, _, rfl, ?_⟩
      cases b with
      | true =>
        refine iteF ⟨kvs, d, rfl, hd, by omega, fun w => ?_⟩
        rw [hdv w, tk]
        have : (w, false) ∈ ans.take i ++ [(v, true)] ↔ (w, false) ∈ ans.take i := by
          rw [List.mem_append, List.mem_singleton]
          exact ⟨fun h => h.elim id (fun z => by cases z), Or.inl⟩
        simp only [this]
      | false =>
        refine iteT ⟨_, rfl, _, rfl, kvs, Sum.inl v, rfl, updS, Nat.lt_of_le_of_lt (show kvs.length ≤ 1000 by omega) (by decide), putK kvs (.inl v) (.int v), setF d v v, by rw [upd_upd], hd.put v v, ?_, fun w => ?_⟩
        · exact Nat.le_trans (length_putK _ _ _) (by omega)
        · rw [tk]
          by_cases e : w = v
          · subst e
            rw [setF_eq rfl, if_pos (List.mem_append_right _ (List.mem_singleton.mpr rfl))]
          · rw [setF_ne e, hdv w]
            have : (w, false) ∈ ans.take i ++ [(v, false)] ↔ (w, false) ∈ ans.take i := by
              rw [List.mem_append, List.mem_singleton]
              exact ⟨fun h => h.elim id fun z => absurd (Prod.mk.inj z).1 e, Or.inl⟩
            simp only [this]
  · subst e
    rw [List.length_map, hal, List.take_length] at hdv
    rw [List.length_map, hal] at hkl
    have low0 : Low ls ans [] d := by
      refine ⟨fun v m hm => ?_, fun u hu => ⟨u, by rw [hdv, if_pos hu], Int.le_refl _⟩, fun l hl => nomatch hl⟩
      rw [hdv] at hm
      by_cases hv : (v, false) ∈ ans
      · rw [if_pos hv] at hm
        cases Option.some.inj hm
        exact ⟨hv, .refl v⟩
      · rw [if_neg hv] at hm
        cases hm
    -- for upper, lower in shape[1]
    refine ⟨_, rfl, ixT (up _ _ _ hp) rfl ⟨r, rfl, ⟨_, sqT (up _ _ _ hr)⟩, ?_⟩⟩
    refine for_tup (K := K) (a := r) (xs := rs.map V.ref) (fun i σ H2 => ∃ (kvs : List (Key × V)) (d : Int → Option Int) (z3 z4 z5 z6 : Option V), σ = [some (.ref p), some (.ref q), some (.ref L), z3, z4, z5, z6] ∧ H2 = upd H L (.dK kvs) ∧ DictI kvs d ∧ kvs.length ≤ ans.length + i ∧ Low ls ans (ls.take i) d) ?_ ?_ ?_ ?_
    · exact ⟨kvs, d, none, none, none, none, rfl, rfl, hd, hkl, by rw [List.take_zero]; exact low0⟩
    · rintro i σ H2 _ ⟨kvs, d, _, _, _, _, _, rfl, _⟩
      exact sqT (up _ _ _ hr)
    · rintro i x σ H2 hx ⟨kvs, d, z3, z4, z5, z6, rfl, rfl, hd, hkl, low⟩
      rw [List.getElem?_map] at hx
      cases er : rs[i]? with
      | none => rw [er] at hx; cases hx
      | some b =>
        rw [er] at hx
        cases Option.some.inj hx
        have hi : i < ls.length := by rw [← lk.1]; exact (List.getElem?_eq_some_iff.mp er).1
        have el : ls[i]? = some ls[i] := List.getElem?_eq_getElem hi
        have hlt : ∀ l' ∈ ls.take i, lkLt l' ls[i] := fun l' hl' => by
          obtain ⟨j, hj, e⟩ := List.getElem_of_mem hl'
          rw [List.length_take] at hj
          rw [List.getElem_take] at e
          rw [← e]
          exact List.pairwise_iff_getElem.mp g.lex j i (by omega) hi (by omega)
        generalize ls[i] = l at el hlt
        have hb := up kvs _ _ (lk.2 i b l er el)
        have tk : ls.take (i + 1) = ls.take i ++ [l] := take_snoc el
        have hlm : l ∈ ls := List.mem_of_getElem? el
        obtain ⟨m1, m2, m3⟩ := g.mem l hlm
        refine ⟨b, [.int l.1, .int l.2], rfl, sqT hb, rfl, _, [.int l.2], rfl, _, [], rfl, rfl, ?_⟩
        refine ⟨_, rfl, _, rfl, L, _, rfl, DGet.k (k := Sum.inl l.2) updS, _, rfl, ?_⟩
        rw [hd]
        cases e2 : d l.2 with
        | none =>
          refine iteF ⟨kvs, d, _, _, _, _, rfl, rfl, hd, by omega, low.sound, low.base, fun l' hl' m' hm' => ?_⟩
          rw [tk] at hl'
          rcases List.mem_append.mp hl' with hl' | hl'
          · exact low.cl l' hl' m' hm'
          · cases List.mem_singleton.mp hl'
            rw [e2] at hm'
            cases hm'
        | some m =>
          have g2 : DGet (upd H L (.dK kvs)) L (.int l.2) (some (.int m)) := by
            have := DGet.k (k := Sum.inl l.2) (updS : upd H L (.dK kvs) L = some (.dK kvs))
            rw [hd, e2] at this
            exact this
          refine iteT ⟨_, rfl, _, rfl, L, _, rfl, g2, _, rfl, L, rfl, .inl ⟨kvs, .inl updS⟩, _, rfl, _, rfl, _, DGet.k (k := Sum.inl l.1) updS, ?_⟩
          rw [hd]
          -- the value that is written
          have fin : ∀ o : Int, (∀ m0, d l.1 = some m0 → o = m0) → (d l.1 = none → o = l.1) → ∀ (σ : L2.St) (Dd : Ends),
              (∀ (kvs' : List (Key × V)) (d' : Int → Option Int), DictI kvs' d' → kvs'.length ≤ ans.length + (i + 1) → Low ls ans (ls.take (i + 1)) d' → Dd.nx σ (upd H L (.dK kvs'))) →
              Dd.nx σ (upd (upd H L (.dK kvs)) L (.dK (putK kvs (Sum.inl l.1) (.int (if o < m then o else m))))) := by
            intro o ho1 ho2 σ Dd kd
            rw [upd_upd]
            have le : (if o < m then o else m) ≤ m := by split <;> omega
            refine kd _ (setF d l.1 (if o < m then o else m)) (hd.put _ _) (Nat.le_trans (length_putK _ _ _) (by omega)) ⟨fun v m0 hv => ?_, fun u hu => ?_, fun l' hl' m' hm' => ?_⟩
            · by_cases e : v = l.1
              · rw [setF_eq e] at hv
                cases Option.some.inj hv
                rw [e]
                have s2 := low.sound l.2 m e2
                by_cases hom : o < m
                · rw [if_pos hom]
                  cases e1 : d l.1 with
                  | some m0 =>
                    rw [ho1 m0 e1]
                    exact low.sound _ _ e1
                  | none =>
                    have := ho2 e1
                    have := s2.2.le g
                    omega
                · rw [if_neg hom]
                  exact ⟨s2.1, .step hlm s2.2⟩
              · rw [setF_ne e] at hv
                exact low.sound v m0 hv
            · by_cases e : u = l.1
              · refine ⟨_, setF_eq e, ?_⟩
                have := (low.sound l.2 m e2).2.le g
                omega
              · obtain ⟨m0, h1, h2⟩ := low.base u hu
                exact ⟨m0, by rw [setF_ne e]; exact h1, h2⟩
            · rw [tk] at hl'
              rcases List.mem_append.mp hl' with hl' | hl'
              · have ne2 : ¬ l'.2 = l.1 := fun z => by
                  have h3 := (g.mem l' (List.mem_of_mem_take hl')).2.2
                  have h4 := hlt l' hl'
                  unfold lkLt at h4
                  omega
                rw [setF_ne ne2] at hm'
                obtain ⟨m0, h1, h2⟩ := low.cl l' hl' m' hm'
                by_cases e : l'.1 = l.1
                · refine ⟨_, setF_eq e, ?_⟩
                  have : o = m0 := ho1 m0 (by rw [← e]; exact h1)
                  split <;> omega
                · exact ⟨m0, by rw [setF_ne e]; exact h1, h2⟩
              · cases List.mem_singleton.mp hl'
                have ne2 : ¬ l.2 = l.1 := by omega
                rw [setF_ne ne2] at hm'
                rw [e2] at hm'
                cases Option.some.inj hm'
                exact ⟨_, setF_eq rfl, le⟩
          have hkl2 : kvs.length < sizeLine := Nat.lt_of_le_of_lt (show _ ≤ 20000 by omega) (by decide)
          cases e1 : d l.1 with
          | none =>
            refine ⟨m, l.1, rfl, _, rfl, _, rfl, L, _, rfl, DPut.k (k := Sum.inl l.1) updS hkl2, ?_⟩
            exact fin l.1 (fun m0 h => by rw [e1] at h; cases h) (fun _ => rfl) _ _ fun kvs' d' h1 h2 h3 => ⟨kvs', d', _, _, _, _, rfl, rfl, h1, h2, h3⟩
          | some m0 =>
            refine ⟨m, m0, rfl, _, rfl, _, rfl, L, _, rfl, DPut.k (k := Sum.inl l.1) updS hkl2, ?_⟩
            exact fin m0 (fun m1 h => by rw [e1] at h; exact Option.some.inj h) (fun h => by rw [e1] at h; cases h) _ _ fun kvs' d' h1 h2 h3 => ⟨kvs', d', _, _, _, _, rfl, rfl, h1, h2, h3⟩
    · rintro σ H2 ⟨kvs, d, z3, z4, z5, z6, rfl, rfl, hd, hkl, low⟩
      rw [List.length_map, lk.1, List.take_length] at low
      exact ⟨_, rfl, k L kvs d _ (up _) nL updS hd low⟩
end
end Fw

set_option Elab.async false
set_option linter.all false
set_option maxRecDepth 100000
set_option maxHeartbeats 4000000
namespace Fw
open PySem L2 RZ RT
/-! ### comprehensions that choose -/
def sel (ks : List Bool) (ys : List V) : List V := ((ks.zip ys).filter (·.1)).map (·.2)
theorem sel_map {α : Type} (f : α → Bool) (g : α → V) : ∀ l : List α, sel (l.map f) (l.map g) = (l.filter f).map g
  | [] => rfl
  | x :: r => by
    have ih := sel_map f g r
    unfold sel at ih ⊢
    rw [List.map_cons, List.map_cons, List.zip_cons_cons, List.filter_cons, List.filter_cons]
    cases f x with
    | true =>
      show (g x) :: _ = (g x) :: _
      rw [ih]
    | false => exact ih
theorem sel_snoc {ks : List Bool} {ys : List V} {i : Nat} {b : Bool} {y : V} (hk : ks[i]? = some b) (hy : ys[i]? = some y) : sel (ks.take (i + 1)) (ys.take (i + 1)) = sel (ks.take i) (ys.take i) ++ (if b = true then [y] else []) := by
  have h1 := (List.getElem?_eq_some_iff.mp hk).1
  have h2 := (List.getElem?_eq_some_iff.mp hy).1
  unfold sel
  rw [take_snoc hk, take_snoc hy, List.zip_append (by rw [List.length_take, List.length_take]; omega), List.filter_append, List.map_append]
  cases b <;> rfl
theorem sel_length (ks : List Bool) (ys : List V) : (sel ks ys).length ≤ ys.length := by
  unfold sel
  rw [List.length_map]
  refine Nat.le_trans (List.length_filter_le _ _) ?_
  rw [List.length_zip]
  omega
section
variable {K : PySem.W.Frag} {a : Addr} {xs ys : List V} {ks : List Bool} {g : TG} {tt : TT} {te : TE} {vs : List Nat} {σ : L2.St} {H1 : Hp} {D : Addr} {Qd : Hp → Prop}
/-- [e for x in xs if t], xs a tuple, ys the values, ks whether they are taken -/
theorem lc_filtT (hq : ∀ acc, SqT K (upd H1 D (.lst acc)) a xs) (hl : ys.length = xs.length) (hk : ks.length = xs.length) (hz : xs.length ≤ 100000)
    (hs : ∀ (i : Nat) (x y : V) (b : Bool) (acc : List V) (R : VK) (N : Hp → Prop), xs[i]? = some x → ys[i]? = some y → ks[i]? = some b → (b = true → R y (upd H1 D (.lst acc))) → (b = false → N (upd H1 D (.lst acc))) →
      g x (wipe σ vs) (upd H1 D (.lst acc)) fun σ2 H2 => wipe σ2 vs = wipe σ vs ∧ tt σ2 H2 fun b' H3 => if b' = true then te σ2 H3 R else N H3)
    (hd : Qd (upd H1 D (.lst (sel ks ys)))) :
    ∃ W : Nat → Nat → Hp → Prop, (∃ m, W 0 m (upd H1 D (.lst []))) ∧ ∀ i m H, W i m H →
      ((Itt K a).stop i H ∧ Qd H) ∨ ((Itt K a).go i H ∧ ∃ Nx : Hp → Prop, (∀ H', Nx H' → ∃ m', m' < m ∧ W (i + 1) m' H') ∧ ∀ x H', (Itt K a).yld i H x H' → g x (wipe σ vs) H' fun σ2 H2 => wipe σ2 vs = wipe σ vs ∧ tt σ2 H2 fun b H3 =>
        if b = true then te σ2 H3 fun y H4 => ∃ acc, H4 D = some (.lst acc) ∧ acc.length < sizeLine ∧ Nx (upd H4 D (.lst (acc ++ [y]))) else Nx H3) := by
  refine lc_tup (K := K) (a := a) (xs := xs) (fun i H => H = upd H1 D (.lst (sel (ks.take i) (ys.take i)))) (by rw [List.take_zero, List.take_zero]; rfl) (fun i H _ e => by rw [e]; exact hq _) (fun i x H hx e => ?_) (fun H e => by
    rw [e, List.take_of_length_le (by omega), List.take_of_length_le (by omega)]
    exact hd)
  subst e
  have hi := (List.getElem?_eq_some_iff.mp hx).1
  have hy : ys[i]? = some ys[i] := List.getElem?_eq_getElem (by omega)
  have hkk : ks[i]? = some ks[i] := List.getElem?_eq_getElem (by omega)
  refine hs i x ys[i] ks[i] (sel (ks.take i) (ys.take i)) _ _ hx hy hkk (fun hb => ⟨_, upd_same, Nat.lt_of_le_of_lt (Nat.le_trans (sel_length _ _) (by rw [List.length_take]; omega) : _ ≤ 100000) (by decide), ?_⟩) (fun hb => ?_)
  · rw [upd_upd, sel_snoc hkk hy, if_pos hb]
  · rw [sel_snoc hkk hy, if_neg (by rw [hb]; exact Bool.false_ne_true), List.append_nil]
end
theorem inV_ints (w : Int) : ∀ ns : List Int, inV (.int w) (ns.map V.int) = ns.contains w
  | [] => rfl
  | n :: r => by
    have ih := inV_ints w r
    unfold inV at ih ⊢
    rw [List.map_cons, List.any_cons, ih, List.contains_cons]
    have : eqV (.int n) (.int w) = (w == n) := by
      show (n == w) = (w == n)
      by_cases e : n = w
      · subst e; rfl
      · rw [beq_eq_false_iff_ne.mpr e, beq_eq_false_iff_ne.mpr fun z => e z.symm]
    rw [this]
theorem flat_ints (ns : List Int) : (ns.map V.int).all flatV = true := List.all_eq_true.mpr fun x hx => by
  obtain ⟨n, _, rfl⟩ := List.mem_map.mp hx
  rfl
/-! ### settled -/
def hasB (ls : List (Int × Int)) (ans : List (Int × Bool)) (w : Int) : Bool := (lower ls (yesL ans)).contains w
def lacB (ls : List (Int × Int)) (ans : List (Int × Bool)) (w : Int) : Bool := ans.any fun e => !e.2 && (lower ls [w]).contains e.1
theorem hasB_iff {ws : List Int} {ls : List (Int × Int)} (g : Good ws ls) {ans : List (Int × Bool)} {w : Int} : hasB ls ans w = true ↔ ∃ s, (s, true) ∈ ans ∧ Dn ls s w := by
  unfold hasB
  rw [List.contains_iff_mem, mem_lower g]
  exact ⟨fun ⟨s, h1, h2⟩ => ⟨s, mem_yesL.mp h1, h2⟩, fun ⟨s, h1, h2⟩ => ⟨s, mem_yesL.mpr h1, h2⟩⟩
theorem lacB_iff {ws : List Int} {ls : List (Int × Int)} (g : Good ws ls) {ans : List (Int × Bool)} {w : Int} : lacB ls ans w = true ↔ ∃ u, (u, false) ∈ ans ∧ Dn ls w u := by
  unfold lacB
  rw [List.any_eq_true]
  refine ⟨fun ⟨e, he, h⟩ => ?_, fun ⟨u, hu, d⟩ => ⟨(u, false), hu, ?_⟩⟩
  · obtain ⟨u, b⟩ := e
    rw [Bool.and_eq_true, List.contains_iff_mem, mem_lower g] at h
    obtain ⟨h1, s, hs, d⟩ := h
    cases b
    · rw [List.mem_singleton.mp hs] at d
      exact ⟨u, he, d⟩
    · cases h1
  · rw [Bool.and_eq_true, List.contains_iff_mem, mem_lower g]
    exact ⟨rfl, w, List.mem_singleton.mpr rfl, d⟩
def NotContrary (ls : List (Int × Int)) (ans : List (Int × Bool)) : Prop := ∀ v u, (v, true) ∈ ans → (u, false) ∈ ans → ¬ Dn ls v u
def TripAt (H : Hp) (r : Addr) (x y z : List Int) : Prop := ∃ a b c, H r = some (.tup [.ref a, .ref b, .ref c]) ∧ H a = some (.tup (x.map V.int)) ∧ H b = some (.tup (y.map V.int)) ∧ H c = some (.tup (z.map V.int))
def sp_settled (_ : PySem.W.Frag) : Sp := fun vs H Q _ => ∃ (p q : Addr) (ws : List Int) (ls : List (Int × Int)) (ans : List (Int × Bool)), vs = [.ref p, .ref q] ∧ ShapeAt H p ws ls ∧ Good ws ls ∧ ws.length ≤ 1000 ∧ ls.length ≤ 10000 ∧ AnsAt H q ans ∧ ans.length ≤ 1000 ∧ (ans.map (·.1)).Nodup ∧ NotContrary ls ans ∧
  ∀ (r : Addr) (H' : Hp), Same H H' → H r = none → TripAt H' r (ws.filter (hasB ls ans)) (ws.filter (lacB ls ans)) (ws.filter fun w => !hasB ls ans w && !lacB ls ans w) → Q (.ref r) H'
abbrev N_settled : List Str := ["shape", "answers", "lacking", "yes", "version", "truth", "held", "has", "lacks", "left"]
def t_settled (K : PySem.W.Frag) : TS := (tSeq (tAsg (tCall (sp_lowest_lacking K) [] E0 (tCons (tVar 0) (tCons (tVar 1) tNil))) (gName 2))
    (tSeq (tAsg (tLc (iTup K (tVar 1)) (gTup K 2 (gCons (gName 4) (gCons (gName 5) gNil))) (tB (tVar 5)) (tVar 4) [4, 5]) (gName 3))
    (tSeq (tDrop (tCall (sp_refuse_contrary K) [] E0 (tCons (tVar 3) (tCons (tVar 2) tNil))))
    (tSeq (tAsg (tCall (sp_with_lower K) [] E0 (tCons (tVar 0) (tCons (tVar 3) tNil))) (gName 6))
    (tSeq (tAsg (tLc (iTup K (tOp (rIx K) (tVar 0) (tC (.int 0)))) (gName 4) (tB (tDIn (tVar 4) (tVar 6))) (tVar 4) [4]) (gName 7))
    (tSeq (tAsg (tLc (iTup K (tOp (rIx K) (tVar 0) (tC (.int 0)))) (gName 4) (tB (tDIn (tVar 4) (tVar 2))) (tVar 4) [4]) (gName 8))
    (tSeq (tAsg (tLc (iTup K (tOp (rIx K) (tVar 0) (tC (.int 0)))) (gName 4) (tAnd (tB (tDNotIn (tVar 4) (tVar 6))) (tB (tDNotIn (tVar 4) (tVar 2)))) (tVar 4) [4]) (gName 9))
    (tRet (tTup (tCons (tCB (fTupleOf K) (tCons (tVar 7) tNil)) (tCons (tCB (fTupleOf K) (tCons (tVar 8) tNil)) (tCons (tCB (fTupleOf K) (tCons (tVar 9) tNil)) tNil))))))))))))
section
variable {K : PySem.W.Frag} {vs : List V} {H : Hp} {Q : VK} {E : XK}
theorem len_settled (h : sp_settled K vs H Q E) : vs.length = 2 := by
  obtain ⟨_, _, _, _, _, rfl, _⟩ := h
  rfl
theorem yes_nodup {ans : List (Int × Bool)} (h : (ans.map (·.1)).Nodup) : (yesL ans).Nodup := by
  unfold yesL
  exact h.sublist ((List.filter_sublist).map _)
theorem samNew {H : Hp} {q : Addr} {o : HO} (n : H q = none) : Same H (upd H q o) := fun b u e => updN (ne_of_none e n) e
theorem pure_settled (h : sp_settled K vs H Q E) : t_settled K { nx := fun _ H' => Q .non H', rt := Q } (start N_settled vs) H := by
  obtain ⟨p, q, ws, ls, ans, rfl, sh, g, hwz, hlz, an, hasz, nd, nc, k⟩ := h
  -- lacking = lowest_lacking(shape, answers)
  refine ⟨_, rfl, _, rfl, p, q, ws, ls, ans, rfl, sh, g, hlz, an, hasz, nd, fun L kvs d H1 s1 nL hL hd low => ?_⟩
  have sh1 : ShapeAt H1 p ws ls := sh.mono fun a xs e => s1 _ _ e
  obtain ⟨as, hq1, hal, has⟩ : AnsAt H1 q ans := an.mono fun a xs e => s1 _ _ e
  have dl : ∀ w, (valV kvs (.inl w)).isSome = lacB ls ans w := fun w => by
    rw [hd w, Option.isSome_map, Bool.eq_iff_iff, low.some_iff, lacB_iff g]
  -- yes = [version for version, truth in answers if truth]
  refine ⟨_, rfl, q, rfl, ⟨_, sqT hq1⟩, fun Y nY => ?_⟩
  have sY : ∀ o, Same H1 (upd H1 Y o) := fun o => samNew nY
  have ney : ∀ {i : Nat} {x : V}, (as.map V.ref)[i]? = some x → ∃ (a : Addr) (e : Int × Bool), x = .ref a ∧ as[i]? = some a ∧ ans[i]? = some e ∧ H1 a = some (.tup [.int e.1, .bl e.2]) := fun {i x} hx => by
    rw [List.getElem?_map] at hx
    cases ea : as[i]? with
    | none => rw [ea] at hx; cases hx
    | some a =>
      rw [ea] at hx
      have hi : i < ans.length := by rw [← hal]; exact (List.getElem?_eq_some_iff.mp ea).1
      have ee : ans[i]? = some ans[i] := List.getElem?_eq_getElem hi
      exact ⟨a, _, (Option.some.inj hx).symm, rfl, ee, has i a _ ea ee⟩
  refine lc_filtT (K := K) (a := q) (xs := as.map V.ref) (ys := ans.map fun e => V.int e.1) (ks := ans.map (·.2)) (fun acc => sqT (sY _ _ _ hq1)) (by simp [hal]) (by simp [hal]) (by rw [List.length_map]; omega) (fun i x y b acc R N hx hy hb r n => ?_) ?_
  · obtain ⟨a, e, rfl, ea, ee, ha⟩ := ney hx
    rw [List.getElem?_map, ee] at hy hb
    cases Option.some.inj hy
    have hb' : e.2 = b := Option.some.inj hb
    subst hb'
    refine ⟨a, [.int e.1, .bl e.2], rfl, sqT (sY _ _ _ ha), rfl, _, [.bl e.2], rfl, _, [], rfl, rfl, rfl, _, rfl, _, rfl, ?_⟩
    exact ite2 (fun z => ⟨_, rfl, r z⟩) (fun z => n (Bool.eq_false_iff.mpr z))
  rw [sel_map, show ((ans.filter (·.2)).map fun e => V.int e.1) = (yesL ans).map V.int by unfold yesL; rw [List.map_map]; rfl]
  generalize hH2 : upd H1 Y (.lst ((yesL ans).map V.int)) = H2
  have s2 : Same H1 H2 := by rw [← hH2]; exact sY _
  have hY : H2 Y = some (.lst ((yesL ans).map V.int)) := by rw [← hH2]; exact updS
  -- refuse_contrary(yes, lacking)
  refine ⟨_, rfl, _, rfl, Y, L, yesL ans, kvs, rfl, hY, s2 _ _ hL, fun v hv => ?_, fun H3 s3 => ?_⟩
  · have : (valV kvs (.inl v)).isSome = false := by
      rw [dl, Bool.eq_false_iff]
      intro z
      obtain ⟨u, h1, h2⟩ := (lacB_iff g).mp z
      exact nc v u (mem_yesL.mp hv) h1 h2
    exact Option.isSome_eq_false_iff.mp this |> Option.isNone_iff_eq_none.mp
  have s13 : Same H1 H3 := s2.trans s3
  -- held = with_lower(shape, yes)
  have hyl : (yesL ans).length ≤ 1000 := by
    unfold yesL
    rw [List.length_map]
    exact Nat.le_trans (List.length_filter_le _ _) hasz
  refine ⟨_, rfl, _, rfl, p, Y, ws, ls, yesL ans, rfl, sh1.mono fun a xs e => s13 _ _ e, g, hlz, s3 _ _ hY, yes_nodup nd, hyl, fun F H4 s4 nF hF => ?_⟩
  have s14 : Same H1 H4 := s13.trans s4
  have hL4 : H4 L = some (.dK kvs) := s14 _ _ hL
  obtain ⟨a0, r0, rs, hp4, ha4, hr4, lk4⟩ : ShapeAt H4 p ws ls := sh1.mono fun a xs e => s14 _ _ e
  have intw : ∀ {i : Nat} {x : V}, (ws.map V.int)[i]? = some x → ∃ w, x = .int w ∧ ws[i]? = some w := fun {i x} hx => by
    rw [List.getElem?_map] at hx
    cases e : ws[i]? with
    | none => rw [e] at hx; cases hx
    | some w => rw [e] at hx; exact ⟨w, (Option.some.inj hx).symm, rfl⟩
  -- has
  refine ⟨_, rfl, ixT hp4 rfl ⟨a0, rfl, ⟨_, sqT ha4⟩, fun A nA => ?_⟩⟩
  have sA : ∀ o, Same H4 (upd H4 A o) := fun o => samNew nA
  refine lc_filtT (K := K) (a := a0) (xs := ws.map V.int) (ys := ws.map V.int) (ks := ws.map (hasB ls ans)) (fun acc => sqT (sA _ _ _ ha4)) rfl (by simp) (by rw [List.length_map]; omega) (fun i x y b acc R N hx hy hb r n => ?_) ?_
  · obtain ⟨w, rfl, ew⟩ := intw hx
    cases Option.some.inj (hx.symm.trans hy)
    rw [List.getElem?_map, ew] at hb
    have hb' : hasB ls ans w = b := Option.some.inj hb
    refine ⟨rfl, _, rfl, _, rfl, F, _, rfl, DGet.k (k := Sum.inl w) (sA _ _ _ hF), _, rfl, ?_⟩
    rw [mkS_has]
    show if hasB ls ans w = true then _ else _
    rw [hb']
    exact ite2 (fun z => ⟨_, rfl, r z⟩) (fun z => n (Bool.eq_false_iff.mpr z))
  rw [sel_map]
  generalize hH5 : upd H4 A (.lst ((ws.filter (hasB ls ans)).map V.int)) = H5
  have s5 : Same H4 H5 := by rw [← hH5]; exact sA _
  have hA5 : H5 A = some (.lst ((ws.filter (hasB ls ans)).map V.int)) := by rw [← hH5]; exact updS
  -- lacks
  refine ⟨_, rfl, ixT (s5 _ _ hp4) rfl ⟨a0, rfl, ⟨_, sqT (s5 _ _ ha4)⟩, fun B nB => ?_⟩⟩
  have sB : ∀ o, Same H5 (upd H5 B o) := fun o => samNew nB
  refine lc_filtT (K := K) (a := a0) (xs := ws.map V.int) (ys := ws.map V.int) (ks := ws.map (lacB ls ans)) (fun acc => sqT (sB _ _ _ (s5 _ _ ha4))) rfl (by simp) (by rw [List.length_map]; omega) (fun i x y b acc R N hx hy hb r n => ?_) ?_
  · obtain ⟨w, rfl, ew⟩ := intw hx
    cases Option.some.inj (hx.symm.trans hy)
    rw [List.getElem?_map, ew] at hb
    have hb' : lacB ls ans w = b := Option.some.inj hb
    refine ⟨rfl, _, rfl, _, rfl, L, _, rfl, DGet.k (k := Sum.inl w) (sB _ _ _ (s5 _ _ hL4)), _, rfl, ?_⟩
    rw [dl, hb']
    exact ite2 (fun z => ⟨_, rfl, r z⟩) (fun z => n (Bool.eq_false_iff.mpr z))
  rw [sel_map]
  generalize hH6 : upd H5 B (.lst ((ws.filter (lacB ls ans)).map V.int)) = H6
  have s6 : Same H5 H6 := by rw [← hH6]; exact sB _
  have hB6 : H6 B = some (.lst ((ws.filter (lacB ls ans)).map V.int)) := by rw [← hH6]; exact updS
  have s46 : Same H4 H6 := s5.trans s6
  -- left
  refine ⟨_, rfl, ixT (s46 _ _ hp4) rfl ⟨a0, rfl, ⟨_, sqT (s46 _ _ ha4)⟩, fun C nC => ?_⟩⟩
  have sC : ∀ o, Same H6 (upd H6 C o) := fun o => samNew nC
  refine lc_filtT (K := K) (a := a0) (xs := ws.map V.int) (ys := ws.map V.int) (ks := ws.map fun w => !hasB ls ans w && !lacB ls ans w) (fun acc => sqT (sC _ _ _ (s46 _ _ ha4))) rfl (by simp) (by rw [List.length_map]; omega) (fun i x y b acc R N hx hy hb r n => ?_) ?_
  · obtain ⟨w, rfl, ew⟩ := intw hx
    cases Option.some.inj (hx.symm.trans hy)
    rw [List.getElem?_map, ew] at hb
    have hb' : (!hasB ls ans w && !lacB ls ans w) = b := Option.some.inj hb
    refine ⟨rfl, _, rfl, _, rfl, F, _, rfl, DGet.k (k := Sum.inl w) (sC _ _ _ (s46 _ _ hF)), _, rfl, ?_⟩
    rw [mkS_has]
    show if (!hasB ls ans w) = true then _ else _
    refine ite2 (fun z => ?_) (fun z => ?_)
    · refine ⟨_, rfl, _, rfl, L, _, rfl, DGet.k (k := Sum.inl w) (sC _ _ _ (s46 _ _ hL4)), _, rfl, ?_⟩
      rw [dl]
      rw [z, Bool.true_and] at hb'
      rw [hb']
      exact ite2 (fun z => ⟨_, rfl, r z⟩) (fun z => n (Bool.eq_false_iff.mpr z))
    · rw [Bool.eq_false_iff.mpr z, Bool.false_and] at hb'
      exact iteF (n hb'.symm)
  rw [sel_map]
  generalize hH7 : upd H6 C (.lst ((ws.filter fun w => !hasB ls ans w && !lacB ls ans w).map V.int)) = H7
  have s7 : Same H6 H7 := by rw [← hH7]; exact sC _
  have hC7 : H7 C = some (.lst ((ws.filter fun w => !hasB ls ans w && !lacB ls ans w).map V.int)) := by rw [← hH7]; exact updS
  have hA7 := s7 _ _ (s6 _ _ hA5)
  have hB7 := s7 _ _ hB6
  -- the triple
  refine ⟨_, rfl, A, _, rfl, .inl ⟨sqL hA7, fun a na => ?_⟩⟩
  refine ⟨_, rfl, B, _, rfl, .inl ⟨sqL (samNew na _ _ hB7), fun b nb => ?_⟩⟩
  refine ⟨_, rfl, C, _, rfl, .inl ⟨sqL (samNew nb _ _ (samNew na _ _ hC7)), fun c nc' => ⟨by show (3 : Nat) ≤ sizeLine; decide, fun r nr => ?_⟩⟩⟩
  refine k r _ ?_ ?_ ⟨a, b, c, updS, ?_, ?_, ?_⟩
  · exact (((s1.trans s14).trans s46).trans s7).trans (((samNew na).trans (samNew nb)).trans ((samNew nc').trans (samNew nr)))
  · exact (((s1.trans s14).trans s46).trans s7).free ((samNew na).free ((samNew nb).free ((samNew nc').free nr)))
  · exact samNew nr _ _ (samNew nc' _ _ (samNew nb _ _ updS))
  · exact samNew nr _ _ (samNew nc' _ _ updS)
  · exact samNew nr _ _ updS
end
end Fw

set_option Elab.async false
set_option linter.all false
set_option maxRecDepth 100000
set_option maxHeartbeats 4000000
namespace Fw
open PySem L2 RZ RT
theorem RowsAt.mono {H H' : Hp} {R : Addr} {ws ds : List Int} {ls : List (Int × Int)} {as : List Addr} (h : RowsAt H R ws ls ds as) (s : ∀ b o, H b = some o → (b = R ∨ b ∈ as) → H' b = some o) : RowsAt H' R ws ls ds as :=
  ⟨h.1, s _ _ h.2.1 (.inl rfl), fun i v a h1 h2 => s _ _ (h.2.2 i v a h1 h2) (.inr (List.mem_of_getElem? h2))⟩
end Fw

set_option Elab.async false
set_option linter.all false
set_option maxRecDepth 100000
set_option maxHeartbeats 4000000
namespace Fw
open PySem L2 RZ RT
def fInsert : V → List V → Hp → VK → Prop := fun x vs H Q => ∃ (l : Addr) (xs : List V) (i : Int) (y : V), x = .ref l ∧ vs = [.int i, y] ∧ H l = some (.lst xs) ∧ xs.length < sizeLine ∧ 0 ≤ i ∧ i < 2 ^ 63 ∧ Q .non (upd H l (.lst (xs.take i.toNat ++ [y] ++ xs.drop i.toNat)))
/-- a for over the keys of a locked dict -/
theorem for_keysK {d : Addr} {o : Obj} {kvs : List (Key × V)} {g : TG} {tb : TS} {D : Ends} {σ : L2.St} {H : Hp} (Pv : Nat → L2.St → Hp → Prop) (h0 : Pv 0 σ H) (hl : ∀ i σ H, Pv i σ H → H d = some (.frz o (.dK kvs)))
    (hs : ∀ (i : Nat) (k : Key) (v : V) (σ : L2.St) (H : Hp), kvs[i]? = some (k, v) → Pv i σ H → g (kV k) σ H fun σ2 H2 => tb { D with nx := Pv (i + 1), ct := Pv (i + 1), bk := D.nx } σ2 H2) (hd : ∀ σ H, Pv kvs.length σ H → D.nx σ H) :
    ∃ W : Nat → Nat → L2.St → Hp → Prop, (∃ m, W 0 m σ H) ∧ ∀ i m σ H, W i m σ H →
      ((Itk d o kvs).stop i H ∧ D.nx σ H) ∨ ((Itk d o kvs).go i H ∧ ∃ N : L2.St → Hp → Prop, (∀ σ' H', N σ' H' → ∃ m', m' < m ∧ W (i + 1) m' σ' H') ∧ ∀ x H', (Itk d o kvs).yld i H x H' → g x σ H' fun σ2 H2 => tb { D with nx := N, ct := N, bk := D.nx } σ2 H2) := by
  refine ⟨fun i m σ H => m = kvs.length - i ∧ i ≤ kvs.length ∧ Pv i σ H, ⟨kvs.length, by simp, Nat.zero_le _, h0⟩, ?_⟩
  rintro i m σ H ⟨rfl, hi, p⟩
  have q := hl i σ H p
  by_cases hlt : i < kvs.length
  · refine .inr ⟨⟨q, hlt⟩, Pv (i + 1), fun σ' H' p' => ⟨kvs.length - (i + 1), by omega, rfl, hlt, p'⟩, fun x H' y => ?_⟩
    obtain ⟨e, k, v, e2, e3⟩ := y
    subst e e3
    exact hs i k v σ _ e2 p
  · have e : i = kvs.length := by omega
    subst e
    exact .inl ⟨⟨q, Nat.le_refl _⟩, hd σ H p⟩
theorem rows_get {ws : List Int} {as : List Addr} {i : Nat} {k : Key} {v : V} (hl : as.length = ws.length) (h : (rowsKV ws as)[i]? = some (k, v)) : ∃ w a, ws[i]? = some w ∧ as[i]? = some a ∧ k = Sum.inl w ∧ v = .ref a := by
  unfold rowsKV at h
  rw [List.getElem?_zipWith] at h
  cases e1 : ws[i]? with
  | none => rw [e1] at h; cases h
  | some w =>
    cases e2 : as[i]? with
    | none => rw [e1, e2] at h; cases h
    | some a =>
      rw [e1, e2] at h
      have := Prod.mk.inj (Option.some.inj h)
      exact ⟨w, a, rfl, rfl, this.1.symm, this.2.symm⟩
/-! ### a holding that has with each version all below it -/
def sp_l_lower (_ : PySem.W.Frag) : Sp := fun vs H Q _ => ∃ (c D R : Addr) (ns : List Int) (t : Nat) (ws : List Int) (ls : List (Int × Int)) (as : List Addr), vs = [.ref D, .ref R] ∧ Dk c D ns t H ∧ RowsAt H R ws ls ws as ∧ (∀ a ∈ as, a ≠ D) ∧ Good ws ls ∧ ws.length ≤ 60 ∧ t + 100 < 1000000000 ∧
  ∀ (S : Addr) (fs : List Int) (H' : Hp), Kp D H H' → Dk c D ns (t + 100) H' → H S = none → H' S = some (.lst (fs.map V.int)) → (∀ x ∈ fs, ∀ y, Dn ls x y → y ∈ fs) → (∀ x ∈ fs, x ∈ ws) → fs.Pairwise (· < ·) → Q (.ref S) H'
abbrev N_l_lower : List Str := ["_law_deck_here", "_law_rows", "_law_held", "_law_version", "_law_low"]
def t_l_lower (K : PySem.W.Frag) : TS := (tSeq (tAsg tDNewK (gName 2))
    (tSeq (tLock (tFor (iKeys (tVar 1)) (gName 3) (tIfS (tTest (tOp rEq (tCall (sp_l_draw K) [] E0 (tCons (tVar 0) (tCons (tC (.int 3)) tNil))) (tC (.int 0)))) (tFor (iList K (tDGet (tVar 1) (tVar 3))) (gName 4) (sDPut (tVar 2) (tVar 4) (tC (.bl true)))) tNext)))
    (tRet (tCB fSortD (tCons (tVar 2) tNil)))))
section
variable {K : PySem.W.Frag} {vs : List V} {H : Hp} {Q : VK} {E : XK}
theorem len_l_lower (h : sp_l_lower K vs H Q E) : vs.length = 2 := by
  obtain ⟨_, _, _, _, _, _, _, _, rfl, _⟩ := h
  rfl
theorem pure_l_lower (h : sp_l_lower K vs H Q E) : t_l_lower K { nx := fun _ H' => Q .non H', rt := Q } (start N_l_lower vs) H := by
  obtain ⟨c, D, R, ns, t, ws, ls, as, rfl, dk, ⟨hal, hR, hrow⟩, haD, g, hw, ht, k⟩ := h
  refine fun F nF => ?_
  have nRD : R ≠ D := by
    obtain ⟨xs, e⟩ := dk.someD
    exact ne_of hR e (by intro z; cases z)
  have nRc : R ≠ c := by
    obtain ⟨xs, e⟩ := dk.someC
    exact ne_of hR e (by intro z; cases z)
  have nRF : R ≠ F := ne_of_none hR nF
  have hkl : (rowsKV ws as).length = ws.length := rowsKV_length hal
  refine ⟨R, .dK (rowsKV ws as), updN nRF hR, trivial, fun od => ?_⟩
  refine ⟨_, rfl, R, od, rfl, .inl ⟨rowsKV ws as, updS, ?_⟩⟩
  refine for_keysK (d := R) (o := od) (kvs := rowsKV ws as) (fun i σ H' => ∃ (fs : List Int) (z3 z4 : Option V), σ = [some (.ref D), some (.ref R), some (.ref F), z3, z4] ∧ Dk c D ns (t + i) H' ∧ H' R = some (.frz od (.dK (rowsKV ws as))) ∧ H' F = some (.dK (mkS fs)) ∧ (∀ b o, H b = some o → b ≠ D → b ≠ R → H' b = some o) ∧
    fs.Nodup ∧ (∀ x ∈ fs, ∀ y, Dn ls x y → y ∈ fs) ∧ ∀ x ∈ fs, x ∈ ws) ?_ ?_ ?_ ?_
  · refine ⟨[], none, none, rfl, (dk.upd (dk.neC nF) (dk.neD nF)).upd nRc nRD, updS, updN nRF.symm updS, fun b o e n1 n2 => updN n2 (updN (ne_of_none e nF) e), .nil, (fun x hx => nomatch hx), (fun x hx => nomatch hx)⟩
  · rintro i σ H' ⟨_, _, _, _, _, h1, _⟩
    exact h1
  · rintro i kk v σ H1 hkv ⟨fs, z3, z4, rfl, d1, hR1, hF1, kp1, nd, cl, sub⟩
    obtain ⟨w, a, ew, ea, rfl, rfl⟩ := rows_get hal hkv
    have hi : i < ws.length := (List.getElem?_eq_some_iff.mp ew).1
    have hwm : w ∈ ws := List.mem_of_getElem? ew
    have nFD : F ≠ D := dk.neD nF
    refine ⟨_, rfl, c, D, ns, t + i, 3, rfl, d1, by omega, by decide, by decide, fun y H2 y0 y1 d2 fr2 => ⟨rfl, _, rfl, ite2 (fun _ => ?_) (fun _ => ?_)⟩⟩
    · have hR2 : H2 R = some (.frz od (.dK (rowsKV ws as))) := by rw [fr2 _ nRD]; exact hR1
      have hF2 : H2 F = some (.dK (mkS fs)) := by rw [fr2 _ nFD]; exact hF1
      have hlist : H a = some (.lst ((belowL ws ls w).map V.int)) := hrow i w a ew ea
      have naD := haD a (List.mem_of_getElem? ea)
      have naR : a ≠ R := ne_of hlist hR (by intro z; cases z)
      have naF : a ≠ F := ne_of_none hlist nF
      have hlist2 : H2 a = some (.lst ((belowL ws ls w).map V.int)) := by rw [fr2 _ naD]; exact kp1 _ _ hlist naD naR
      refine ⟨_, rfl, _, rfl, R, .ref a, rfl, .inl ⟨_, Sum.inl w, .inr ⟨od, hR2⟩, rfl, (rows_val (rising_nodup g.inc) ew ea).symm⟩, a, rfl, ⟨_, sqL hlist2⟩, ?_⟩
      refine for_list (K := K) (a := a) (xs := (belowL ws ls w).map V.int) (fun n σ H' => ∃ z4 : Option V, σ = [some (.ref D), some (.ref R), some (.ref F), some (.int w), z4] ∧ H' = upd H2 F (.dK (mkS (insAll fs ((belowL ws ls w).take n))))) ?_ ?_ ?_ ?_
      · refine ⟨z4, rfl, ?_⟩
        rw [List.take_zero]
        funext b
        by_cases e : b = F
        · rw [e, updS, hF2]
          rfl
        · rw [upd_ne e]
      · rintro n σ H' _ ⟨_, _, rfl⟩
        exact sqL (updN naF hlist2)
      · rintro n x σ H' hx ⟨z4, rfl, rfl⟩
        rw [List.getElem?_map] at hx
        cases eu : (belowL ws ls w)[n]? with
        | none => rw [eu] at hx; cases hx
        | some u =>
          rw [eu] at hx
          cases Option.some.inj hx
          have hlen : (mkS (insAll fs ((belowL ws ls w).take n))).length < sizeLine := by
            rw [mkS_length]
            have := length_sub (vs := ws) (nodup_insAll (ns := (belowL ws ls w).take n) nd) fun y hy => by
              rcases mem_insAll.mp hy with hy | hy
              · exact sub y hy
              · exact ((mem_belowL g hwm).mp (List.mem_of_mem_take hy)).mem g hwm
            exact Nat.lt_of_le_of_lt (show _ ≤ 1000 by omega) (by decide)
          refine ⟨_, rfl, _, rfl, F, _, rfl, DPut.k (k := Sum.inl u) updS hlen, _, rfl, ?_⟩
          rw [upd_upd, mkS_put, take_snoc eu, insAll_snoc]
      · rintro σ H' ⟨z4, rfl, rfl⟩
        rw [List.length_map, List.take_length]
        refine ⟨insAll fs (belowL ws ls w), _, _, rfl, (d2.upd (by obtain ⟨xs, e⟩ := d2.someC; exact ne_of hF2 e (by intro z; cases z)) nFD), updN nRF hR2, updS, fun b o e n1 n2 => updN (ne_of_none e nF) (by rw [fr2 _ n1]; exact kp1 b o e n1 n2), nodup_insAll nd, fun x hx y d => ?_, fun x hx => ?_⟩
        · rcases mem_insAll.mp hx with hx | hx
          · exact mem_insAll.mpr (.inl (cl x hx y d))
          · exact mem_insAll.mpr (.inr ((mem_belowL g hwm).mpr (((mem_belowL g hwm).mp hx).trans d)))
        · rcases mem_insAll.mp hx with hx | hx
          · exact sub x hx
          · exact ((mem_belowL g hwm).mp hx).mem g hwm
    · exact ⟨fs, _, _, rfl, d2, by rw [fr2 _ nRD]; exact hR1, by rw [fr2 _ nFD]; exact hF1, fun b o e n1 n2 => by rw [fr2 _ n1]; exact kp1 b o e n1 n2, nd, cl, sub⟩
  · rintro σ H1 ⟨fs, z3, z4, rfl, d1, hR1, hF1, kp1, nd, cl, sub⟩
    rw [hkl] at d1
    refine ⟨hR1, ?_⟩
    have hF2 : upd H1 R (.dK (rowsKV ws as)) F = some (.dK (mkS fs)) := updN nRF.symm hF1
    have hfl := length_sub nd sub
    refine ⟨_, rfl, F, mkS fs, fs, rfl, .inl hF2, mkS_keys fs, by omega, fun ys S py sy nS => ?_⟩
    have d2 : Dk c D ns (t + ws.length) (upd H1 R (.dK (rowsKV ws as))) := d1.upd nRc nRD
    have kp2 : Kp D H (upd H1 R (.dK (rowsKV ws as))) := fun b o e n => by
      by_cases hb : b = R
      · subst hb
        rw [hR] at e
        cases e
        exact updS
      · exact updN hb (kp1 b o e n hb)
    refine k S ys _ (kp2.trans (.new nS)) ((d2.upd (d2.neC nS) (d2.neD nS)).le (by omega)) (kp2.free nS (d2.neD nS)) updS (fun x hx y d => py.mem_iff.mpr (cl x (py.mem_iff.mp hx) y d)) (fun x hx => sub x (py.mem_iff.mp hx)) (rising_of sy (py.nodup_iff.mpr nd))
end
/-! ### answers, right for a holding -/
/-- where one list of answers grows -/
structure AI (H0 : Hp) (c D L : Addr) (ns : List Int) (t : Nat) (as : List Addr) (ans : List (Int × Bool)) (H : Hp) : Prop where
  dk : Dk c D ns t H
  keep : Kp D H0 H
  hl : H L = some (.lst (as.map V.ref))
  len : as.length = ans.length
  pr : ∀ (i : Nat) (a : Addr) (e : Int × Bool), as[i]? = some a → ans[i]? = some e → H a = some (.tup [.int e.1, .bl e.2])
  d0 : ∃ t0, Dk c D ns t0 H0
  l0 : H0 L = none
section
variable {H0 H H' : Hp} {c D L q : Addr} {ns : List Int} {t t' : Nat} {as : List Addr} {ans : List (Int × Bool)} {o : HO}
theorem AI.lD (s : AI H0 c D L ns t as ans H) : L ≠ D := s.d0.choose_spec.neD s.l0
theorem AI.lC (s : AI H0 c D L ns t as ans H) : L ≠ c := s.d0.choose_spec.neC s.l0
theorem AI.draw (s : AI H0 c D L ns t as ans H) (d : Dk c D ns t' H') (f : ∀ b, b ≠ D → H' b = H b) : AI H0 c D L ns t' as ans H' :=
  ⟨d, s.keep.trans (.fr f), by rw [f _ s.lD]; exact s.hl, s.len, fun i a e h1 h2 => (Kp.fr f).tup s.dk _ _ (s.pr i a e h1 h2), s.d0, s.l0⟩
theorem AI.new (s : AI H0 c D L ns t as ans H) (n : H q = none) : AI H0 c D L ns t as ans (upd H q o) :=
  ⟨s.dk.upd (s.dk.neC n) (s.dk.neD n), s.keep.trans (.new n), updN (ne_of_none s.hl n) s.hl, s.len, fun i a e h1 h2 => updN (ne_of_none (s.pr i a e h1 h2) n) (s.pr i a e h1 h2), s.d0, s.l0⟩
theorem AI.le (s : AI H0 c D L ns t as ans H) (h : t ≤ t') : AI H0 c D L ns t' as ans H := ⟨s.dk.le h, s.keep, s.hl, s.len, s.pr, s.d0, s.l0⟩
theorem ins_get {α : Type} {l : List α} {k i : Nat} {x y : α} (hk : k ≤ l.length) (h : (l.take k ++ [x] ++ l.drop k)[i]? = some y) : (i = k ∧ y = x) ∨ (i < k ∧ l[i]? = some y) ∨ (k < i ∧ l[i - 1]? = some y) := by
  have hl : (l.take k).length = k := by rw [List.length_take]; omega
  rw [List.append_assoc] at h
  by_cases h1 : i < k
  · rw [List.getElem?_append_left (by omega), List.getElem?_take_of_lt h1] at h
    exact .inr (.inl ⟨h1, h⟩)
  · rw [List.getElem?_append_right (by omega), hl] at h
    by_cases h2 : i = k
    · subst h2
      rw [Nat.sub_self] at h
      exact .inl ⟨rfl, (Option.some.inj h).symm⟩
    · obtain ⟨m, hm⟩ : ∃ m, i - k = m + 1 := ⟨i - k - 1, by omega⟩
      rw [hm] at h
      have h3 : (l.drop k)[m]? = some y := h
      rw [List.getElem?_drop] at h3
      refine .inr (.inr ⟨by omega, ?_⟩)
      rw [show i - 1 = k + m by omega]
      exact h3
theorem ins_perm {α : Type} (l : List α) (k : Nat) (x : α) : (l.take k ++ [x] ++ l.drop k).Perm (x :: l) := by
  rw [List.append_assoc]
  have := List.perm_middle (a := x) (l₁ := l.take k) (l₂ := l.drop k)
  rw [List.take_append_drop] at this
  exact this
theorem AI.ins (s : AI H0 c D L ns t as ans H) {T : Addr} {e : Int × Bool} (hT : H T = some (.tup [.int e.1, .bl e.2])) {k : Nat} (hk : k ≤ as.length) : AI H0 c D L ns t (as.take k ++ [T] ++ as.drop k) (ans.take k ++ [e] ++ ans.drop k) (upd H L (.lst ((as.map V.ref).take k ++ [.ref T] ++ (as.map V.ref).drop k))) := by
  refine ⟨s.dk.upd s.lC s.lD, fun b u e n => updN (ne_of_none e s.l0) (s.keep b u e n), ?_, ?_, fun i a e' h1 h2 => ?_, s.d0, s.l0⟩
  · rw [updS, List.map_append, List.map_append, List.map_take, List.map_drop]
    rfl
  · rw [(ins_perm as k T).length_eq, (ins_perm ans k e).length_eq, List.length_cons, List.length_cons, s.len]
  · have hk2 : k ≤ ans.length := by rw [← s.len]; exact hk
    have main : H a = some (.tup [.int e'.1, .bl e'.2]) := by
      rcases ins_get hk h1 with ⟨h3, rfl⟩ | ⟨h3, h4⟩ | ⟨h3, h4⟩
      · rcases ins_get hk2 h2 with ⟨h5, rfl⟩ | ⟨h5, h6⟩ | ⟨h5, h6⟩
        · exact hT
        · omega
        · omega
      · rcases ins_get hk2 h2 with ⟨h5, rfl⟩ | ⟨h5, h6⟩ | ⟨h5, h6⟩
        · omega
        · exact s.pr i a e' h4 h6
        · omega
      · rcases ins_get hk2 h2 with ⟨h5, rfl⟩ | ⟨h5, h6⟩ | ⟨h5, h6⟩
        · omega
        · omega
        · exact s.pr (i - 1) a e' h4 h6
    exact updN (ne_of main s.hl (by intro z; cases z)) main
end
def sp_l_answers (_ : PySem.W.Frag) : Sp := fun vs H Q _ => ∃ (c D p S : Addr) (ns : List Int) (t : Nat) (ws : List Int) (ls : List (Int × Int)) (fs : List Int), vs = [.ref D, .ref p, .ref S] ∧ Dk c D ns t H ∧ ShapeAt H p ws ls ∧ Good ws ls ∧ H S = some (.lst (fs.map V.int)) ∧ S ≠ D ∧ ws.length ≤ 60 ∧ t + 200 < 1000000000 ∧
  ∀ (q : Addr) (ans : List (Int × Bool)) (H' : Hp), Kp D H H' → Dk c D ns (t + 200) H' → AnsAt H' q ans → (∀ e ∈ ans, e.1 ∈ ws ∧ e.2 = fs.contains e.1) → (ans.map (·.1)).Nodup → ans.length ≤ ws.length → Q (.ref q) H'
abbrev N_l_answers : List Str := ["_law_deck_here", "_law_web", "_law_held", "_law_told", "_law_version"]
def t_l_answers (K : PySem.W.Frag) : TS := (tSeq (tAsg (tLst tNil) (gName 3))
    (tSeq (tFor (iTup K (tOp (rIx K) (tVar 1) (tC (.int 0)))) (gName 4) (tIfS (tTest (tOp rGtI (tCall (sp_l_draw K) [] E0 (tCons (tVar 0) (tCons (tC (.int 3)) tNil))) (tC (.int 0)))) (tDrop (tBM K "list" fInsert (tVar 3) (tCons (tCall (sp_l_draw K) [] E0 (tCons (tVar 0) (tCons (tOp rAddI (tCB (fLen K) (tCons (tVar 3) tNil)) (tC (.int 1))) tNil))) (tCons (tTup (tCons (tVar 4) (tCons (tOp (rIn K false) (tVar 4) (tVar 2)) tNil))) tNil)))) tNext))
    (tRet (tCB (fTupleOf K) (tCons (tVar 3) tNil)))))
section
variable {K : PySem.W.Frag} {vs : List V} {H : Hp} {Q : VK} {E : XK}
theorem len_l_answers (h : sp_l_answers K vs H Q E) : vs.length = 3 := by
  obtain ⟨_, _, _, _, _, _, _, _, _, rfl, _⟩ := h
  rfl
theorem pure_l_answers (h : sp_l_answers K vs H Q E) : t_l_answers K { nx := fun _ H' => Q .non H', rt := Q } (start N_l_answers vs) H := by
  obtain ⟨c, D, p, S, ns, t, ws, ls, fs, rfl, dk, ⟨a0, r0, rs, hp, ha0, hr0, lk⟩, g, hS, nSD, hw, ht, k⟩ := h
  refine ⟨Nat.zero_le _, fun L nL => ?_⟩
  have s0 : AI H c D L ns t [] [] (upd H L (.lst [])) := ⟨dk.upd (dk.neC nL) (dk.neD nL), .new nL, updS, rfl, (fun i a e h1 _ => by cases h1), ⟨t, dk⟩, nL⟩
  refine ⟨_, rfl, ixT (s0.keep.tup dk _ _ hp) rfl ⟨a0, rfl, ⟨_, sqT (s0.keep.tup dk _ _ ha0)⟩, ?_⟩⟩
  refine for_tup (K := K) (a := a0) (xs := ws.map V.int) (fun i σ H' => ∃ (as : List Addr) (ans : List (Int × Bool)) (z4 : Option V), σ = [some (.ref D), some (.ref p), some (.ref S), some (.ref L), z4] ∧ AI H c D L ns (t + 2 * i) as ans H' ∧ (∀ e ∈ ans, e.1 ∈ ws.take i ∧ e.2 = fs.contains e.1) ∧ (ans.map (·.1)).Nodup ∧ ans.length ≤ i) ?_ ?_ ?_ ?_
  · exact ⟨[], [], none, rfl, s0, (fun e he => nomatch he), .nil, Nat.le_refl _⟩
  · rintro i σ H' _ ⟨_, _, _, _, s, _⟩
    exact sqT (s.keep.tup dk _ _ ha0)
  · rintro i x σ H1 hx ⟨as, ans, z4, rfl, s, hm, nd, hlen⟩
    rw [List.getElem?_map] at hx
    cases ew : ws[i]? with
    | none => rw [ew] at hx; cases hx
    | some w =>
      rw [ew] at hx
      cases Option.some.inj hx
      have hi : i < ws.length := (List.getElem?_eq_some_iff.mp ew).1
      have tk : ws.take (i + 1) = ws.take i ++ [w] := take_snoc ew
      refine ⟨_, rfl, c, D, ns, _, 3, rfl, s.dk, by omega, by decide, by decide, fun y H2 y0 y1 d2 fr2 => ⟨_, _, rfl, rfl, _, rfl, ite2 (fun _ => ?_) (fun _ => ?_)⟩⟩
      · have s2 := s.draw d2 fr2
        refine ⟨_, rfl, .inl ⟨rfl, _, sqL s2.hl⟩, _, rfl, _, rfl, lenL s2.hl ⟨_, _, rfl, rfl, c, D, ns, _, _, rfl, s2.dk, by omega, by omega, small100 (by rw [List.length_map, s2.len]; omega), fun j H3 j0 j1 d3 fr3 => ?_⟩⟩
        have s3 := s2.draw d3 fr3
        rw [List.length_map] at j1
        have hS3 : H3 S = some (.lst (fs.map V.int)) := s3.keep _ _ hS nSD
        refine ⟨_, rfl, _, rfl, _, rfl, S, _, rfl, .inl (sqL hS3), rfl, flat_ints fs, ?_⟩
        refine ⟨by show (2 : Nat) ≤ sizeLine; decide, fun T nT => ?_⟩
        have s4 : AI H c D L ns _ as ans (upd H3 T (.tup [.int w, .bl (inV (.int w) (fs.map V.int))])) := s3.new nT
        refine ⟨L, _, j, _, rfl, rfl, s4.hl, ?_, j0, (by have := s2.len; omega), ?_⟩
        · rw [List.length_map, s4.len]
          exact Nat.lt_of_le_of_lt (show _ ≤ 1000 by omega) (by decide)
        · have s5 := s4.ins (T := T) (e := (w, fs.contains w)) (by rw [updS, inV_ints]) (k := j.toNat) (by omega)
          refine ⟨_, _, _, rfl, s5.le (by omega), fun e he => ?_, ?_, ?_⟩
          · rw [tk]
            rcases List.mem_cons.mp ((ins_perm ans j.toNat (w, fs.contains w)).mem_iff.mp he) with rfl | he
            · exact ⟨List.mem_append_right _ (List.mem_singleton.mpr rfl), rfl⟩
            · exact ⟨List.mem_append_left _ (hm e he).1, (hm e he).2⟩
          · have pm := (ins_perm ans j.toNat (w, fs.contains w)).map (·.1)
            refine pm.nodup_iff.mpr (List.nodup_cons.mpr ⟨fun hw2 => ?_, nd⟩)
            obtain ⟨e, he, ee⟩ := List.mem_map.mp hw2
            have := (hm e he).1
            rw [ee] at this
            obtain ⟨m, hm2, em⟩ := List.getElem_of_mem this
            rw [List.length_take] at hm2
            rw [List.getElem_take] at em
            have h1 := List.getElem?_eq_some_iff.mp ew
            have := (List.getElem_inj (rising_nodup g.inc)).mp (em.trans h1.2.symm)
            omega
          · rw [(ins_perm ans j.toNat (w, fs.contains w)).length_eq, List.length_cons]
            omega
      · refine ⟨as, ans, _, rfl, (s.draw d2 fr2).le (by omega), fun e he => ⟨?_, (hm e he).2⟩, nd, by omega⟩
        rw [tk]
        exact List.mem_append_left _ (hm e he).1
  · rintro σ H1 ⟨as, ans, z4, rfl, s, hm, nd, hlen⟩
    rw [List.length_map] at s hm hlen
    refine ⟨_, rfl, L, _, rfl, .inl ⟨sqL s.hl, fun q nq => ?_⟩⟩
    have s2 : AI H c D L ns _ as ans (upd H1 q (.tup (as.map V.ref))) := s.new nq
    exact k q ans _ s2.keep (s2.dk.le (by omega)) ⟨as, updS, s2.len, s2.pr⟩ (fun e he => ⟨List.mem_of_mem_take (hm e he).1, (hm e he).2⟩) nd hlen
end
end Fw

set_option Elab.async false
set_option linter.all false
set_option maxRecDepth 100000
set_option maxHeartbeats 4000000
namespace L2
open PySem PySem.Spec PyProof.Rows HT
def stepN (n k w : Nat) : Nat := (n - k - 1) / w + 1
def stepL {α : Type} (xs : List α) (k w : Nat) : List α := (List.range (stepN xs.length k w)).filterMap fun m => xs[k + m * w]?
theorem stepL_le {α : Type} (xs : List α) {k w : Nat} (hk : k < xs.length) : (stepL xs k w).length ≤ xs.length := by
  unfold stepL
  refine Nat.le_trans (List.length_filterMap_le _ _) ?_
  rw [List.length_range]
  unfold stepN
  have := Nat.div_le_self (xs.length - k - 1) w
  omega
theorem Vals.picks {xs : List V} {us : List Value} (h : Vals xs us) (f : Nat → Nat) : ∀ ms : List Nat, Vals (ms.filterMap fun m => xs[f m]?) (ms.filterMap fun m => us[f m]?)
  | [] => .nil
  | m :: r => by
    have ih := Vals.picks h f r
    rw [List.filterMap_cons, List.filterMap_cons]
    cases e : xs[f m]? with
    | none =>
      rw [h.none_of e]
      exact ih
    | some x =>
      obtain ⟨u, eu, ru⟩ := h.get e
      rw [eu]
      exact .cons ru ih
theorem places_step {k n w : Nat} (hk : k < n) (hw : 0 < w) : Builtin.Slice.slicePlaces (k : Int) (n : Int) (w : Int) = stepN n k w := by
  unfold Builtin.Slice.slicePlaces stepN
  rw [if_pos (by omega), if_pos (by omega)]
  have e : ((n : Int) - (k : Int) - 1) = ((n - k - 1 : Nat) : Int) := by omega
  rw [e]
  have : ((n - k - 1 : Nat) : Int) / (w : Int) = (((n - k - 1) / w : Nat) : Int) := rfl
  rw [this]
  generalize (n - k - 1) / w = q
  omega
section
variable {prog : Program} {w : World} {A : Around} {E : Value → Shared → Prop} {s : Shared}
theorem applied_step {sl : Addr} {k st n : Nat} {vl vs : Value} {Q : Int × Int × Nat → Shared → Prop} (hs : s.heap.IsSliceOf sl vl .none vs) (pl : IsPart vl (some (k : Int))) (ps : IsPart vs (some (st : Int))) (hk : k < n) (hw : 0 < st)
    (h : Q ((k : Int), (st : Int), stepN n k st) s) : wpAny (model prog w) A (Builtin.Slice.sliceApplied (.ref sl) (pure (n : Int))) Q E s := by
  obtain ⟨os, hos, hcs, hds⟩ := id hs
  unfold Builtin.Slice.sliceApplied Builtin.Slice.sliceFields
  refine wpAny_bind (wpAny_bind (wpAny_field hos hds (x := vl) rfl (wpAny_bind (wpAny_field hos hds (x := .none) rfl (wpAny_bind (wpAny_field hos hds (x := vs) rfl (wpAny_pure ?_)))))))
  refine wpAny_bind (slicePart_ ps ?_)
  show wpAny _ _ (if ((st : Int) == 0) = true then _ else _) _ _ s
  rw [if_neg (fun z => by have := eq_of_beq z; omega)]
  refine wpAny_bind (slicePart_ pl (wpAny_bind (slicePart_none (wpAny_bind (wpAny_pure ?_)))))
  show wpAny _ _ (match Builtin.Slice.sliceAdjust (some (k : Int)) none (st : Int) (n : Int) with | (lo, hi) => pure (lo, (st : Int), Builtin.Slice.slicePlaces lo hi (st : Int))) _ _ s
  have e : Builtin.Slice.sliceAdjust (some (k : Int)) none (st : Int) (n : Int) = ((k : Int), (n : Int)) := by
    have h1 : ¬ ((st : Int) < 0) := by omega
    have h2 : ¬ ((k : Int) < 0) := by omega
    unfold Builtin.Slice.sliceAdjust
    simp only [h1, h2, if_false]
    refine Prod.ext ?_ rfl
    show min (k : Int) (n : Int) = (k : Int)
    omega
  rw [e]
  show wpAny _ _ (pure ((k : Int), (st : Int), Builtin.Slice.slicePlaces (k : Int) (n : Int) (st : Int))) _ _ s
  rw [places_step hk hw]
  exact wpAny_pure h
theorem getItem_tuple_step {t sl : Addr} {items : Array Value} {vl vs : Value} {k st : Nat} {Q : Value → Shared → Prop} (ht : IsTup s.heap t items) (hs : s.heap.IsSliceOf sl vl .none vs) (pl : IsPart vl (some (k : Int))) (ps : IsPart vs (some (st : Int)))
    (hk : k < items.size) (hw : 0 < st) (h0 : k = 0 ∧ st = 1 → Q (.ref t) s)
    (h1 : ¬ (k = 0 ∧ st = 1) → Q (.ref s.heap.objs.size) { s with heap := s.heap.push { cls := .type "tuple", data := .seq (stepL items.toList k st).toArray } })
    (hsz : items.size ≤ sizeLine) : wpAny (model prog w) A (getItem (.ref t) (.ref sl)) Q E s := by
  have hpk : sizeOk (.seq (stepL items.toList k st).toArray) := by
    show (stepL items.toList k st).toArray.size ≤ sizeLine
    rw [List.size_toArray]
    exact Nat.le_trans (stepL_le _ (by rw [Array.length_toList]; exact hk)) (by rw [Array.length_toList]; exact hsz)
  obtain ⟨os, hos, hcs, hds⟩ := id hs
  have hTs : s.TypeIs (.ref sl) "slice" := ⟨os, hos, hcs⟩
  unfold getItem
  try with_reducible refine wpAny_holding ?_
  first | refine wpAny_bind (wpAny_pure ?_) | skip
  refine wpAny_bind (wpAny_sequenceKey ht.typeIs (by decide) ?_)
  refine wpAny_bind (wpAny_callSpecial?_slot (name := Str.ofString "__getitem__") ht.typeIs PyProof.Rows.slot_tuple_getitem
    (wpAny_call_entry PyProof.Rows.slot_tuple_getitem ht.typeIs entry_tuple_getitem ?_ (args_tuple_getitem _ _)))
  show wpAny _ _ (Builtin.Tuple.tupleItemsOf (.ref t) >>= _) _ _ s
  refine wpAny_bind (tupleItemsOf_ ht ?_)
  refine wpAny_bind (wpAny_typeOf hTs ?_)
  rw [if_pos (by decide)]
  refine wpAny_bind (applied_step hs pl ps hk hw ?_)
  show wpAny _ _ (if ((k : Int) == 0 && (st : Int) == 1 && stepN items.size k st == items.size) = true then _ else _) _ _ s
  by_cases hz : k = 0 ∧ st = 1
  · have hyes : ((k : Int) == 0 && (st : Int) == 1 && stepN items.size k st == items.size) = true := by
      rw [hz.1, hz.2] at *
      have : stepN items.size 0 1 = items.size := by unfold stepN; rw [Nat.div_one]; omega
      rw [this]
      simp
    rw [if_pos hyes]
    refine wpAny_bind ?_
    show wpAny _ _ (typeOf (.ref t) >>= fun T => pure (T == .type "tuple")) _ _ s
    refine wpAny_bind (wpAny_typeOf ht.typeIs (wpAny_pure ?_))
    first
      | rw [if_pos (by decide)]
      | simp only [beq_self_eq_true, if_true]
    first
      | exact wpAny_bind (wpAny_rule (wpAny_pure ⟨_, rfl, wpAny_pure (h0 hz)⟩))
      | exact wpAny_bind (wpAny_rule (wpAny_bind (wpAny_pure (wpAny_pure ⟨_, rfl, wpAny_pure (h0 hz)⟩))))
  · have hno : ¬ (((k : Int) == 0 && (st : Int) == 1 && stepN items.size k st == items.size) = true) := fun q => by
      rw [Bool.and_eq_true, Bool.and_eq_true] at q
      have q1 : (k : Int) = 0 := eq_of_beq q.1.1
      have q2 : (st : Int) = 1 := eq_of_beq q.1.2
      exact hz ⟨by omega, by omega⟩
    rw [if_neg hno]
    have ep : ((List.range (stepN items.size k st)).filterMap fun (m : Nat) => items[((k : Int) + (m : Int) * (st : Int)).toNat]?).toArray = (stepL items.toList k st).toArray := by
      unfold stepL
      rw [Array.length_toList]
      refine congrArg (fun f => (List.filterMap f (List.range (stepN items.size k st))).toArray) (funext fun m => ?_)
      have : ((k : Int) + (m : Int) * (st : Int)).toNat = k + m * st := by
        have e : (m : Int) * (st : Int) = ((m * st : Nat) : Int) := rfl
        rw [e]
        omega
      rw [this, Array.getElem?_toList]
    rw [ep]
    have h := h1 hz
    first
      | exact wpAny_bind (m := Builtin.Tuple.tupleExact _) (wpAny_newObj_type (wpAny_pure ⟨_, rfl, wpAny_pure h⟩) hpk)
      | exact wpAny_bind (m := Builtin.Tuple.tupleExact _) (wpAny_newObj_type (wpAny_bind (wpAny_pure (wpAny_pure ⟨_, rfl, wpAny_pure h⟩))) hpk)
      | exact wpAny_bind (wpAny_bind (m := Builtin.Tuple.tupleExact _) (wpAny_newObj_type (wpAny_pure (wpAny_pure ⟨_, rfl, wpAny_pure h⟩)) hpk))
      | exact wpAny_bind (wpAny_bind (m := Builtin.Tuple.tupleExact _) (wpAny_newObj_type (wpAny_pure ⟨_, rfl, wpAny_pure h⟩) hpk))
end
section
variable {X : Cx}
/-- t[k::st], k within t -/
def tStepT (K : PySem.W.Frag) (te : TE) (tl ts : TO) : TE := fun σ H Q => te σ H fun x H1 => tl σ H1 fun l H2 => ts σ H2 fun z H3 => ∃ a xs k st, x = .ref a ∧ l = some ((k : Nat) : Int) ∧ z = some ((st : Nat) : Int) ∧ SqT K H3 a xs ∧ k < xs.length ∧ 0 < st ∧
  (k = 0 ∧ st = 1 → Q (.ref a) H3) ∧ (¬ (k = 0 ∧ st = 1) → ∀ p, H3 p = none → Q (.ref p) (upd H3 p (.tup (stepL xs k st))))
theorem pe_stepT {e ez : Expr} {lo : Option Expr} {te : TE} {tl ts : TO} {p2 pos : Pos} (he : PE X e te) (hl : PO X lo tl) (hs : PO X (some ez) ts) : PE X (.Subscript e (.Slice lo none (some ez) p2) pos) (tStepT X.K te tl ts) := by
  refine ⟨fun pins s σ H Q I h => ?_⟩
  refine Subscript_ (thn (he.run pins s σ H _ I h) fun v s1 ⟨x, H1, I1, r1, q1⟩ => ?_)
  refine wpAny_Slice (thn (hl.run pins s1 σ H1 _ I1 q1) fun vl s2 ⟨l, H2, I2, pl, q2⟩ => ?_)
  refine thn (po_none.run pins s2 σ H2 (fun o H3 => o = none ∧ H3 = H2) I2 ⟨rfl, rfl⟩) fun vu s3 ⟨u, H3, I3, pu, eu, e3⟩ => ?_
  subst eu e3
  cases pu
  refine thn (hs.run pins s3 σ H3 _ I3 q2) fun vs s4 ⟨z, H4, I4, ps, q4⟩ => ?_
  obtain ⟨a, xs, k, st, rfl, rfl, rfl, hx, hk, hw, q0, qn⟩ := q4
  cases r1
  have I5 : Inv X pins σ H4 { s4 with heap := s4.heap.push { cls := .type "slice", data := .fields #[vl, .none, vs] } } := I4.kept (t' := s4.toks) fun b ob q => Heap.get?_push_of_some _ q
  obtain ⟨its, r, ht, hz⟩ := I5.tuple hx
  have hlen := r.length
  show wpAny (model X.prog X.w) X.A (subscriptTail e (.Slice lo none (some ez) p2) (.ref a) (.ref s4.heap.objs.size)) (EP X pins σ Q) X.xe { s4 with heap := s4.heap.push { cls := .type "slice", data := .fields #[vl, .none, vs] } }
  refine tail_any (ops := [.ref a, .ref s4.heap.objs.size]) ht.typeIs (PyProof.Rows.slot_tuple_getitem.lookup) ?_ (by with_unfolding_all rfl)
  refine getItem_tuple_step ht (Heap.IsSliceOf.new _ vl .none vs) pl ps (by rw [List.size_toArray]; omega) hw (fun e => ⟨.ref a, H4, I5, rfl, q0 e⟩) (fun e => ?_) (by rw [List.size_toArray]; omega)
  refine ⟨.ref _, _, I5.laid (t' := s4.toks) (o := .tup (stepL xs k st)) (fun b ob q => Heap.get?_push_of_some _ q) (Nat.le_refl _) ?_, rfl, qn e _ (I5.hok.fresh (Nat.le_refl _))⟩
  refine ⟨Nat.le_trans (stepL_le xs hk) hz, _, ?_, IsTup.new _ _⟩
  show Vals (stepL xs k st) (stepL its k st)
  unfold stepL
  rw [← hlen]
  exact r.picks (fun m => k + m * st) _
end
end L2

set_option Elab.async false
set_option linter.all false
set_option maxRecDepth 100000
set_option maxHeartbeats 4000000
namespace Fw
open PySem PySem.Spec PyProof.Rows L2
theorem meets_ext (l b : Addr) (xs ys : Array Value) (n m : Nat) (od : Option Addr) (sl : Array (Option Value)) (short : ¬(!xs.isEmpty && Builtin.List.listTooLong (xs.size + ys.size)) = true) (z1 : xs.size ≤ sizeLine) (z2 : xs.size + ys.size ≤ sizeLine + 1) :
    Meets (Builtin.«list.extend» ⟨[.ref l, .ref b], []⟩) (fun _ R s => s.heap.get? l = some ⟨.type "list", none, .seq xs n, #[]⟩ ∧ s.heap.get? b = some ⟨.type "tuple", od, .seq ys m, sl⟩ ∧ R (.ok (.ret Value.none)) { s with heap := s.heap.update l (Obj.mapSeq fun x => x ++ ys), toks := s.toks }) :=
  .of_wp fun prog w A R s h => by
    obtain ⟨hp, g, d, tk, os⟩ := s
    obtain ⟨hl, hb, h⟩ := h
    have f1 := AutoSeq1.idx_int
    have f2 := AutoSeq1.sub_tuple_tuple
    have f3 := AutoSeq1.sub_list_list
    have f4 := AutoSeq1.sub_tuple_list
    have f5 := AutoSeq1.sub_list_tuple
    have hz' : (xs ++ ys).size ≤ sizeLine + 1 := by rw [Array.size_append]; exact z2
    wp_walk using (wpAny_updateSeq hl rfl (hz := z1) (_hz' := hz')), AutoSeq1.wpAny_loadPart' hl, AutoSeq1.wpAny_loadPart' hb
    exact ⟨_, rfl, h⟩
/-- l.extend(b): b another list, or a tuple -/
def rExtendA (K : PySem.W.Frag) : V → List V → Hp → VK → Prop := fun x vs H Q => ∃ (l b : Addr) (xs ys : List V), x = .ref l ∧ vs = [.ref b] ∧ H l = some (.lst xs) ∧ (H b = some (.lst ys) ∨ H b = some (.tup ys)) ∧ xs.length + ys.length ≤ 100000 ∧ Q .non (upd H l (.lst (xs ++ ys)))
theorem mt_extendA {X : Cx} : MtM X "list.extend" (rExtendA X.K) := by
  intro pins s σ H x vs v us Q inv rx rs rd
  obtain ⟨l, b, xs, ys, rfl, rfl, hl, hb, few, q⟩ := rd
  have few2 : xs.length + ys.length ≤ sizeLine := Nat.le_trans few (by decide)
  rcases hb with hb | hb
  · exact mt_extend pins s σ H _ _ v us Q inv rx rs ⟨l, b, xs, ys, rfl, rfl, hl, hb, few2, q⟩
  · cases rx
    obtain ⟨u, rfl, ru⟩ := rs.one
    cases ru
    obtain ⟨_, its, n, r, e0, e⟩ := inv.lstM hl
    obtain ⟨_, its2, r2, o, e2, c2, m, d2⟩ := (show ObjOk X.prog X.w H s.heap b (.tup ys) from inv.hok b _ hb)
    obtain ⟨oc, od, dt, sl⟩ := o
    simp only at c2 d2
    subst c2 d2
    have l2 := r2.length
    have sz : its.toArray.size + its2.toArray.size ≤ sizeLine := by rw [List.size_toArray, List.size_toArray]; omega
    have lng : ¬ (!its.toArray.isEmpty && Builtin.List.listTooLong (its.toArray.size + its2.toArray.size)) = true := by
      rw [notLongL sz, Bool.and_false]
      exact Bool.false_ne_true
    refine call_meets F.slot_list_extend ⟨_, e, rfl⟩ F.entry_list_extend (F.args_list_extend_2 _ _) (meets_ext l b its.toArray its2.toArray n m od sl lng (by rw [List.size_toArray]; omega) (by omega)) ⟨e, e2, ?_⟩
    refine ⟨.non, _, inv.lset (its' := its ++ its2) hl e (by simp) (r.append r2) ?_, rfl, q⟩
    rw [List.length_append]
    omega
end Fw

set_option Elab.async false
set_option linter.all false
set_option maxRecDepth 100000
set_option maxHeartbeats 4000000
namespace Fw
open PySem L2 RZ RT
/-! ### the chains of a long shape -/
def val (a g : Int) (i : Nat) : Int := a + g * (i : Int)
theorem val_lt {a g : Int} (hg : 1 ≤ g) {i j : Nat} (h : i < j) : val a g i < val a g j := mono_g (by omega) h
theorem val_inj {a g : Int} (hg : 1 ≤ g) {i j : Nat} (h : val a g i = val a g j) : i = j := by
  rcases Nat.lt_trichotomy i j with z | z | z
  · have := val_lt (a := a) hg z; omega
  · exact z
  · have := val_lt (a := a) hg z; omega
theorem dn_long1 {a g : Int} {w n : Nat} (hg : 1 ≤ g) {x y : Int} (h : Dn (lsL a g w n) x y) : ∀ i : Nat, x = val a g i → ∃ j, y = val a g j ∧ j ≤ i ∧ i % w = j % w := by
  induction h with
  | refl v => exact fun i e => ⟨i, e, Nat.le_refl _, rfl⟩
  | step hl r ih =>
    intro i e
    obtain ⟨k, hk, ek⟩ := List.mem_map.mp hl
    have e1 := (Prod.mk.inj ek).1
    have e2 := (Prod.mk.inj ek).2
    have e3 : a + g * ((w : Int) + (k : Int)) = val a g (w + k) := by unfold val; rw [show ((w + k : Nat) : Int) = (w : Int) + (k : Int) by omega]
    have ei : i = w + k := val_inj hg (e.symm.trans (e1.symm.trans e3))
    obtain ⟨j, h1, h2, h3⟩ := ih k e2.symm
    refine ⟨j, h1, by omega, ?_⟩
    rw [ei, Nat.add_mod_left]
    exact h3
theorem dn_long2 {a g : Int} {w n : Nat} (hw : 0 < w) (j : Nat) : ∀ i : Nat, i < n → j ≤ i → i % w = j % w → Dn (lsL a g w n) (val a g i) (val a g j) := by
  intro i
  induction i using Nat.strongRecOn with
  | ind i ih =>
    intro hi hj hm
    by_cases e : i = j
    · subst e
      exact .refl _
    · have h0 := Nat.sub_mod_eq_zero_of_mod_eq hm
      have h1 : w ≤ i - j := Nat.le_of_dvd (by omega) (Nat.dvd_of_mod_eq_zero h0)
      have e4 : i - w + w = i := by omega
      have h2 : (i - w) % w = j % w := by rw [← hm, ← e4, Nat.add_mod_right, e4]
      refine .step (p := val a g (i - w)) ?_ (ih (i - w) (by omega) (by omega) (by omega) h2)
      refine List.mem_map.mpr ⟨i - w, List.mem_range.mpr (by omega), ?_⟩
      show (a + g * ((w : Int) + ((i - w : Nat) : Int)), a + g * ((i - w : Nat) : Int)) = (val a g i, val a g (i - w))
      unfold val
      rw [show (w : Int) + ((i - w : Nat) : Int) = (i : Int) by omega]
structure An (w n k : Nat) (ai : List (Nat × Bool)) : Prop where
  nd : (ai.map (·.1)).Nodup
  lt : ∀ p ∈ ai, p.1 < n ∧ p.1 % w < k
  co : ∀ i j, (i, true) ∈ ai → (j, false) ∈ ai → i % w = j % w → i < j
def Lf (a g : Int) (w n k : Nat) (left : List Int) (ai : List (Nat × Bool)) : Prop := ∀ v, v ∈ left ↔ ∃ i, i < n ∧ i % w < k ∧ v = val a g i ∧ (∀ j, (j, true) ∈ ai → j % w = i % w → j < i) ∧ (∀ j, (j, false) ∈ ai → j % w = i % w → i < j)
def toA (a g : Int) (ai : List (Nat × Bool)) : List (Int × Bool) := ai.map fun p => (val a g p.1, p.2)
theorem mem_toA {a g : Int} (hg : 1 ≤ g) {ai : List (Nat × Bool)} {i : Nat} {b : Bool} : (val a g i, b) ∈ toA a g ai ↔ (i, b) ∈ ai := by
  unfold toA
  rw [List.mem_map]
  refine ⟨fun ⟨p, hp, e⟩ => ?_, fun h => ⟨_, h, rfl⟩⟩
  obtain ⟨x, y⟩ := p
  have e1 := val_inj hg (Prod.mk.inj e).1
  have e2 : y = b := (Prod.mk.inj e).2
  rw [← e1, ← e2]
  exact hp
theorem toA_of {a g : Int} {ai : List (Nat × Bool)} {v : Int} {b : Bool} (h : (v, b) ∈ toA a g ai) : ∃ i, v = val a g i ∧ (i, b) ∈ ai := by
  obtain ⟨⟨x, y⟩, hp, e⟩ := List.mem_map.mp h
  have e2 : y = b := (Prod.mk.inj e).2
  exact ⟨x, (Prod.mk.inj e).1.symm, e2 ▸ hp⟩
theorem toA_nodup {a g : Int} (hg : 1 ≤ g) {ai : List (Nat × Bool)} (h : (ai.map (·.1)).Nodup) : ((toA a g ai).map (·.1)).Nodup := by
  have e : (toA a g ai).map (·.1) = (ai.map (·.1)).map (val a g) := by unfold toA; rw [List.map_map, List.map_map]; rfl
  rw [e]
  exact List.pairwise_map.mpr (h.imp fun {x y} z q => z (val_inj hg q))
section
variable {a g : Int} {w n k : Nat} {ai : List (Nat × Bool)} {left : List Int}
theorem An.nc (hg : 1 ≤ g) (h : An w n k ai) : NotContrary (lsL a g w n) (toA a g ai) := fun v u h1 h2 d => by
  obtain ⟨i, rfl, hi⟩ := toA_of h1
  obtain ⟨j, rfl, hj⟩ := toA_of h2
  obtain ⟨j', e, h3, h4⟩ := dn_long1 hg d i rfl
  have e' := val_inj hg e
  subst e'
  have := h.co _ _ hi hj h4
  omega
theorem left_eq (ha : 0 ≤ a) (hg : 1 ≤ g) (hw : 0 < w) (h : An w n (min w n) ai) (l : Lf a g w n (min w n) left ai) {v : Int} (hv : v ∈ vsL a g n) :
    left.contains v = (!hasB (lsL a g w n) (toA a g ai) v && !lacB (lsL a g w n) (toA a g ai) v) := by
  have gd : Good (vsL a g n) (lsL a g w n) := good_long ha (by omega) hw
  obtain ⟨i, hi, rfl⟩ := vsL_mem hv
  change left.contains (val a g i) = (!hasB (lsL a g w n) (toA a g ai) (val a g i) && !lacB (lsL a g w n) (toA a g ai) (val a g i))
  have hb : hasB (lsL a g w n) (toA a g ai) (val a g i) = true ↔ ∃ j, (j, true) ∈ ai ∧ i ≤ j ∧ j % w = i % w := by
    rw [hasB_iff gd]
    refine ⟨fun ⟨s, h1, h2⟩ => ?_, fun ⟨j, h1, h2, h3⟩ => ⟨_, (mem_toA hg).mpr h1, dn_long2 hw i j (h.lt _ h1).1 h2 h3⟩⟩
    obtain ⟨j, rfl, hj⟩ := toA_of h1
    obtain ⟨j', e, h3, h4⟩ := dn_long1 hg h2 j rfl
    have e' := val_inj hg e
    subst e'
    exact ⟨j, hj, h3, h4⟩
  have hl : lacB (lsL a g w n) (toA a g ai) (val a g i) = true ↔ ∃ j, (j, false) ∈ ai ∧ j ≤ i ∧ i % w = j % w := by
    rw [lacB_iff gd]
    refine ⟨fun ⟨s, h1, h2⟩ => ?_, fun ⟨j, h1, h2, h3⟩ => ⟨_, (mem_toA hg).mpr h1, dn_long2 hw j i hi h2 h3⟩⟩
    obtain ⟨j, rfl, hj⟩ := toA_of h1
    obtain ⟨j', e, h3, h4⟩ := dn_long1 hg h2 i rfl
    have e' := val_inj hg e
    subst e'
    exact ⟨j, hj, h3, h4⟩
  rw [Bool.eq_iff_iff, List.contains_iff_mem, l, Bool.and_eq_true, Bool.not_eq_true', Bool.not_eq_true', ← Bool.not_eq_true, ← Bool.not_eq_true, hb, hl]
  constructor
  · rintro ⟨i', h1, h2, e, h3, h4⟩
    have e' := val_inj hg e
    subst e'
    exact ⟨fun ⟨j, q1, q2, q3⟩ => by have := h3 j q1 q3; omega, fun ⟨j, q1, q2, q3⟩ => by have := h4 j q1 q3.symm; omega⟩
  · rintro ⟨h1, h2⟩
    refine ⟨i, hi, ?_, rfl, fun j q1 q2 => ?_, fun j q1 q2 => ?_⟩
    · have z1 := Nat.mod_lt i hw
      have z2 := Nat.mod_le i w
      omega
    · exact Nat.lt_of_not_le fun z => h1 ⟨j, q1, z, q2⟩
    · exact Nat.lt_of_not_le fun z => h2 ⟨j, q1, z, q2.symm⟩
end
/-! ### one chain's answers -/
structure Inn (w n r e c : Nat) (ai : List (Nat × Bool)) (low high : Int) : Prop where
  nd : (ai.map (·.1)).Nodup
  lt : ∀ p ∈ ai, p.1 < n ∧ p.1 % w ≤ r
  co : ∀ i j, (i, true) ∈ ai → (j, false) ∈ ai → i % w = j % w → i < j
  own : ∀ p ∈ ai, p.1 % w = r → p.2 = decide (p.1 / w < e)
  lo1 : ∀ i, (i, true) ∈ ai → i % w = r → ((i / w : Nat) : Int) ≤ low
  lo2 : low = -1 ∨ ∃ i, (i, true) ∈ ai ∧ i % w = r ∧ ((i / w : Nat) : Int) = low
  hi1 : ∀ i, (i, false) ∈ ai → i % w = r → high ≤ ((i / w : Nat) : Int)
  hi2 : high = (c : Int) ∨ ∃ i, (i, false) ∈ ai ∧ i % w = r ∧ ((i / w : Nat) : Int) = high
  el : low < (e : Int)
  eh : (e : Int) ≤ high
  hc : high ≤ (c : Int)
  lb : -1 ≤ low
section
variable {a g : Int} {w n r e c : Nat} {ai ai' : List (Nat × Bool)} {left : List Int} {low high : Int}
theorem An.inn (h : An w n r ai) (hec : e ≤ c) : Inn w n r e c ai (-1) (c : Int) where
  nd := h.nd
  lt := fun p hp => ⟨(h.lt p hp).1, Nat.le_of_lt (h.lt p hp).2⟩
  co := h.co
  own := fun p hp z => by have := (h.lt p hp).2; omega
  lo1 := fun i hp z => by have : i % w < r := (h.lt _ hp).2; omega
  lo2 := .inl rfl
  hi1 := fun i hp z => by have : i % w < r := (h.lt _ hp).2; omega
  hi2 := .inl rfl
  el := by omega
  eh := by omega
  hc := by omega
  lb := by omega
theorem Inn.an (h : Inn w n r e c ai low high) : An w n (r + 1) ai := ⟨h.nd, fun p hp => ⟨(h.lt p hp).1, by have := (h.lt p hp).2; omega⟩, h.co⟩
theorem pos_mod {j : Nat} (hr : r < w) : (r + j * w) % w = r := by rw [Nat.add_mul_mod_self_right, Nat.mod_eq_of_lt hr]
theorem pos_div {j : Nat} (hr : r < w) : (r + j * w) / w = j := by rw [Nat.add_mul_div_right _ _ (by omega), Nat.div_eq_of_lt hr, Nat.zero_add]
theorem pos_of {i : Nat} (h : i % w = r) : i = r + i / w * w := by
  have := Nat.mod_add_div i w
  rw [Nat.mul_comm] at this
  omega
theorem same_lt {i j : Nat} (hi : i % w = r) (hj : j % w = r) (h : i / w < j / w) : i < j := by
  rw [pos_of hi, pos_of hj]
  have : i / w * w + w ≤ j / w * w := by
    rw [← Nat.succ_mul]
    exact Nat.mul_le_mul_right _ h
  have h0 : 0 < w := by
    rcases Nat.eq_zero_or_pos w with z | z
    · rw [z, Nat.div_zero, Nat.div_zero] at h; omega
    · exact z
  omega
theorem Inn.step (h : Inn w n r e c ai low high) (hr : r < w) {j : Nat} (hj : j < c) (hn : r + j * w < n) (mem : ∀ p, p ∈ ai' ↔ p ∈ ai ∨ p = (r + j * w, decide (j < e))) (nd : (ai'.map (·.1)).Nodup) :
    Inn w n r e c ai' (if j < e then max low (j : Int) else low) (if j < e then high else min high (j : Int)) := by
  have pm := pos_mod (j := j) hr
  have pd := pos_div (j := j) hr
  have own : ∀ p ∈ ai', p.1 % w = r → p.2 = decide (p.1 / w < e) := fun p hp z => by
    rcases (mem p).mp hp with q | rfl
    · exact h.own p q z
    · show decide (j < e) = decide ((r + j * w) / w < e)
      rw [pd]
  have lt : ∀ p ∈ ai', p.1 < n ∧ p.1 % w ≤ r := fun p hp => by
    rcases (mem p).mp hp with q | rfl
    · exact h.lt p q
    · exact ⟨hn, Nat.le_of_eq pm⟩
  have el := h.el
  have eh := h.eh
  have hc := h.hc
  have lb := h.lb
  refine ⟨nd, lt, fun i i' h1 h2 z => ?_, own, fun i hi z => ?_, ?_, fun i hi z => ?_, ?_, ?_, ?_, ?_, ?_⟩
  · by_cases hz : i % w = r
    · have o1 : true = decide (i / w < e) := own _ h1 hz
      have o2 : false = decide (i' / w < e) := own _ h2 (z ▸ hz)
      have o1' := of_decide_eq_true o1.symm
      have o2' := of_decide_eq_false o2.symm
      exact same_lt hz (z ▸ hz) (by omega)
    · rcases (mem _).mp h1 with q1 | q1
      · rcases (mem _).mp h2 with q2 | q2
        · exact h.co _ _ q1 q2 z
        · rw [(Prod.mk.inj q2).1, pm] at z
          exact absurd z hz
      · rw [(Prod.mk.inj q1).1, pm] at hz
        exact absurd rfl hz
  · rcases (mem _).mp hi with q | q
    · have := h.lo1 i q z
      split <;> omega
    · rw [(Prod.mk.inj q).1, pd, if_pos (of_decide_eq_true (Prod.mk.inj q).2.symm)]
      omega
  · by_cases hje : j < e
    · rw [if_pos hje]
      by_cases hm : low ≤ (j : Int)
      · exact .inr ⟨r + j * w, (mem _).mpr (.inr (by rw [decide_eq_true hje])), pm, by rw [pd]; omega⟩
      · rcases h.lo2 with q | ⟨i, q1, q2, q3⟩
        · omega
        · exact .inr ⟨i, (mem _).mpr (.inl q1), q2, by omega⟩
    · rw [if_neg hje]
      rcases h.lo2 with q | ⟨i, q1, q2, q3⟩
      · exact .inl q
      · exact .inr ⟨i, (mem _).mpr (.inl q1), q2, q3⟩
  · rcases (mem _).mp hi with q | q
    · have := h.hi1 i q z
      split <;> omega
    · rw [(Prod.mk.inj q).1, pd, if_neg (of_decide_eq_false (Prod.mk.inj q).2.symm)]
      omega
  · by_cases hje : j < e
    · rw [if_pos hje]
      rcases h.hi2 with q | ⟨i, q1, q2, q3⟩
      · exact .inl q
      · exact .inr ⟨i, (mem _).mpr (.inl q1), q2, q3⟩
    · rw [if_neg hje]
      by_cases hm : (j : Int) ≤ high
      · exact .inr ⟨r + j * w, (mem _).mpr (.inr (by rw [decide_eq_false hje])), pm, by rw [pd]; omega⟩
      · rcases h.hi2 with q | ⟨i, q1, q2, q3⟩
        · omega
        · exact .inr ⟨i, (mem _).mpr (.inl q1), q2, by omega⟩
  · split <;> omega
  · split <;> omega
  · split <;> omega
  · split <;> omega
theorem Lf.step (l : Lf a g w n r left ai) (hr : r < w) {j : Nat} {b : Bool} (mem : ∀ p, p ∈ ai' ↔ p ∈ ai ∨ p = (r + j * w, b)) : Lf a g w n r left ai' := fun v => by
  rw [l]
  have key : ∀ i, i % w < r → ∀ j' b', (j', b') ∈ ai' → j' % w = i % w → (j', b') ∈ ai := fun i hi j' b' q z => by
    rcases (mem _).mp q with q | q
    · exact q
    · rw [(Prod.mk.inj q).1, pos_mod hr] at z
      omega
  constructor
  · rintro ⟨i, h1, h2, h3, h4, h5⟩
    exact ⟨i, h1, h2, h3, fun j' q z => h4 j' (key i h2 _ _ q z) z, fun j' q z => h5 j' (key i h2 _ _ q z) z⟩
  · rintro ⟨i, h1, h2, h3, h4, h5⟩
    exact ⟨i, h1, h2, h3, fun j' q z => h4 j' ((mem _).mpr (.inl q)) z, fun j' q z => h5 j' ((mem _).mpr (.inl q)) z⟩
theorem Lf.next (l : Lf a g w n r left ai) (h : Inn w n r e c ai low high) (hr : r < w) (hcn : ∀ j : Nat, j < c ↔ r + j * w < n) {cut : List Int} (hcut : ∀ v, v ∈ cut ↔ ∃ j : Nat, low < (j : Int) ∧ (j : Int) < high ∧ v = val a g (r + j * w)) :
    Lf a g w n (r + 1) (left ++ cut) ai := fun v => by
  rw [List.mem_append, l, hcut]
  have hc := h.hc
  have el := h.el
  have eh := h.eh
  constructor
  · rintro (⟨i, h1, h2, h3⟩ | ⟨j, h1, h2, h3⟩)
    · exact ⟨i, h1, by omega, h3⟩
    · refine ⟨r + j * w, (hcn j).mp (by omega), by rw [pos_mod hr]; omega, h3, fun i q z => ?_, fun i q z => ?_⟩
      · rw [pos_mod hr] at z
        have := h.lo1 i q z
        refine same_lt z (pos_mod (j := j) hr) ?_
        rw [pos_div hr]
        omega
      · rw [pos_mod hr] at z
        have := h.hi1 i q z
        refine same_lt (pos_mod (j := j) hr) z ?_
        rw [pos_div hr]
        omega
  · rintro ⟨i, h1, h2, h3, h4, h5⟩
    by_cases hz : i % w = r
    · have ei := pos_of hz
      have ip : (0 : Int) ≤ ((i / w : Nat) : Int) := Int.natCast_nonneg _
      refine .inr ⟨i / w, ?_, ?_, by rw [← ei]; exact h3⟩
      · rcases h.lo2 with q | ⟨j, q1, q2, q3⟩
        · rw [q]
          exact Int.lt_of_lt_of_le (by decide) ip
        · have z := h4 j q1 (q2.trans hz.symm)
          have : ¬ i / w ≤ j / w := fun z2 => by
            rcases Nat.lt_or_eq_of_le z2 with z3 | z3
            · have := same_lt hz q2 z3; omega
            · rw [pos_of q2, ← z3, ← ei] at z; omega
          omega
      · rcases h.hi2 with q | ⟨j, q1, q2, q3⟩
        · have := (hcn (i / w)).mpr (by rw [← ei]; exact h1)
          omega
        · have z := h5 j q1 (q2.trans hz.symm)
          have : ¬ j / w ≤ i / w := fun z2 => by
            rcases Nat.lt_or_eq_of_le z2 with z3 | z3
            · have := same_lt q2 hz z3; omega
            · rw [pos_of q2, z3, ← ei] at z; omega
          omega
    · exact .inl ⟨i, h1, by omega, h3, h4, h5⟩
end
/-! ### a chain as a list -/
def chL (a g : Int) (w n r : Nat) : List Int := (List.range (stepN n r w)).map fun m => val a g (r + m * w)
theorem chL_length (a g : Int) (w n r : Nat) : (chL a g w n r).length = stepN n r w := by unfold chL; rw [List.length_map, List.length_range]
theorem stepN_iff {n r w : Nat} (hr : r < n) (hw : 0 < w) (j : Nat) : j < stepN n r w ↔ r + j * w < n := by
  unfold stepN
  rw [Nat.lt_succ_iff, Nat.le_div_iff_mul_le hw]
  omega
theorem fm_some {α β : Type} (f : α → Option β) (h : α → β) : ∀ l : List α, (∀ x ∈ l, f x = some (h x)) → l.filterMap f = l.map h
  | [], _ => rfl
  | x :: r, z => by
    rw [List.filterMap_cons, z x (List.mem_cons_self ..), List.map_cons, fm_some f h r fun y hy => z y (List.mem_cons_of_mem _ hy)]
theorem stepL_long {a g : Int} {w n r : Nat} (hr : r < n) (hw : 0 < w) : stepL ((vsL a g n).map V.int) r w = (chL a g w n r).map V.int := by
  unfold stepL chL
  rw [List.length_map, vsL_length, List.map_map]
  refine fm_some _ _ _ fun m hm => ?_
  have h1 := (stepN_iff hr hw m).mp (List.mem_range.mp hm)
  rw [List.getElem?_map, vsL_get h1]
  rfl
theorem chL_get {a g : Int} {w n r j : Nat} (h : j < stepN n r w) : (chL a g w n r)[j]? = some (val a g (r + j * w)) := by
  unfold chL
  rw [List.getElem?_map, List.getElem?_range h]
  rfl
theorem chL_sub {a g : Int} {w n r : Nat} (hr : r < n) (hw : 0 < w) {v : Int} (h : v ∈ chL a g w n r) : v ∈ vsL a g n := by
  obtain ⟨m, hm, rfl⟩ := List.mem_map.mp h
  exact vsL_mem_of ((stepN_iff hr hw m).mp (List.mem_range.mp hm))
theorem mem_cut {a g : Int} {w n r : Nat} {l h : Nat} (hl : l ≤ h) (hh : h ≤ stepN n r w) (v : Int) : v ∈ ((chL a g w n r).drop l).take (h - l) ↔ ∃ j : Nat, ((l : Int) - 1) < (j : Int) ∧ (j : Int) < (h : Int) ∧ v = val a g (r + j * w) := by
  rw [List.mem_iff_getElem?]
  constructor
  · rintro ⟨m, hm⟩
    rw [List.getElem?_take] at hm
    split at hm
    · rename_i hlt
      rw [List.getElem?_drop, chL_get (by omega)] at hm
      exact ⟨l + m, by omega, by omega, (Option.some.inj hm).symm⟩
    · cases hm
  · rintro ⟨j, h1, h2, rfl⟩
    refine ⟨j - l, ?_⟩
    rw [List.getElem?_take, if_pos (by omega), List.getElem?_drop, show l + (j - l) = j by omega, chL_get (by omega)]
/-! ### the middles -/
def midOf (f : Int → Bool) (c : List Int) : List Int := if (c.filter f).length = 0 then [] else ((c.filter f)[(c.filter f).length / 2]?).toList
def mids (f : Int → Bool) (cs : List (List Int)) : List Int := (cs.map (midOf f)).flatten
theorem midOf_le (f : Int → Bool) (c : List Int) : (midOf f c).length ≤ 1 := by
  unfold midOf
  split
  · exact Nat.zero_le _
  · cases (c.filter f)[(c.filter f).length / 2]? with
    | none => exact Nat.zero_le _
    | some x => exact Nat.le_refl 1
theorem mids_snoc (f : Int → Bool) (cs : List (List Int)) (c : List Int) : mids f (cs ++ [c]) = mids f cs ++ midOf f c := by
  unfold mids
  rw [List.map_append, List.flatten_append]
  simp
theorem mids_congr {f h : Int → Bool} {cs : List (List Int)} (e : ∀ c ∈ cs, ∀ v ∈ c, f v = h v) : mids f cs = mids h cs := by
  unfold mids
  congr 1
  refine List.map_congr_left fun c hc => ?_
  unfold midOf
  rw [List.filter_congr (e c hc)]
theorem mids_le (f : Int → Bool) (cs : List (List Int)) : (mids f cs).length ≤ cs.length := by
  induction cs with
  | nil => exact Nat.le_refl _
  | cons c r ih =>
    have : mids f (c :: r) = midOf f c ++ mids f r := by unfold mids; rw [List.map_cons, List.flatten_cons]
    rw [this, List.length_append, List.length_cons]
    have := midOf_le f c
    omega
end Fw

set_option Elab.async false
set_option linter.all false
set_option maxRecDepth 100000
set_option maxHeartbeats 4000000
namespace Fw
open PySem L2 RZ RT
def ChAt (H : Hp) (cs : List Addr) (chs : List (List Int)) : Prop := cs.length = chs.length ∧ ∀ (i : Nat) (c : Addr) (l : List Int), cs[i]? = some c → chs[i]? = some l → H c = some (.tup (l.map V.int))
theorem ChAt.mono {H H' : Hp} {cs : List Addr} {chs : List (List Int)} (h : ChAt H cs chs) (s : ∀ (a : Addr) (xs : List V), H a = some (.tup xs) → H' a = some (.tup xs)) : ChAt H' cs chs := ⟨h.1, fun i c l h1 h2 => s _ _ (h.2 i c l h1 h2)⟩
theorem ChAt.snoc {H : Hp} {cs : List Addr} {chs : List (List Int)} (h : ChAt H cs chs) {c : Addr} {l : List Int} (hc : H c = some (.tup (l.map V.int))) : ChAt H (cs ++ [c]) (chs ++ [l]) := by
  refine ⟨by rw [List.length_append, List.length_append, h.1]; rfl, fun i d m h1 h2 => ?_⟩
  rcases Nat.lt_or_ge i cs.length with z | z
  · rw [List.getElem?_append_left z] at h1
    rw [List.getElem?_append_left (by rw [← h.1]; exact z)] at h2
    exact h.2 i d m h1 h2
  · rw [List.getElem?_append_right z] at h1
    rw [List.getElem?_append_right (by rw [← h.1]; exact z)] at h2
    have e : i - cs.length = 0 := by
      have := (List.getElem?_eq_some_iff.mp h1).1
      rw [List.length_singleton] at this
      omega
    rw [e] at h1
    rw [← h.1, e] at h2
    cases Option.some.inj h1
    cases Option.some.inj h2
    exact hc
theorem ChAt.at {H : Hp} {cs : List Addr} {chs : List (List Int)} (h : ChAt H cs chs) {i : Nat} {x : V} (hx : (cs.map V.ref)[i]? = some x) : ∃ c l, x = .ref c ∧ cs[i]? = some c ∧ chs[i]? = some l ∧ H c = some (.tup (l.map V.int)) := by
  rw [List.getElem?_map] at hx
  cases e : cs[i]? with
  | none => rw [e] at hx; cases hx
  | some c =>
    rw [e] at hx
    have hi : i < chs.length := by rw [← h.1]; exact (List.getElem?_eq_some_iff.mp e).1
    have e2 : chs[i]? = some chs[i] := List.getElem?_eq_getElem hi
    exact ⟨c, _, (Option.some.inj hx).symm, rfl, e2, h.2 i c _ e e2⟩
theorem int_at {l : List Int} {i : Nat} {x : V} (hx : (l.map V.int)[i]? = some x) : ∃ w, x = .int w ∧ l[i]? = some w := by
  rw [List.getElem?_map] at hx
  cases e : l[i]? with
  | none => rw [e] at hx; cases hx
  | some w => rw [e] at hx; exact ⟨w, (Option.some.inj hx).symm, rfl⟩
theorem mid_of {f : Int → Bool} {l : List Int} {b : Int} (h : (l.filter f)[(l.filter f).length / 2]? = some b) : midOf f l = [b] := by
  unfold midOf
  rw [if_neg (fun z => ?_), h]
  · rfl
  · have := (List.getElem?_eq_some_iff.mp h).1
    omega
theorem mid_nil {f : Int → Bool} {l : List Int} (h : (l.filter f).length = 0) : midOf f l = [] := by
  unfold midOf
  rw [if_pos h]
theorem mid_some {f : Int → Bool} {l : List Int} (h : (l.filter f).length ≠ 0) : ∃ b, (l.filter f)[(l.filter f).length / 2]? = some b := ⟨_, List.getElem?_eq_getElem (by omega)⟩
theorem cut_to {xs : List V} {few : Nat} : cutV xs none (some (few : Int)) = xs.take few := by
  unfold cutV
  rw [HT.sIx_none, HT.sIx_nat, Nat.sub_zero, List.drop_zero]
  rcases Nat.le_total few xs.length with z | z
  · rw [Nat.min_eq_left z]
  · rw [Nat.min_eq_right z, List.take_length, List.take_of_length_le z]
def lfB (ls : List (Int × Int)) (ans : List (Int × Bool)) (w : Int) : Bool := !hasB ls ans w && !lacB ls ans w
def sp_next_asks (_ : PySem.W.Frag) : Sp := fun vs H Q _ => ∃ (p cv ch q : Addr) (y : V) (few : Nat) (ws : List Int) (ls : List (Int × Int)) (ans : List (Int × Bool)) (cs : List Addr) (chs : List (List Int)), vs = [.ref p, .ref cv, .ref q, .int (few : Int)] ∧ ShapeAt H p ws ls ∧ Good ws ls ∧ ws.length ≤ 1000 ∧ ls.length ≤ 10000 ∧ AnsAt H q ans ∧ ans.length ≤ 1000 ∧ (ans.map (·.1)).Nodup ∧ NotContrary ls ans ∧
  H cv = some (.tup [.ref ch, y]) ∧ H ch = some (.tup (cs.map V.ref)) ∧ ChAt H cs chs ∧ chs.length ≤ 1000 ∧ (∀ l ∈ chs, l.length ≤ 1000 ∧ ∀ v ∈ l, v ∈ ws) ∧
  ∀ (r : Addr) (H' : Hp), Same H H' → H r = none → H' r = some (.tup (((mids (lfB ls ans) chs).take few).map V.int)) → Q (.ref r) H'
abbrev N_next_asks : List Str := ["shape", "cover", "answers", "few", "left", "version", "middles", "chain", "waiting"]
def t_next_asks (K : PySem.W.Frag) : TS := (tSeq (tAsg (tDc (iTup K (tOp (rIx K) (tCall (sp_settled K) [] E0 (tCons (tVar 0) (tCons (tVar 2) tNil))) (tC (.int 2)))) (gName 5) tYes (tVar 5) (tC (.bl true)) [5]) (gName 4))
    (tSeq (tAsg (tLst tNil) (gName 6))
    (tSeq (tFor (iTup K (tOp (rIx K) (tVar 1) (tC (.int 0)))) (gName 7) (tSeq (tAsg (tLc (iTup K (tVar 7)) (gName 5) (tB (tDIn (tVar 5) (tVar 4))) (tVar 5) [5]) (gName 8))
    (tIfS (tTru K (tVar 8)) (tDrop (tBM K "list" rAppend (tVar 6) (tCons (tOp (rIx K) (tVar 8) (tOp rDivI (tCB (fLen K) (tCons (tVar 8) tNil)) (tC (.int 2)))) tNil))) tNext)))
    (tRet (tCB (fTupleOf K) (tCons (tSl (rSlL K) (tVar 6) tNoPart (tPart (tVar 3))) tNil))))))
section
variable {K : PySem.W.Frag} {vs : List V} {H : Hp} {Q : VK} {E : XK}
theorem len_next_asks (h : sp_next_asks K vs H Q E) : vs.length = 4 := by
  obtain ⟨_, _, _, _, _, _, _, _, _, _, _, rfl, _⟩ := h
  rfl
theorem pure_next_asks (h : sp_next_asks K vs H Q E) : t_next_asks K { nx := fun _ H' => Q .non H', rt := Q } (start N_next_asks vs) H := by
  obtain ⟨p, cv, ch, q, y, few, ws, ls, ans, cs, chs, rfl, sh, g, hwz, hlz, an, hasz, nd, nc, hcv, hch, hcs, hcz, hlen, k⟩ := h
  refine ⟨_, rfl, _, rfl, p, q, ws, ls, ans, rfl, sh, g, hwz, hlz, an, hasz, nd, nc, fun T H1 s1 nT ⟨ta, tb, tc, hT, hta, htb, htc⟩ => ?_⟩
  change H1 tc = some (.tup ((ws.filter (lfB ls ans)).map V.int)) at htc
  generalize hlf : ws.filter (lfB ls ans) = lf at htc
  have lfn : lf.Nodup := by rw [← hlf]; exact (rising_nodup g.inc).sublist List.filter_sublist
  have lfz : lf.length ≤ 1000 := by rw [← hlf]; exact Nat.le_trans (List.length_filter_le _ _) hwz
  refine ixT hT rfl ⟨tc, rfl, ⟨_, sqT htc⟩, fun F nF => ?_⟩
  have up : ∀ kvs, Same H1 (upd H1 F (.dK kvs)) := fun kvs b o e => updN (ne_of_none e nF) e
  refine dc_tup (K := K) (a := tc) (xs := lf.map V.int) (fun i H2 => H2 = upd H1 F (.dK (mkS (lf.take i)))) (by rw [List.take_zero]; rfl) (fun i H2 _ e => by rw [e]; exact sqT (up _ _ _ htc)) (fun i x H2 hx e => ?_) (fun H2 e => ?_)
  · subst e
    obtain ⟨n, rfl, en⟩ := int_at hx
    refine ⟨rfl, ⟨_, rfl, mkS (lf.take i), Sum.inl n, rfl, updS, ?_, ?_⟩⟩
    · rw [mkS_length]
      exact Nat.lt_of_le_of_lt (by rw [List.length_take]; omega : (lf.take i).length ≤ 1000) (by decide)
    · have nin : n ∉ lf.take i := fun hm => by
        obtain ⟨j, hj, e⟩ := List.getElem_of_mem hm
        rw [List.length_take] at hj
        rw [List.getElem_take] at e
        have hi := (List.getElem?_eq_some_iff.mp en)
        have : j = i := (List.getElem_inj lfn).mp (e.trans hi.2.symm)
        omega
      rw [upd_upd, take_snoc en, mkS_put, mkS_ins nin]
  · subst e
    rw [List.length_map, List.take_length]
    have sF : Same H (upd H1 F (.dK (mkS lf))) := s1.trans (up _)
    have hF : (upd H1 F (.dK (mkS lf))) F = some (.dK (mkS lf)) := updS
    generalize upd H1 F (.dK (mkS lf)) = H2 at *
    refine ⟨Nat.zero_le _, fun L nL => ?_⟩
    refine ⟨_, rfl, ixT (updN (ne_of_none (sF _ _ hcv) nL) (sF _ _ hcv)) rfl ⟨ch, rfl, ⟨_, sqT (updN (ne_of_none (sF _ _ hch) nL) (sF _ _ hch))⟩, ?_⟩⟩
    have hH : H L = none := sF.free nL
    refine for_tup (K := K) (a := ch) (xs := cs.map V.ref) (fun i σ H' => Same H H' ∧ H' F = some (.dK (mkS lf)) ∧ H' L = some (.lst ((mids (lfB ls ans) (chs.take i)).map V.int)) ∧ ∃ z5 z7 z8 : Option V, σ = [some (.ref p), some (.ref cv), some (.ref q), some (.int (few : Int)), some (.ref F), z5, some (.ref L), z7, z8]) ⟨sF.trans (samNew nL), samNew nL _ _ hF, ?_, none, none, none, rfl⟩ (fun i σ H' _ p => sqT (p.1 _ _ hch)) ?_ ?_
    · rw [updS]
      rfl
    · rintro i x σ H3 hx ⟨s3, hF3, hL3, z5, z7, z8, rfl⟩
      obtain ⟨c, l, rfl, ec, el, hc⟩ := hcs.at hx
      obtain ⟨ll, lw⟩ := hlen l (List.mem_of_getElem? el)
      have hc3 := s3 _ _ hc
      refine ⟨_, rfl, c, rfl, ⟨_, sqT hc3⟩, fun Y nY => ?_⟩
      have sY : ∀ o, Same H3 (upd H3 Y o) := fun o => samNew nY
      refine lc_filtT (K := K) (a := c) (xs := l.map V.int) (ys := l.map V.int) (ks := l.map (lfB ls ans)) (fun acc => sqT (sY _ _ _ hc3)) rfl (by simp) (by rw [List.length_map]; omega) (fun j x y b acc R N hx hy hb r n => ?_) ?_
      · obtain ⟨w, rfl, ew⟩ := int_at hx
        cases Option.some.inj (hx.symm.trans hy)
        rw [List.getElem?_map, ew] at hb
        have hb' : lfB ls ans w = b := Option.some.inj hb
        refine ⟨rfl, _, rfl, _, rfl, F, _, rfl, DGet.k (k := Sum.inl w) (sY _ _ _ hF3), _, rfl, ?_⟩
        rw [mkS_has, show lf.contains w = b by
          rw [← hb', ← hlf, Bool.eq_iff_iff, List.contains_iff_mem, List.mem_filter]
          exact ⟨fun z => z.2, fun z => ⟨lw w (List.mem_of_getElem? ew), z⟩⟩]
        exact ite2 (fun z => ⟨_, rfl, r z⟩) (fun z => n (Bool.eq_false_iff.mpr z))
      rw [sel_map]
      have sN := sY (.lst ((l.filter (lfB ls ans)).map V.int))
      have hY : (upd H3 Y (.lst ((l.filter (lfB ls ans)).map V.int))) Y = some (.lst ((l.filter (lfB ls ans)).map V.int)) := updS
      have hYL : Y ≠ L := (ne_of_none hL3 nY).symm
      generalize upd H3 Y (.lst ((l.filter (lfB ls ans)).map V.int)) = H4 at *
      have ms : mids (lfB ls ans) (chs.take (i + 1)) = mids (lfB ls ans) (chs.take i) ++ midOf (lfB ls ans) l := by rw [take_snoc el, mids_snoc]
      refine ⟨_, rfl, _, .inl ⟨_, sqL hY, rfl⟩, ite2 (fun z => ?_) (fun z => ?_)⟩
      · have nz : (l.filter (lfB ls ans)).length ≠ 0 := fun e => by
          rw [List.length_eq_zero_iff.mp e] at z
          exact Bool.false_ne_true z
        obtain ⟨b, hb⟩ := mid_some nz
        have hb2 : atI ((l.filter (lfB ls ans)).map V.int) ((((l.filter (lfB ls ans)).map V.int).length : Int) / 2) = some (.int b) := by
          rw [List.length_map, show (((l.filter (lfB ls ans)).length : Int) / 2) = (((l.filter (lfB ls ans)).length / 2 : Nat) : Int) by omega]
          exact atI_nat (by rw [List.getElem?_map, hb]; rfl)
        refine ⟨_, rfl, .inl ⟨rfl, _, sqL (sN _ _ hL3)⟩, _, rfl, _, rfl, lenL hY ⟨_, _, rfl, rfl, ⟨by decide, by decide⟩, ixL hY hb2 ?_⟩⟩
        refine ⟨L, _, _, rfl, rfl, sN _ _ hL3, ?_, ?_⟩
        · rw [List.length_map]
          exact Nat.lt_of_le_of_lt (Nat.le_trans (mids_le _ _) (by rw [List.length_take]; omega) : _ ≤ 1000) (by decide)
        · refine ⟨fun a o e => updN (ne_of_none e hH) (sN _ _ (s3 _ _ e)), updN (fun e => ?_) (sN _ _ hF3), ?_, _, _, _, rfl⟩
          · rw [e, hL3] at hF3
            cases hF3
          · rw [updS, ms, mid_of hb, List.map_append]
            rfl
      · have nz : (l.filter (lfB ls ans)).length = 0 := by
          cases e : l.filter (lfB ls ans) with
          | nil => rfl
          | cons a r => rw [e] at z; exact absurd rfl z
        refine ⟨s3.trans sN, sN _ _ hF3, ?_, _, _, _, rfl⟩
        rw [sN _ _ hL3, ms, mid_nil nz, List.append_nil]
    · rintro σ H3 ⟨s3, hF3, hL3, z5, z7, z8, rfl⟩
      rw [List.length_map, hcs.1, List.take_length] at hL3
      refine ⟨_, rfl, _, rfl, _, rfl, L, _, rfl, sqL hL3, fun P nP => ?_⟩
      rw [cut_to, ← List.map_take]
      refine ⟨P, _, rfl, .inl ⟨sqL updS, fun r nr => ?_⟩⟩
      exact k r _ ((s3.trans (samNew nP)).trans (samNew nr)) (s3.free ((samNew nP).free nr)) updS
end
def sp_l_middles (_ : PySem.W.Frag) : Sp := fun vs H Q _ => ∃ (C B : Addr) (wide : Nat) (left : List Int) (cs : List Addr) (chs : List (List Int)), vs = [.ref C, .ref B, .int (wide : Int)] ∧ H C = some (.lst (cs.map V.ref)) ∧ ChAt H cs chs ∧ chs.length ≤ 1000 ∧ (∀ l ∈ chs, l.length ≤ 1000) ∧ H B = some (.lst (left.map V.int)) ∧
  ∀ (r : Addr) (H' : Hp), Same H H' → H r = none → H' r = some (.tup (((mids left.contains chs).take wide).map V.int)) → Q (.ref r) H'
abbrev N_l_middles : List Str := ["_law_chains", "_law_left", "_law_wide", "_law_asks", "_law_chain", "_law_rest", "_law_version"]
def t_l_middles_loop (K : PySem.W.Frag) : TS := (tSeq (tAsg (tLc (iTup K (tVar 4)) (gName 6) (tTest (tOp (rIn K false) (tVar 6) (tVar 1))) (tVar 6) [6]) (gName 5))
    (tIfS (tAnd (tTest (tOp rGtI (tCB (fLen K) (tCons (tVar 5) tNil)) (tC (.int 0)))) (tTest (tOp rLtI (tCB (fLen K) (tCons (tVar 3) tNil)) (tVar 2)))) (tDrop (tBM K "list" rAppend (tVar 3) (tCons (tOp (rIx K) (tVar 5) (tOp rDivI (tCB (fLen K) (tCons (tVar 5) tNil)) (tC (.int 2)))) tNil))) tNext))
def t_l_middles (K : PySem.W.Frag) : TS := (tSeq (tAsg (tLst tNil) (gName 3))
    (tSeq (tFor (iList K (tVar 0)) (gName 4) (t_l_middles_loop K))
    (tRet (tCB (fTupleOf K) (tCons (tVar 3) tNil)))))
section
variable {K : PySem.W.Frag} {vs : List V} {H : Hp} {Q : VK} {E : XK}
theorem len_l_middles (h : sp_l_middles K vs H Q E) : vs.length = 3 := by
  obtain ⟨_, _, _, _, _, _, rfl, _⟩ := h
  rfl
theorem pure_l_middles (h : sp_l_middles K vs H Q E) : t_l_middles K { nx := fun _ H' => Q .non H', rt := Q } (start N_l_middles vs) H := by
  obtain ⟨C, B, wide, left, cs, chs, rfl, hC, hcs, hcz, hlen, hB, k⟩ := h
  refine ⟨Nat.zero_le _, fun L nL => ?_⟩
  have sL : ∀ o, Same H (upd H L o) := fun o => samNew nL
  refine ⟨_, rfl, C, rfl, ⟨_, sqL (sL _ _ _ hC)⟩, ?_⟩
  refine for_list (K := K) (a := C) (xs := cs.map V.ref) (fun i σ H' => Same H H' ∧ H' L = some (.lst (((mids left.contains (chs.take i)).take wide).map V.int)) ∧ ∃ z4 z5 z6 : Option V, σ = [some (.ref C), some (.ref B), some (.int (wide : Int)), some (.ref L), z4, z5, z6]) ⟨sL _, ?_, none, none, none, rfl⟩ (fun i σ H' _ p => sqL (p.1 _ _ hC)) ?_ ?_
  · rw [updS, List.take_zero]
    show _ = some (HO.lst ((([] : List Int).take wide).map V.int))
    rw [List.take_nil]
    rfl
  · rintro i x σ H3 hx ⟨s3, hL3, z4, z5, z6, rfl⟩
    obtain ⟨c, l, rfl, ec, el, hc⟩ := hcs.at hx
    have ll := hlen l (List.mem_of_getElem? el)
    have hc3 := s3 _ _ hc
    refine ⟨_, rfl, c, rfl, ⟨_, sqT hc3⟩, fun Y nY => ?_⟩
    have sY : ∀ o, Same H3 (upd H3 Y o) := fun o => samNew nY
    refine lc_filtT (K := K) (a := c) (xs := l.map V.int) (ys := l.map V.int) (ks := l.map left.contains) (fun acc => sqT (sY _ _ _ hc3)) rfl (by simp) (by rw [List.length_map]; omega) (fun j x y b acc R N hx hy hb r n => ?_) ?_
    · obtain ⟨w, rfl, ew⟩ := int_at hx
      cases Option.some.inj (hx.symm.trans hy)
      rw [List.getElem?_map, ew] at hb
      have hb' : left.contains w = b := Option.some.inj hb
      refine ⟨rfl, _, rfl, _, rfl, B, _, rfl, .inl (sqL (sY _ _ _ (s3 _ _ hB))), rfl, flat_ints left, _, rfl, ?_⟩
      show if inV (.int w) (left.map V.int) = true then _ else _
      rw [inV_ints, hb']
      exact ite2 (fun z => ⟨_, rfl, r z⟩) (fun z => n (Bool.eq_false_iff.mpr z))
    rw [sel_map]
    have sN := sY (.lst ((l.filter left.contains).map V.int))
    have hY : (upd H3 Y (.lst ((l.filter left.contains).map V.int))) Y = some (.lst ((l.filter left.contains).map V.int)) := updS
    generalize upd H3 Y (.lst ((l.filter left.contains).map V.int)) = H4 at *
    have ms : mids left.contains (chs.take (i + 1)) = mids left.contains (chs.take i) ++ midOf left.contains l := by rw [take_snoc el, mids_snoc]
    have hz : (mids left.contains (chs.take i)).length ≤ 1000 := Nat.le_trans (mids_le _ _) (by rw [List.length_take]; omega)
    refine ⟨_, rfl, lenL hY ⟨_, _, rfl, rfl, _, rfl, ite2 (fun z => ?_) (fun z => ?_)⟩⟩
    · have nz : (l.filter left.contains).length ≠ 0 := fun e => by
        have z' := of_decide_eq_true z
        rw [List.length_map, e] at z'
        exact absurd z' (by decide)
      obtain ⟨b, hb⟩ := mid_some nz
      refine ⟨_, rfl, lenL (sN _ _ hL3) ⟨_, rfl, _, _, rfl, rfl, _, rfl, ite2 (fun z2 => ?_) (fun z2 => ?_)⟩⟩
      · have z2' := of_decide_eq_true z2
        rw [List.length_map, List.length_take] at z2'
        have hb2 : atI ((l.filter left.contains).map V.int) ((((l.filter left.contains).map V.int).length : Int) / 2) = some (.int b) := by
          rw [List.length_map, show (((l.filter left.contains).length : Int) / 2) = (((l.filter left.contains).length / 2 : Nat) : Int) by omega]
          exact atI_nat (by rw [List.getElem?_map, hb]; rfl)
        refine ⟨_, rfl, .inl ⟨rfl, _, sqL (sN _ _ hL3)⟩, _, rfl, _, rfl, lenL hY ⟨_, _, rfl, rfl, ⟨by decide, by decide⟩, ixL hY hb2 ?_⟩⟩
        refine ⟨L, _, _, rfl, rfl, sN _ _ hL3, ?_, ?_⟩
        · rw [List.length_map, List.length_take]
          exact Nat.lt_of_le_of_lt (Nat.le_trans (Nat.min_le_right _ _) hz) (by decide)
        · refine ⟨fun a o e => updN (ne_of_none e nL) (sN _ _ (s3 _ _ e)), ?_, _, _, _, rfl⟩
          rw [updS, ms, mid_of hb, List.take_of_length_le (l := mids left.contains (chs.take i)) (show (mids left.contains (chs.take i)).length ≤ wide by omega), List.take_of_length_le (l := mids left.contains (chs.take i) ++ [b]) (by rw [List.length_append, List.length_singleton]; omega), List.map_append]
          rfl
      · have z2' := of_decide_eq_false (Bool.eq_false_iff.mpr z2)
        rw [List.length_map, List.length_take] at z2'
        refine ⟨s3.trans sN, ?_, _, _, _, rfl⟩
        rw [sN _ _ hL3, ms, List.take_append_of_le_length (by omega)]
    · have nz : (l.filter left.contains).length = 0 := by
        have z' := of_decide_eq_false (Bool.eq_false_iff.mpr z)
        rw [List.length_map] at z'
        omega
      refine ⟨s3.trans sN, ?_, _, _, _, rfl⟩
      rw [sN _ _ hL3, ms, mid_nil nz, List.append_nil]
  · rintro σ H3 ⟨s3, hL3, z4, z5, z6, rfl⟩
    rw [List.length_map, hcs.1, List.take_length] at hL3
    refine ⟨_, rfl, L, _, rfl, .inl ⟨sqL hL3, fun r nr => ?_⟩⟩
    exact k r _ (s3.trans (samNew nr)) (s3.free nr) updS
end
end Fw

set_option Elab.async false
set_option linter.all false
set_option maxRecDepth 100000
set_option maxHeartbeats 4000000
namespace Fw
open PySem L2 RZ RT
abbrev N_law : List Str := ["_law_script", "_law_deck_here", "_law_drawn", "_law_web", "_law_width", "_law_chains", "_law_left", "_law_answers", "_law_k", "_law_chain", "_law_ends", "_law_low", "_law_high", "_law_turn", "_law_at", "_law_told", "_law_wide"]
def t_law_ends (K : PySem.W.Frag) : TS := (tIfS (tTest (tOp rLtI (tVar 14) (tVar 10))) (tAsg (tCB fMax2 (tCons (tVar 11) (tCons (tVar 14) tNil))) (gName 11)) (tAsg (tCB fMin2 (tCons (tVar 12) (tCons (tVar 14) tNil))) (gName 12)))
def t_law_at (K : PySem.W.Frag) : TS := (tSeq (tAsg (tCall (sp_l_draw K) [] E0 (tCons (tVar 1) (tCons (tCB (fLen K) (tCons (tVar 9) tNil)) tNil))) (gName 14))
    (tSeq (tIfS (tTest (tOp (rNotInD K) (tTup (tCons (tOp (rIx K) (tVar 9) (tVar 14)) (tCons (tOp rLtI (tVar 14) (tVar 10)) tNil))) (tVar 7))) (tDrop (tBM K "list" fInsert (tVar 7) (tCons (tCall (sp_l_draw K) [] E0 (tCons (tVar 1) (tCons (tOp rAddI (tCB (fLen K) (tCons (tVar 7) tNil)) (tC (.int 1))) tNil))) (tCons (tTup (tCons (tOp (rIx K) (tVar 9) (tVar 14)) (tCons (tOp rLtI (tVar 14) (tVar 10)) tNil))) tNil)))) tNext)
    (t_law_ends K)))
def t_law_ext (K : PySem.W.Frag) : TS := (tDrop (tBM K "list" (rExtendA K) (tVar 6) (tCons (tSl (rSlA K) (tVar 9) (tPart (tOp rAddI (tVar 11) (tC (.int 1)))) (tPart (tVar 12))) tNil)))
def t_law_turns (K : PySem.W.Frag) : TS := (tSeq (tFor (iRng1 (tCons (tCall (sp_l_draw K) [] E0 (tCons (tVar 1) (tCons (tC (.int 4)) tNil))) tNil)) (gName 13) (t_law_at K))
    (t_law_ext K))
def t_law_chain (K : PySem.W.Frag) : TS := (tSeq (tDrop (tBM K "list" rAppend (tVar 5) (tCons (tVar 9) tNil)))
    (tSeq (tAsg (tCall (sp_l_draw K) [] E0 (tCons (tVar 1) (tCons (tOp rAddI (tCB (fLen K) (tCons (tVar 9) tNil)) (tC (.int 1))) tNil))) (gName 10))
    (tSeq (tAsg (tUn rNegI (tC (.int 1))) (gName 11))
    (tSeq (tAsg (tCB (fLen K) (tCons (tVar 9) tNil)) (gName 12))
    (t_law_turns K)))))
def t_law_step (K : PySem.W.Frag) : TS := (tSeq (tAsg (tStepT K (tOp (rIx K) (tVar 3) (tC (.int 0))) (tPart (tVar 8)) (tPart (tVar 4))) (gName 9))
    (t_law_chain K))
def t_law_last (K : PySem.W.Frag) : TS := (tSeq (tIfS (tTest (tOp rEq (tCall (sp_l_draw K) [] E0 (tCons (tVar 1) (tCons (tC (.int 3)) tNil))) (tC (.int 0)))) (tRet (tCall (sp_l_same K) [] E0 (tCons (tCall (sp_next_asks K) [.int 4] E0 (tCons (tVar 3) (tCons (tVar 15) (tCons (tCB (fTupleOf K) (tCons (tVar 7) tNil)) tNil)))) (tCons (tCall (sp_l_middles K) [] E0 (tCons (tVar 5) (tCons (tVar 6) (tCons (tC (.int 4)) tNil)))) tNil)))) tNext)
    (tRet (tCall (sp_l_same K) [] E0 (tCons (tCallN 3 (List.length (α := Str) ["few"]) (sp_next_asks K) (fun us ws => (fun mv : List V => us ++ ((ws.drop 0).take 1)) []) E0 (tCons (tVar 3) (tCons (tVar 15) (tCons (tCB (fTupleOf K) (tCons (tVar 7) tNil)) tNil))) (tCons (tVar 16) tNil)) (tCons (tCall (sp_l_middles K) [] E0 (tCons (tVar 5) (tCons (tVar 6) (tCons (tVar 16) tNil)))) tNil)))))
def t_law_wide (K : PySem.W.Frag) : TS := (tSeq (tAsg (tOp rAddI (tC (.int 1)) (tCall (sp_l_draw K) [] E0 (tCons (tVar 1) (tCons (tC (.int 20)) tNil)))) (gName 16))
    (t_law_last K))
def t_law_told (K : PySem.W.Frag) : TS := (tSeq (tAsg (tTup (tCons (tCB (fTupleOf K) (tCons (tVar 5) tNil)) (tCons (tCB (fTupleOf K) (tCons (tSl (rSlA K) (tOp (rIx K) (tVar 3) (tC (.int 0))) tNoPart (tPart (tCB (fLen K) (tCons (tVar 5) tNil)))) tNil)) tNil))) (gName 15))
    (t_law_wide K))
def t_law_loop (K : PySem.W.Frag) : TS := (tSeq (tFor (iRng1 (tCons (tCB fMin2 (tCons (tVar 4) (tCons (tCB (fLen K) (tCons (tOp (rIx K) (tVar 3) (tC (.int 0))) tNil)) tNil))) tNil)) (gName 8) (t_law_step K))
    (t_law_told K))
def t_law (K : PySem.W.Frag) : TS := (tSeq (tAsg (tCall (sp_l_deck K) [] E0 (tCons (tVar 0) tNil)) (gName 1))
    (tSeq (tAsg (tCall (sp_l_long_shape K) [] E0 (tCons (tVar 1) (tCons (tC (.int 60)) tNil))) (gName 2))
    (tSeq (tAsg (tTup (tCons (tOp (rIx K) (tVar 2) (tC (.int 0))) (tCons (tOp (rIx K) (tVar 2) (tC (.int 1))) tNil))) (gName 3))
    (tSeq (tAsg (tOp (rIx K) (tVar 2) (tC (.int 2))) (gName 4))
    (tSeq (tAsg (tLst tNil) (gName 5))
    (tSeq (tAsg (tLst tNil) (gName 6))
    (tSeq (tAsg (tLst tNil) (gName 7))
    (t_law_loop K))))))))
/-! ### pairs as data -/
abbrev pD (e : Int × Bool) : PyData := .tuple [.int e.1, .bool e.2]
theorem pD_lay : ∀ ans : List (Int × Bool), PyData.canLayAll0 (ans.map pD) = true
  | [] => rfl
  | e :: r => by
    show (PyData.canLay0 (pD e) && PyData.canLayAll0 (r.map pD)) = true
    rw [pD_lay r]
    rfl
theorem pD_depth : ∀ ans : List (Int × Bool), PyData.depthAll (ans.map pD) ≤ 1
  | [] => Nat.zero_le _
  | e :: r => by
    show max (PyData.depth (pD e)) (PyData.depthAll (r.map pD)) ≤ 1
    have h1 : PyData.depth (pD e) = 1 := rfl
    have := pD_depth r
    omega
theorem pD_shaped (e : Int × Bool) : SeqAt.shaped (pD e) = true := rfl
theorem pD_shapedL (ans : List (Int × Bool)) : SeqAt.shaped (.list (ans.map pD)) = true := by
  show (PyData.canLayAll0 (ans.map pD) && decide (PyData.depthAll (ans.map pD) + 1 ≤ 64)) = true
  rw [pD_lay, Bool.true_and]
  have := pD_depth ans
  exact decide_eq_true (by omega)
theorem pD_eqv (a b : Int × Bool) : PyData.eqv (pD a) (pD b) = true ↔ a = b := by
  show ((a.1 == b.1) && ((a.2 == b.2) && true)) = true ↔ a = b
  rw [Bool.and_true, Bool.and_eq_true, beq_iff_eq, beq_iff_eq]
  exact ⟨fun h => Prod.ext h.1 h.2, fun h => by rw [h]; exact ⟨rfl, rfl⟩⟩
theorem pD_any (ans : List (Int × Bool)) (e : Int × Bool) : ((ans.map pD).any fun z => PyData.eqv z (pD e)) = true ↔ e ∈ ans := by
  rw [List.any_map, List.any_eq_true]
  exact ⟨fun ⟨x, hx, h⟩ => by rw [← (pD_eqv x e).mp h]; exact hx, fun h => ⟨e, h, (pD_eqv e e).mpr rfl⟩⟩
theorem dp_ans {K : PySem.W.Frag} {H : Hp} : ∀ (as : List Addr) (ans : List (Int × Bool)), as.length = ans.length → (∀ (i : Nat) (a : Addr) (e : Int × Bool), as[i]? = some a → ans[i]? = some e → H a = some (.tup [.int e.1, .bl e.2])) → DpAll K H (as.map V.ref) (ans.map pD)
  | [], [], _, _ => .nil
  | [], _ :: _, h, _ => by cases h
  | _ :: _, [], h, _ => by cases h
  | a :: as, e :: ans, h, pr => .cons (.tup (sqT (pr 0 a e rfl rfl)) (.cons (.int _) (.cons (.bl _) .nil))) (dp_ans as ans (Nat.succ.inj h) fun i a e h1 h2 => pr (i + 1) a e h1 h2)
/-! ### the law's state -/
structure LS (H0 : Hp) (c D LC LL LA : Addr) (ns : List Int) (t : Nat) (cs : List Addr) (chs : List (List Int)) (left : List Int) (as : List Addr) (ans : List (Int × Bool)) (H : Hp) : Prop where
  ai : AI H0 c D LA ns t as ans H
  hc : H LC = some (.lst (cs.map V.ref))
  ch : ChAt H cs chs
  hl : H LL = some (.lst (left.map V.int))
  c0 : H0 LC = none
  l0 : H0 LL = none
  cl : LC ≠ LL
  ca : LC ≠ LA
  la : LL ≠ LA
section
variable {H0 H H' : Hp} {c D LC LL LA b q X : Addr} {ns : List Int} {t t' : Nat} {cs : List Addr} {chs : List (List Int)} {left : List Int} {as : List Addr} {ans : List (Int × Bool)} {o : HO} {l : List Int}
theorem AI.mut {xs ys : List V} (s : AI H0 c D LA ns t as ans H) (h0 : H0 X = none) (hX : H X = some (.lst xs)) (ne : X ≠ LA) : AI H0 c D LA ns t as ans (upd H X (.lst ys)) :=
  ⟨s.dk.upd (s.d0.choose_spec.neC h0) (s.d0.choose_spec.neD h0), fun b u e n => updN (ne_of_none e h0) (s.keep b u e n), updN ne.symm s.hl, s.len, fun i a e h1 h2 => updN (fun z => by
    have := s.pr i a e h1 h2
    rw [z, hX] at this
    cases this) (s.pr i a e h1 h2), s.d0, s.l0⟩
theorem ChAt.mut {xs ys : List V} (h : ChAt H cs chs) (hX : H X = some (.lst xs)) : ChAt (upd H X (.lst ys)) cs chs := h.mono fun a zs e => updN (fun z => by
    rw [z, hX] at e
    cases e) e
theorem LS.draw (s : LS H0 c D LC LL LA ns t cs chs left as ans H) (d : Dk c D ns t' H') (f : ∀ b, b ≠ D → H' b = H b) : LS H0 c D LC LL LA ns t' cs chs left as ans H' :=
  ⟨s.ai.draw d f, by rw [f _ (s.ai.d0.choose_spec.neD s.c0)]; exact s.hc, s.ch.mono fun a xs e => (Kp.fr f).tup s.ai.dk a xs e, by rw [f _ (s.ai.d0.choose_spec.neD s.l0)]; exact s.hl, s.c0, s.l0, s.cl, s.ca, s.la⟩
theorem LS.new (s : LS H0 c D LC LL LA ns t cs chs left as ans H) (n : H q = none) : LS H0 c D LC LL LA ns t cs chs left as ans (upd H q o) :=
  ⟨s.ai.new n, updN (ne_of_none s.hc n) s.hc, s.ch.mono fun a xs e => updN (ne_of_none e n) e, updN (ne_of_none s.hl n) s.hl, s.c0, s.l0, s.cl, s.ca, s.la⟩
theorem LS.le (s : LS H0 c D LC LL LA ns t cs chs left as ans H) (h : t ≤ t') : LS H0 c D LC LL LA ns t' cs chs left as ans H := ⟨s.ai.le h, s.hc, s.ch, s.hl, s.c0, s.l0, s.cl, s.ca, s.la⟩
theorem LS.tup (s : LS H0 c D LC LL LA ns t cs chs left as ans H) {a : Addr} {xs : List V} (h : H0 a = some (.tup xs)) : H a = some (.tup xs) := s.ai.keep.tup s.ai.d0.choose_spec a xs h
theorem LS.ins (s : LS H0 c D LC LL LA ns t cs chs left as ans H) {T : Addr} {e : Int × Bool} (hT : H T = some (.tup [.int e.1, .bl e.2])) {k : Nat} (hk : k ≤ as.length) :
    LS H0 c D LC LL LA ns t cs chs left (as.take k ++ [T] ++ as.drop k) (ans.take k ++ [e] ++ ans.drop k) (upd H LA (.lst ((as.map V.ref).take k ++ [.ref T] ++ (as.map V.ref).drop k))) :=
  ⟨s.ai.ins hT hk, updN s.ca s.hc, s.ch.mut s.ai.hl, updN s.la s.hl, s.c0, s.l0, s.cl, s.ca, s.la⟩
theorem LS.putC (s : LS H0 c D LC LL LA ns t cs chs left as ans H) (hb : H b = some (.tup (l.map V.int))) : LS H0 c D LC LL LA ns t (cs ++ [b]) (chs ++ [l]) left as ans (upd H LC (.lst (cs.map V.ref ++ [.ref b]))) :=
  ⟨s.ai.mut s.c0 s.hc s.ca, by rw [updS, List.map_append]; rfl, (s.ch.snoc hb).mut s.hc, updN s.cl.symm s.hl, s.c0, s.l0, s.cl, s.ca, s.la⟩
theorem LS.putL (s : LS H0 c D LC LL LA ns t cs chs left as ans H) (ys : List Int) : LS H0 c D LC LL LA ns t cs chs (left ++ ys) as ans (upd H LL (.lst (left.map V.int ++ ys.map V.int))) :=
  ⟨s.ai.mut s.l0 s.hl s.la, updN s.cl s.hc, s.ch.mut s.hl, by rw [updS, List.map_append], s.c0, s.l0, s.cl, s.ca, s.la⟩
theorem LS.last (s : LS H0 c D LC LL LA ns t (cs ++ [b]) (chs ++ [l]) left as ans H) : H b = some (.tup (l.map V.int)) := by
  have h := s.ch.1
  rw [List.length_append, List.length_append, List.length_singleton, List.length_singleton] at h
  refine s.ch.2 cs.length b l (by rw [List.getElem?_append_right (Nat.le_refl _), Nat.sub_self]; rfl) ?_
  rw [show cs.length = chs.length by omega, List.getElem?_append_right (Nat.le_refl _), Nat.sub_self]
  rfl
end
def chR (a g : Int) (w n r : Nat) : List (List Int) := (List.range r).map (chL a g w n)
theorem chR_succ (a g : Int) (w n r : Nat) : chR a g w n (r + 1) = chR a g w n r ++ [chL a g w n r] := by
  unfold chR
  rw [List.range_succ, List.map_append]
  rfl
theorem chR_length (a g : Int) (w n r : Nat) : (chR a g w n r).length = r := by unfold chR; rw [List.length_map, List.length_range]
theorem toA_ins (a g : Int) (ai : List (Nat × Bool)) (k : Nat) (p : Nat × Bool) : (toA a g ai).take k ++ [(val a g p.1, p.2)] ++ (toA a g ai).drop k = toA a g (ai.take k ++ [p] ++ ai.drop k) := by
  unfold toA
  rw [List.map_append, List.map_append, List.map_take, List.map_drop]
  rfl
theorem toA_length (a g : Int) (ai : List (Nat × Bool)) : (toA a g ai).length = ai.length := by unfold toA; rw [List.length_map]
section
variable {K : PySem.W.Frag} {E : Ends} {H0 H : Hp} {c D LC LL LA b W a0 dr : Addr} {ns : List Int} {t0 : Nat} {cs : List Addr} {left : List Int} {as : List Addr} {ai : List (Nat × Bool)} {a g : Int} {w n r : Nat}
def St17 (a0 D dr W : Addr) (w : Nat) (LC LL LA : Addr) (zs : List (Option V)) : L2.St := [some (.ref a0), some (.ref D), some (.ref dr), some (.ref W), some (.int (w : Int)), some (.ref LC), some (.ref LL), some (.ref LA)] ++ zs
def PostC (H0 : Hp) (c D LC LL LA a0 dr W : Addr) (ns : List Int) (t0 : Nat) (a g : Int) (w n i : Nat) : L2.St → Hp → Prop := fun σ H => ∃ (cs : List Addr) (left : List Int) (as : List Addr) (ai : List (Nat × Bool)) (z8 z9 z10 z11 z12 z13 z14 : Option V),
  σ = [some (.ref a0), some (.ref D), some (.ref dr), some (.ref W), some (.int (w : Int)), some (.ref LC), some (.ref LL), some (.ref LA), z8, z9, z10, z11, z12, z13, z14, none, none] ∧
  LS H0 c D LC LL LA ns (t0 + 8 * i) cs (chR a g w n i) left as (toA a g ai) H ∧ An w n i ai ∧ Lf a g w n i left ai ∧ ai.length ≤ 3 * i ∧ left.length ≤ 60 * i
theorem law_ends {z0 z1 z2 z3 z4 z5 z6 z7 z8 z9 z13 z15 z16 : Option V} {low high : Int} {X e : Nat}
    (k : E.nx [z0, z1, z2, z3, z4, z5, z6, z7, z8, z9, some (.int (e : Int)), some (.int (if X < e then max low (X : Int) else low)), some (.int (if X < e then high else min high (X : Int))), z13, some (.int (X : Int)), z15, z16] H) :
    t_law_ends K E [z0, z1, z2, z3, z4, z5, z6, z7, z8, z9, some (.int (e : Int)), some (.int low), some (.int high), z13, some (.int (X : Int)), z15, z16] H := by
  refine ⟨_, rfl, _, rfl, _, _, rfl, rfl, _, rfl, ite2 (fun z => ?_) (fun z => ?_)⟩
  · have z' := of_decide_eq_true z
    rw [if_pos (by omega), if_pos (by omega)] at k
    refine ⟨_, rfl, _, rfl, low, (X : Int), rfl, ?_⟩
    rw [show (if (X : Int) > low then (X : Int) else low) = max low (X : Int) by split <;> omega]
    exact k
  · have z' := of_decide_eq_false (Bool.eq_false_iff.mpr z)
    rw [if_neg (by omega), if_neg (by omega)] at k
    refine ⟨_, rfl, _, rfl, high, (X : Int), rfl, ?_⟩
    rw [show (if (X : Int) < high then (X : Int) else high) = min high (X : Int) by split <;> omega]
    exact k
theorem law_ext {z8 z10 z13 z14 : Option V} {low high : Int} {e : Nat} (hr : r < w) (hrn : r < n) (hn : n ≤ 60) (hw : w ≤ 6)
    (s : LS H0 c D LC LL LA ns (t0 + 8 * (r + 1)) (cs ++ [b]) (chR a g w n r ++ [chL a g w n r]) left as (toA a g ai) H) (inn : Inn w n r e (stepN n r w) ai low high) (lf : Lf a g w n r left ai) (h1 : ai.length ≤ 3 * (r + 1)) (h2 : left.length ≤ 60 * r)
    (k : ∀ σ H', PostC H0 c D LC LL LA a0 dr W ns t0 a g w n (r + 1) σ H' → E.nx σ H') :
    t_law_ext K E [some (.ref a0), some (.ref D), some (.ref dr), some (.ref W), some (.int (w : Int)), some (.ref LC), some (.ref LL), some (.ref LA), z8, some (.ref b), z10, some (.int low), some (.int high), z13, z14, none, none] H := by
  have c2 : stepN n r w ≤ 60 := by unfold stepN; have := Nat.div_le_self (n - r - 1) w; omega
  have i1 := inn.lb
  have i2 := inn.el
  have i3 := inn.eh
  have i4 := inn.hc
  obtain ⟨l, hl⟩ : ∃ l : Nat, low + 1 = (l : Int) := ⟨(low + 1).toNat, by omega⟩
  obtain ⟨h, hh⟩ : ∃ h : Nat, high = (h : Int) := ⟨high.toNat, by omega⟩
  have elow : low = (l : Int) - 1 := by omega
  subst hh
  subst elow
  have hlh : l ≤ h := by omega
  have hhc : h ≤ stepN n r w := by omega
  have fin : ∀ (d : Addr) (H1 : Hp), LS H0 c D LC LL LA ns (t0 + 8 * (r + 1)) (cs ++ [b]) (chR a g w n r ++ [chL a g w n r]) left as (toA a g ai) H1 → H1 d = some (.tup ((((chL a g w n r).drop l).take (h - l)).map V.int)) →
      rExtendA K (.ref LL) [.ref d] H1 fun _ H2 => E.nx [some (.ref a0), some (.ref D), some (.ref dr), some (.ref W), some (.int (w : Int)), some (.ref LC), some (.ref LL), some (.ref LA), z8, some (.ref b), z10, some (.int ((l : Int) - 1)), some (.int (h : Int)), z13, z14, none, none] H2 := fun d H1 s1 hd => by
    have cz : (((chL a g w n r).drop l).take (h - l)).length ≤ 60 := by
      rw [List.length_take, List.length_drop, chL_length]
      omega
    refine ⟨LL, d, _, _, rfl, rfl, s1.hl, .inr hd, by rw [List.length_map, List.length_map]; omega, ?_⟩
    refine k _ _ ⟨cs ++ [b], _, as, ai, z8, _, z10, _, _, z13, z14, rfl, by rw [chR_succ]; exact s1.putL _, inn.an, lf.next inn hr (stepN_iff hrn (by omega)) (mem_cut hlh hhc), h1, ?_⟩
    rw [List.length_append]
    omega
  refine ⟨_, rfl, .inl ⟨rfl, _, sqL s.hl⟩, _, rfl, _, rfl, _, _, rfl, rfl, _, rfl, _, rfl, _, rfl, b, _, rfl, sqT s.last, fun hw => ?_, fun hn p np => ?_⟩
  · rw [show (l : Int) - 1 + 1 = (l : Int) by omega, HT.sIx_nat, HT.sIx_nat, List.length_map, chL_length] at hw
    refine fin b H s ?_
    rw [s.last, show l = 0 by omega, show h = stepN n r w by omega, List.drop_zero, Nat.sub_zero, List.take_of_length_le (by rw [chL_length]; exact Nat.le_refl _)]
  · refine fin p _ (s.new np) ?_
    rw [updS]
    unfold cutV
    rw [show (l : Int) - 1 + 1 = (l : Int) by omega, HT.sIx_nat, HT.sIx_nat, List.length_map, chL_length, Nat.min_eq_left (by omega), Nat.min_eq_left (by omega), List.map_take, List.map_drop]
end
end Fw

set_option Elab.async false
set_option linter.all false
set_option maxRecDepth 100000
set_option maxHeartbeats 4000000
namespace Fw
open PySem L2 RZ RT
theorem units65 {k : Nat} {A : Around} (r : Room k A) : A.units + 65 < cLine := by have := r.un; omega
section
variable {K : PySem.W.Frag} {E : Ends} {H0 H : Hp} {c D LC LL LA b W a0 dr q : Addr} {ns : List Int} {t0 : Nat} {cs : List Addr} {left : List Int} {as : List Addr} {ai : List (Nat × Bool)} {a g : Int} {w n r : Nat}
theorem law_at {z8 z13 z14 : Option V} {low high : Int} {e t : Nat} (hg : 1 ≤ g) (hr : r < w) (hrn : r < n) (hn : n ≤ 60) (hw : w ≤ 6) (ht : t < 100000)
    (s : LS H0 c D LC LL LA ns t (cs ++ [b]) (chR a g w n r ++ [chL a g w n r]) left as (toA a g ai) H) (inn : Inn w n r e (stepN n r w) ai low high) (lf : Lf a g w n r left ai) (h1 : ai.length ≤ 100)
    (k : ∀ (as' : List Addr) (ai' : List (Nat × Bool)) (low' high' : Int) (z14' : Option V) (H' : Hp), LS H0 c D LC LL LA ns (t + 2) (cs ++ [b]) (chR a g w n r ++ [chL a g w n r]) left as' (toA a g ai') H' → Inn w n r e (stepN n r w) ai' low' high' → Lf a g w n r left ai' → ai'.length ≤ ai.length + 1 →
      E.nx [some (.ref a0), some (.ref D), some (.ref dr), some (.ref W), some (.int (w : Int)), some (.ref LC), some (.ref LL), some (.ref LA), z8, some (.ref b), some (.int (e : Int)), some (.int low'), some (.int high'), z13, z14', none, none] H') :
    t_law_at K E [some (.ref a0), some (.ref D), some (.ref dr), some (.ref W), some (.int (w : Int)), some (.ref LC), some (.ref LL), some (.ref LA), z8, some (.ref b), some (.int (e : Int)), some (.int low), some (.int high), z13, z14, none, none] H := by
  have hw0 : 0 < w := by omega
  have c1 : 1 ≤ stepN n r w := Nat.le_add_left 1 _
  have c2 : stepN n r w ≤ 60 := by unfold stepN; have := Nat.div_le_self (n - r - 1) w; omega
  have hlen : ((chL a g w n r).map V.int).length = stepN n r w := by rw [List.length_map, chL_length]
  refine ⟨_, rfl, _, rfl, lenT s.last ⟨c, D, ns, _, _, rfl, s.ai.dk, by omega, by omega, small100 (by omega), fun x H5 x0 x1 d5 f5 => ?_⟩⟩
  rw [hlen] at x1
  obtain ⟨X, rfl⟩ := Int.eq_ofNat_of_zero_le x0
  have hX : X < stepN n r w := by omega
  have hXn : r + X * w < n := (stepN_iff hrn hw0 X).mp hX
  have s5 := s.draw d5 f5
  have hat : atI ((chL a g w n r).map V.int) (X : Int) = some (.int (val a g (r + X * w))) := atI_nat (by rw [List.getElem?_map, chL_get hX]; rfl)
  have eb : decide ((X : Int) < (e : Int)) = decide (X < e) := by rw [Bool.eq_iff_iff, decide_eq_true_eq, decide_eq_true_eq]; omega
  refine ⟨_, rfl, _, rfl, ixT s5.last hat ⟨_, rfl, _, rfl, _, _, rfl, rfl, by show (2 : Nat) ≤ sizeLine; decide, fun T nT => ?_⟩⟩
  have s6 : LS H0 c D LC LL LA ns (t + 1) (cs ++ [b]) (chR a g w n r ++ [chL a g w n r]) left as (toA a g ai) (upd H5 T (.tup [.int (val a g (r + X * w)), .bl (decide ((X : Int) < (e : Int)))])) := s5.new nT
  refine ⟨_, rfl, pD (val a g (r + X * w), decide ((X : Int) < (e : Int))), (toA a g ai).map pD, .tup (sqT updS) (.cons (.int _) (.cons (.bl _) .nil)), .lst (sqL s6.ai.hl) (dp_ans _ _ s6.ai.len s6.ai.pr), pD_shaped _, pD_shapedL _, _, rfl, ite2 (fun z => ?_) (fun z => ?_)⟩
  · have nin : (val a g (r + X * w), decide (X < e)) ∉ toA a g ai := fun hm => by
      rw [← eb] at hm
      rw [(pD_any _ _).mpr hm] at z
      exact Bool.false_ne_true z
    have nin2 : (r + X * w, decide (X < e)) ∉ ai := fun hm => nin ((mem_toA hg).mpr hm)
    refine ⟨_, rfl, .inl ⟨rfl, _, sqL s6.ai.hl⟩, _, rfl, _, rfl, lenL s6.ai.hl ⟨_, _, rfl, rfl, c, D, ns, _, _, rfl, s6.ai.dk, by omega, by omega, small100 (by rw [List.length_map, s6.ai.len, toA_length]; omega), fun y H7 y0 y1 d7 f7 => ?_⟩⟩
    have s7 := s6.draw d7 f7
    rw [List.length_map] at y1
    refine ⟨_, rfl, _, rfl, ixT s7.last hat ⟨_, rfl, _, rfl, _, _, rfl, rfl, by show (2 : Nat) ≤ sizeLine; decide, fun T2 n2 => ?_⟩⟩
    have s8 : LS H0 c D LC LL LA ns (t + 2) (cs ++ [b]) (chR a g w n r ++ [chL a g w n r]) left as (toA a g ai) (upd H7 T2 (.tup [.int (val a g (r + X * w)), .bl (decide ((X : Int) < (e : Int)))])) := s7.new n2
    have hal := s8.ai.len
    rw [toA_length] at hal
    refine ⟨LA, _, y, _, rfl, rfl, s8.ai.hl, ?_, y0, by omega, ?_⟩
    · rw [List.length_map]
      exact Nat.lt_of_le_of_lt (show _ ≤ 1000 by omega) (by decide)
    · have s9 := s8.ins (T := T2) (e := (val a g (r + X * w), decide ((X : Int) < (e : Int)))) updS (k := y.toNat) (by omega)
      rw [show (val a g (r + X * w), decide ((X : Int) < (e : Int))) = (val a g (r + X * w), decide (X < e)) by rw [eb]] at s9
      rw [toA_ins a g ai y.toNat (r + X * w, decide (X < e))] at s9
      have pm := ins_perm ai y.toNat (r + X * w, decide (X < e))
      have mem : ∀ p, p ∈ ai.take y.toNat ++ [(r + X * w, decide (X < e))] ++ ai.drop y.toNat ↔ p ∈ ai ∨ p = (r + X * w, decide (X < e)) := fun p => by
        rw [pm.mem_iff, List.mem_cons]
        exact or_comm
      have nd : ((ai.take y.toNat ++ [(r + X * w, decide (X < e))] ++ ai.drop y.toNat).map (·.1)).Nodup := by
        refine (pm.map (·.1)).nodup_iff.mpr (List.nodup_cons.mpr ⟨fun hm => ?_, inn.nd⟩)
        obtain ⟨⟨i, b'⟩, hp, ee⟩ := List.mem_map.mp hm
        have ee' : i = r + X * w := ee
        subst ee'
        have o : b' = decide ((r + X * w) / w < e) := inn.own _ hp (pos_mod hr)
        rw [pos_div hr] at o
        rw [o] at hp
        exact nin2 hp
      refine law_ends (K := K) (k _ _ _ _ _ _ s9 (inn.step hr hX hXn mem nd) (lf.step hr mem) ?_)
      rw [pm.length_eq, List.length_cons]
      exact Nat.le_refl _
  · have hin : (val a g (r + X * w), decide (X < e)) ∈ toA a g ai := by
      rw [← eb]
      refine (pD_any _ _).mp ?_
      cases e' : ((toA a g ai).map pD).any fun z => PyData.eqv z (pD (val a g (r + X * w), decide ((X : Int) < (e : Int)))) with
      | true => rfl
      | false => rw [e'] at z; exact absurd rfl z
    have hin2 := (mem_toA hg).mp hin
    have mem : ∀ p, p ∈ ai ↔ p ∈ ai ∨ p = (r + X * w, decide (X < e)) := fun p => ⟨.inl, fun h => h.elim id fun h => h ▸ hin2⟩
    exact law_ends (K := K) (k _ _ _ _ _ _ (s6.le (by omega)) (inn.step hr hX hXn mem inn.nd) (lf.step hr mem) (by omega))
theorem law_chain {z8 z10 z11 z12 z13 z14 : Option V} (hg : 1 ≤ g) (hr : r < w) (hrn : r < n) (hn : n ≤ 60) (hw : w ≤ 6) (ht : t0 < 1000)
    (s : LS H0 c D LC LL LA ns (t0 + 8 * r) cs (chR a g w n r) left as (toA a g ai) H) (hb : H b = some (.tup ((chL a g w n r).map V.int))) (an : An w n r ai) (lf : Lf a g w n r left ai) (h1 : ai.length ≤ 3 * r) (h2 : left.length ≤ 60 * r)
    (k : ∀ σ H', PostC H0 c D LC LL LA a0 dr W ns t0 a g w n (r + 1) σ H' → E.nx σ H') :
    t_law_chain K E [some (.ref a0), some (.ref D), some (.ref dr), some (.ref W), some (.int (w : Int)), some (.ref LC), some (.ref LL), some (.ref LA), z8, some (.ref b), z10, z11, z12, z13, z14, none, none] H := by
  have c1 : 1 ≤ stepN n r w := Nat.le_add_left 1 _
  have c2 : stepN n r w ≤ 60 := by unfold stepN; have := Nat.div_le_self (n - r - 1) w; omega
  have hlen : ((chL a g w n r).map V.int).length = stepN n r w := by rw [List.length_map, chL_length]
  refine ⟨_, rfl, .inl ⟨rfl, _, sqL s.hc⟩, _, rfl, LC, _, _, rfl, rfl, s.hc, ?_, ?_⟩
  · rw [List.length_map, s.ch.1, chR_length]
    exact Nat.lt_of_le_of_lt (show _ ≤ 1000 by omega) (by decide)
  have s1 := s.putC hb
  refine ⟨_, rfl, _, rfl, lenT s1.last ⟨_, _, rfl, rfl, c, D, ns, _, _, rfl, s1.ai.dk, by omega, by omega, small100 (by omega), fun e H2 e0 e1 d2 f2 => ?_⟩⟩
  rw [hlen] at e1
  obtain ⟨e, rfl⟩ := Int.eq_ofNat_of_zero_le e0
  have s2 := s1.draw d2 f2
  refine ⟨1, rfl, _, rfl, lenT s2.last ?_⟩
  rw [hlen]
  refine ⟨_, rfl, c, D, ns, _, 4, rfl, s2.ai.dk, by omega, by decide, by decide, fun m H3 m0 m1 d3 f3 => ⟨_, rfl, by omega, by omega, ?_⟩⟩
  have s3 := s2.draw d3 f3
  refine for_range (lo := 0) (n := m.toNat) (fun j σ H' => ∃ (as : List Addr) (ai : List (Nat × Bool)) (low high : Int) (z13 z14 : Option V), σ = [some (.ref a0), some (.ref D), some (.ref dr), some (.ref W), some (.int (w : Int)), some (.ref LC), some (.ref LL), some (.ref LA), z8, some (.ref b), some (.int (e : Int)), some (.int low), some (.int high), z13, z14, none, none] ∧
    LS H0 c D LC LL LA ns (t0 + 8 * r + 1 + 1 + 2 * j) (cs ++ [b]) (chR a g w n r ++ [chL a g w n r]) left as (toA a g ai) H' ∧ Inn w n r e (stepN n r w) ai low high ∧ Lf a g w n r left ai ∧ ai.length ≤ 3 * r + j) ⟨as, ai, -1, ((stepN n r w : Nat) : Int), z13, z14, rfl, s3, an.inn (by omega), lf, by omega⟩ ?_ ?_
  · rintro j σ H4 hj ⟨as, ai, low, high, z13, z14, rfl, s4, inn, lf4, hl4⟩
    exact law_at hg hr hrn hn hw (by omega) s4 inn lf4 (by omega) fun as' ai' low' high' z14' H' s' inn' lf' hl' => ⟨as', ai', low', high', _, z14', rfl, s', inn', lf', by omega⟩
  · rintro σ H4 ⟨as, ai, low, high, z13, z14, rfl, s4, inn, lf4, hl4⟩
    exact law_ext hr hrn hn hw (s4.le (by omega)) inn lf4 (by omega) h2 k
end
theorem chL_whole {a g : Int} {n : Nat} (h : 0 < n) : chL a g 1 n 0 = vsL a g n := by
  unfold chL vsL
  rw [show stepN n 0 1 = n by unfold stepN; rw [Nat.div_one]; omega]
  refine List.map_congr_left fun m _ => ?_
  show a + g * ((0 + m * 1 : Nat) : Int) = a + g * (m : Int)
  rw [Nat.mul_one, Nat.zero_add]
theorem law_same {K : PySem.W.Frag} {H0 H : Hp} {c D LC LL LA W q r T T1 : Addr} {y : V} {ns : List Int} {t : Nat} {cs rs : List Addr} {left : List Int} {as : List Addr} {ai : List (Nat × Bool)} {a g : Int} {w n : Nat} {Q Q1 : VK} {E1 E2 E3 : XK} (ha : 0 ≤ a) (hg : 1 ≤ g) (hw : 1 ≤ w) (hw6 : w ≤ 6) (hn : n ≤ 60)
    (s : LS H0 c D LC LL LA ns t cs (chR a g w n (min w n)) left as (toA a g ai) H) (hW : H0 W = some (.tup [.ref q, .ref r])) (hq : H0 q = some (.tup ((vsL a g n).map V.int))) (hr : H0 r = some (.tup (rs.map V.ref))) (lk : LkAt H0 rs (lsL a g w n))
    (hT : H T = some (.tup [.ref T1, y])) (hT1 : H T1 = some (.tup (cs.map V.ref))) (an : An w n (min w n) ai) (lf : Lf a g w n (min w n) left ai) (h1 : ai.length ≤ 3 * min w n) (k : ∀ H', Q (.bl true) H') (few : Nat) (A : Addr) (nA : H A = none)
    (hQ : ∀ v H1, sp_l_middles K [.ref LC, .ref LL, .int (few : Int)] H1 (fun v2 H2 => sp_l_same K [v, v2] H2 Q E3) E2 → Q1 v H1) : sp_next_asks K [.ref W, .ref T, .ref A, .int (few : Int)] (upd H A (.tup (as.map V.ref))) Q1 E1 := by
  have gd : Good (vsL a g n) (lsL a g w n) := good_long ha (by omega) (by omega)
  have s1 : LS H0 c D LC LL LA ns t cs (chR a g w n (min w n)) left as (toA a g ai) (upd H A (.tup (as.map V.ref))) := s.new nA
  have hz : (chR a g w n (min w n)).length ≤ 6 := by rw [chR_length]; omega
  have hlen : ∀ l ∈ chR a g w n (min w n), l.length ≤ 1000 ∧ ∀ v ∈ l, v ∈ vsL a g n := fun l hl => by
    obtain ⟨i, hi, rfl⟩ := List.mem_map.mp hl
    have hi' := List.mem_range.mp hi
    refine ⟨?_, fun v hv => chL_sub (by omega) (by omega) hv⟩
    rw [chL_length]
    unfold stepN
    have := Nat.div_le_self (n - i - 1) w
    omega
  have tup0 : ∀ b xs, H0 b = some (.tup xs) → (upd H A (.tup (as.map V.ref))) b = some (.tup xs) := fun b xs e => s1.tup e
  refine ⟨W, T, T1, A, y, few, vsL a g n, lsL a g w n, toA a g ai, cs, chR a g w n (min w n), rfl, ⟨q, r, rs, tup0 _ _ hW, tup0 _ _ hq, tup0 _ _ hr, lk.mono tup0⟩, gd, by rw [vsL_length]; omega, by rw [lsL_length]; omega, ⟨as, updS, s1.ai.len, s1.ai.pr⟩, by rw [toA_length]; omega, toA_nodup hg an.nd, an.nc hg, updN (ne_of_none hT nA) hT, updN (ne_of_none hT1 nA) hT1, s1.ch, by omega, hlen, fun r1 H2 sm2 nr1 hr1 => ?_⟩
  refine hQ _ _ ⟨LC, LL, few, left, cs, chR a g w n (min w n), rfl, sm2 _ _ s1.hc, s1.ch.mono fun b xs e => sm2 _ _ e, by omega, fun l hl => (hlen l hl).1, sm2 _ _ s1.hl, fun r2 H3 sm3 nr2 hr2 => ?_⟩
  have em : mids left.contains (chR a g w n (min w n)) = mids (lfB (lsL a g w n) (toA a g ai)) (chR a g w n (min w n)) := mids_congr fun l hl v hv => left_eq ha hg (by omega) an lf ((hlen l hl).2 v hv)
  rw [em] at hr2
  refine ⟨_, _, rfl, SameV.tup (sm3 _ _ hr1) hr2 rfl ?_ SameV.ints, k _⟩
  rw [List.length_map, List.length_take]
  have := mids_le (lfB (lsL a g w n) (toA a g ai)) (chR a g w n (min w n))
  omega
theorem law_wide {K : PySem.W.Frag} {H0 H : Hp} {c D LC LL LA W a0 dr q r T T1 : Addr} {y : V} {z8 z9 z10 z11 z12 z13 z14 : Option V} {ns : List Int} {t : Nat} {cs rs : List Addr} {left : List Int} {as : List Addr} {ai : List (Nat × Bool)} {a g : Int} {w n : Nat} {Q : VK} (ha : 0 ≤ a) (hg : 1 ≤ g) (hw : 1 ≤ w) (hw6 : w ≤ 6) (hn : n ≤ 60) (ht : t < 1000)
    (s : LS H0 c D LC LL LA ns t cs (chR a g w n (min w n)) left as (toA a g ai) H) (hW : H0 W = some (.tup [.ref q, .ref r])) (hq : H0 q = some (.tup ((vsL a g n).map V.int))) (hr : H0 r = some (.tup (rs.map V.ref))) (lk : LkAt H0 rs (lsL a g w n))
    (hT : H T = some (.tup [.ref T1, y])) (hT1 : H T1 = some (.tup (cs.map V.ref))) (an : An w n (min w n) ai) (lf : Lf a g w n (min w n) left ai) (h1 : ai.length ≤ 3 * min w n) (k : ∀ H', Q (.bl true) H') :
    t_law_wide K { nx := fun _ H' => Q .non H', rt := Q } [some (.ref a0), some (.ref D), some (.ref dr), some (.ref W), some (.int (w : Int)), some (.ref LC), some (.ref LL), some (.ref LA), z8, z9, z10, z11, z12, z13, z14, some (.ref T), none] H := by
  refine ⟨_, rfl, c, D, ns, _, 20, rfl, s.ai.dk, by omega, by decide, by decide, fun x H1 x0 x1 d1 f1 => ⟨_, _, rfl, rfl, ?_⟩⟩
  obtain ⟨X, rfl⟩ := Int.eq_ofNat_of_zero_le x0
  show t_law_last K { nx := fun _ H' => Q .non H', rt := Q } [some (.ref a0), some (.ref D), some (.ref dr), some (.ref W), some (.int (w : Int)), some (.ref LC), some (.ref LL), some (.ref LA), z8, z9, z10, z11, z12, z13, z14, some (.ref T), some (.int (1 + (X : Int)))] H1
  rw [show 1 + (X : Int) = ((1 + X : Nat) : Int) by omega]
  have s1 := s.draw d1 f1
  have hT' := (Kp.fr f1).tup s.ai.dk _ _ hT
  have hT1' := (Kp.fr f1).tup s.ai.dk _ _ hT1
  refine ⟨_, rfl, c, D, ns, _, 3, rfl, s1.ai.dk, by omega, by decide, by decide, fun v H2 v0 v1 d2 f2 => ⟨rfl, _, rfl, ite2 (fun _ => ?_) (fun _ => ?_)⟩⟩
  · have s2 := s1.draw d2 f2
    refine ⟨_, rfl, _, rfl, _, rfl, LA, _, rfl, .inl ⟨sqL s2.ai.hl, fun A nA => ?_⟩⟩
    dsimp only [tNil]
    exact law_same (K := K) (E1 := E0) (E2 := E0) (E3 := E0) ha hg hw hw6 hn s2 hW hq hr lk ((Kp.fr f2).tup s1.ai.dk _ _ hT') ((Kp.fr f2).tup s1.ai.dk _ _ hT1') an lf h1 k 4 A nA fun v H3 h => ⟨_, rfl, _, rfl, h⟩
  · have s2 := s1.draw d2 f2
    exact ⟨_, rfl, _, rfl, _, rfl, LA, _, rfl, .inl ⟨sqL s2.ai.hl, fun A nA => ⟨_, rfl, rfl, rfl, law_same (E1 := E0) (E2 := E0) (E3 := E0) ha hg hw hw6 hn s2 hW hq hr lk ((Kp.fr f2).tup s1.ai.dk _ _ hT') ((Kp.fr f2).tup s1.ai.dk _ _ hT1') an lf h1 k (1 + X) A nA fun v H3 h => ⟨_, rfl, _, rfl, _, rfl, h⟩⟩⟩⟩
theorem pure_law {K : PySem.W.Frag} {vs : List V} {H : Hp} {Q : VK} {E : XK} (h : sp_law K vs H Q E) : t_law K { nx := fun _ H' => Q .non H', rt := Q } (start N_law vs) H := by
  obtain ⟨a0, ns, rfl, hS, hl, k⟩ := h
  refine ⟨_, rfl, a0, ns, rfl, hS, hl, fun c D H1 sm nc nD dk => ?_⟩
  refine ⟨_, rfl, c, D, ns, 0, 60, rfl, dk, by decide, by decide, by decide, fun p q r rs a g w n H2 k2 d2 hp hq hrs lk a0' a1 g1 g3 w1 w6 hn => ?_⟩
  have hn60 : n ≤ 60 := by omega
  refine ⟨_, rfl, ixT hp rfl ⟨_, rfl, ixT hp rfl ⟨by show (2 : Nat) ≤ sizeLine; decide, fun W nW => ?_⟩⟩⟩
  refine ⟨_, rfl, ixT (updN (ne_of_none hp nW) hp) rfl ?_⟩
  have d3 : Dk c D ns (0 + 4) (upd H2 W (.tup [.ref q, .ref r])) := d2.upd (d2.neC nW) (d2.neD nW)
  have hW : (upd H2 W (.tup [.ref q, .ref r])) W = some (.tup [.ref q, .ref r]) := updS
  have hq3 : (upd H2 W (.tup [.ref q, .ref r])) q = some (.tup ((vsL a g n).map V.int)) := updN (ne_of_none hq nW) hq
  have hr3 : (upd H2 W (.tup [.ref q, .ref r])) r = some (.tup (rs.map V.ref)) := updN (ne_of_none hrs nW) hrs
  have lk3 : LkAt (upd H2 W (.tup [.ref q, .ref r])) rs (lsL a g w n) := lk.mono fun b xs e => updN (ne_of_none e nW) e
  generalize upd H2 W (.tup [.ref q, .ref r]) = H3 at *
  refine ⟨Nat.zero_le _, fun LC nC => ⟨Nat.zero_le _, fun LL nL => ⟨Nat.zero_le _, fun LA nA => ?_⟩⟩⟩
  have nL3 : H3 LL = none := (samNew nC).free nL
  have nA2 : (upd H3 LC (.lst [])) LA = none := (samNew nL).free nA
  have nA3 : H3 LA = none := (samNew nC).free nA2
  have neCL : LC ≠ LL := ne_of_none (H := upd H3 LC (.lst [])) updS nL
  have neCA : LC ≠ LA := ne_of_none (H := upd H3 LC (.lst [])) updS nA2
  have neLA : LL ≠ LA := ne_of_none (H := upd (upd H3 LC (.lst [])) LL (.lst [])) updS nA
  have s0 : LS H3 c D LC LL LA ns (4 + 8 * 0) [] (chR a g w n 0) [] [] (toA a g []) (upd (upd (upd H3 LC (.lst [])) LL (.lst [])) LA (.lst [])) := by
    refine ⟨⟨((d3.upd (d3.neC nC) (d3.neD nC)).upd (d3.neC nL3) (d3.neD nL3)).upd (d3.neC nA3) (d3.neD nA3), fun b o e _ => samNew nA _ _ (samNew nL _ _ (samNew nC _ _ e)), updS, rfl, (fun i a e h1 _ => by cases h1), ⟨_, d3⟩, nA3⟩, ?_, ⟨rfl, fun i c l h1 _ => by cases h1⟩, ?_, nC, nL3, neCL, neCA, neLA⟩
    · exact updN neCA (updN neCL updS)
    · exact updN neLA updS
  refine ⟨_, rfl, _, rfl, ixT (s0.tup hW) rfl (lenT (s0.tup hq3) ⟨_, _, rfl, _, rfl, ?_, ?_, ?_⟩)⟩
  · rw [List.length_map, vsL_length]
    split <;> omega
  · rw [List.length_map, vsL_length]
    split <;> omega
  rw [show (if (((vsL a g n).map V.int).length : Int) < (w : Int) then (((vsL a g n).map V.int).length : Int) else (w : Int)).toNat = min w n by rw [List.length_map, vsL_length]; split <;> omega]
  refine for_range (lo := 0) (n := min w n) (PostC H3 c D LC LL LA a0 p W ns 4 a g w n) ⟨[], [], [], [], none, none, none, none, none, none, none, rfl, s0, ⟨.nil, (fun p hp => nomatch hp), (fun i j h => nomatch h)⟩, (fun v => ⟨(fun h => nomatch h), fun ⟨i, _, h, _⟩ => absurd h (Nat.not_lt_zero _)⟩), Nat.le_refl _, Nat.le_refl _⟩ ?_ ?_
  · rintro i σ H4 hi ⟨cs, left, as, ai, z8, z9, z10, z11, z12, z13, z14, rfl, s, an, lf, h1, h2⟩
    have hiw : i < w := by omega
    have hin : i < n := by omega
    refine ⟨_, rfl, ixT (s.tup hW) rfl ⟨_, rfl, _, rfl, _, rfl, _, rfl, q, _, i, w, rfl, congrArg some (Int.zero_add _), rfl, sqT (s.tup hq3), by rw [List.length_map, vsL_length]; exact hin, by omega, fun e => ?_, fun e b nb => ?_⟩⟩
    · refine law_chain g1 hiw hin hn60 (by omega) (by decide) s ?_ an lf h1 h2 fun σ H' z => z
      rw [s.tup hq3]
      obtain ⟨rfl, rfl⟩ := e
      rw [chL_whole hin]
    · rw [stepL_long hin (by omega)]
      exact law_chain g1 hiw hin hn60 (by omega) (by decide) (s.new nb) updS an lf h1 h2 fun σ H' z => z
  · rintro σ H4 ⟨cs, left, as, ai, z8, z9, z10, z11, z12, z13, z14, rfl, s, an, lf, h1, h2⟩
    have hz : (chR a g w n (min w n)).length ≤ 6 := by rw [chR_length]; omega
    have hcl : cs.length ≤ 6 := by rw [s.ch.1]; exact hz
    have gd : Good (vsL a g n) (lsL a g w n) := good_long a0' (by omega) (by omega)
    -- told
    refine ⟨_, rfl, LC, _, rfl, .inl ⟨sqL s.hc, fun T1 n1 => ?_⟩⟩
    have s5 : LS H3 c D LC LL LA ns (4 + 8 * min w n) cs (chR a g w n (min w n)) left as (toA a g ai) (upd H4 T1 (.tup (cs.map V.ref))) := s.new n1
    have hT1 : (upd H4 T1 (.tup (cs.map V.ref))) T1 = some (.tup (cs.map V.ref)) := updS
    generalize upd H4 T1 (.tup (cs.map V.ref)) = H5 at *
    have go : ∀ (y : Addr) (ys : List V) (H6 : Hp), LS H3 c D LC LL LA ns (4 + 8 * min w n) cs (chR a g w n (min w n)) left as (toA a g ai) H6 → H6 T1 = some (.tup (cs.map V.ref)) → ∀ T : Addr, H6 T = none →
        t_law_wide K { nx := fun _ H' => Q .non H', rt := Q } [some (.ref a0), some (.ref D), some (.ref p), some (.ref W), some (.int (w : Int)), some (.ref LC), some (.ref LL), some (.ref LA), z8, z9, z10, z11, z12, z13, z14, some (.ref T), none] (upd H6 T (.tup [.ref T1, .ref y])) := fun y ys H6 s6 h6 T nT =>
      law_wide a0' g1 w1 (by omega) hn60 (by omega) (s6.new nT) hW hq3 hr3 lk3 updS (updN (ne_of_none h6 nT) h6) an lf h1 k
    refine ⟨_, rfl, ixT (s5.tup hW) rfl ⟨_, rfl, lenL s5.hc ⟨_, rfl, q, _, rfl, sqT (s5.tup hq3), fun _ => ?_, fun _ T2 n2 => ?_⟩⟩⟩
    · exact ⟨q, _, rfl, .inr ⟨sqT (s5.tup hq3), by show (2 : Nat) ≤ sizeLine; decide, fun T nT => go q [] H5 s5 hT1 T nT⟩⟩
    · exact ⟨T2, _, rfl, .inr ⟨sqT updS, by show (2 : Nat) ≤ sizeLine; decide, fun T nT => go T2 [] _ (s5.new n2) (updN (ne_of_none hT1 n2) hT1) T nT⟩⟩
end Fw

set_option Elab.async false
set_option linter.all false
set_option maxRecDepth 100000
set_option maxHeartbeats 4000000
namespace K21
open PySem L2 RZ RT Fw
def top (i : Nat) : Stmt := PySem.Challenge.pw_fewasks_k21_next_of_long_chains.main.body.getD i (.Pass ⟨0, 0, 0, 0⟩)
abbrev FnP (K : PySem.W.Frag) (x : Str) (st : Stmt) (f : Addr) (fd : FuncData) : Prop := FunD K x x (defArgs st) (defBody st) (defScope st) [] [] f fd
abbrev s_with_lower : Stmt := top 4
theorem sc_with_lower : FnScope N_with_lower ["shape", "starts"] (defScope s_with_lower) := ⟨rfl, rfl, rfl, by decide +kernel, rfl, by decide +kernel, by decide +kernel⟩
abbrev s_lowest_lacking : Stmt := top 8
theorem sc_lowest_lacking : FnScope N_lowest_lacking ["shape", "answers"] (defScope s_lowest_lacking) := ⟨rfl, rfl, rfl, by decide +kernel, rfl, by decide +kernel, by decide +kernel⟩
abbrev s_refuse_contrary : Stmt := top 9
theorem sc_refuse_contrary : FnScope N_refuse_contrary ["yes", "lacking"] (defScope s_refuse_contrary) := ⟨rfl, rfl, rfl, by decide +kernel, rfl, by decide +kernel, by decide +kernel⟩
abbrev s_settled : Stmt := top 7
theorem sc_settled : FnScope N_settled ["shape", "answers"] (defScope s_settled) := ⟨rfl, rfl, rfl, by decide +kernel, rfl, by decide +kernel, by decide +kernel⟩
abbrev s_next_asks : Stmt := top 10
theorem sc_next_asks : FnScope N_next_asks ["shape", "cover", "answers", "few"] (defScope s_next_asks) := ⟨rfl, rfl, rfl, by decide +kernel, rfl, by decide +kernel, by decide +kernel⟩
abbrev s_l_deck : Stmt := top 12
theorem sc_l_deck : FnScope N_l_deck ["_law_script"] (defScope s_l_deck) := ⟨rfl, rfl, rfl, by decide +kernel, rfl, by decide +kernel, by decide +kernel⟩
abbrev s_l_mixed : Stmt := top 13
theorem sc_l_mixed : FnScope N_l_mixed ["_law_cell", "_law_turn"] (defScope s_l_mixed) := ⟨rfl, rfl, rfl, by decide +kernel, rfl, by decide +kernel, by decide +kernel⟩
abbrev s_l_draw : Stmt := top 14
theorem sc_l_draw : FnScope N_l_draw ["_law_deck_here", "_law_many"] (defScope s_l_draw) := ⟨rfl, rfl, rfl, by decide +kernel, rfl, by decide +kernel, by decide +kernel⟩
abbrev s_l_int : Stmt := top 15
theorem sc_l_int : FnScope N_l_int ["_law_thing"] (defScope s_l_int) := ⟨rfl, rfl, rfl, by decide +kernel, rfl, by decide +kernel, by decide +kernel⟩
abbrev s_l_same : Stmt := top 16
theorem sc_l_same : FnScope N_l_same ["_law_found", "_law_due"] (defScope s_l_same) := ⟨rfl, rfl, rfl, by decide +kernel, rfl, by decide +kernel, by decide +kernel⟩
abbrev s_l_long_shape : Stmt := top 17
theorem sc_l_long_shape : FnScope N_l_long_shape ["_law_deck_here", "_law_most"] (defScope s_l_long_shape) := ⟨rfl, rfl, rfl, by decide +kernel, rfl, by decide +kernel, by decide +kernel⟩
abbrev s_l_middles : Stmt := top 18
theorem sc_l_middles : FnScope N_l_middles ["_law_chains", "_law_left", "_law_wide"] (defScope s_l_middles) := ⟨rfl, rfl, rfl, by decide +kernel, rfl, by decide +kernel, by decide +kernel⟩
abbrev s_law : Stmt := top 19
theorem sc_law : FnScope N_law ["_law_script"] (defScope s_law) := ⟨rfl, rfl, rfl, by decide +kernel, rfl, by decide +kernel, by decide +kernel⟩
structure Tx (K : PySem.W.Frag) (mg : Str → Option Value) : Type where
  fd_with_lower : FuncData
  F_with_lower : FnP K "with_lower" s_with_lower (He.fAd K ("with_lower", none)) fd_with_lower
  g_with_lower : mg "with_lower" = some (.ref (He.fAd K ("with_lower", none)))
  fd_lowest_lacking : FuncData
  F_lowest_lacking : FnP K "lowest_lacking" s_lowest_lacking (He.fAd K ("lowest_lacking", none)) fd_lowest_lacking
  g_lowest_lacking : mg "lowest_lacking" = some (.ref (He.fAd K ("lowest_lacking", none)))
  fd_refuse_contrary : FuncData
  F_refuse_contrary : FnP K "refuse_contrary" s_refuse_contrary (He.fAd K ("refuse_contrary", none)) fd_refuse_contrary
  g_refuse_contrary : mg "refuse_contrary" = some (.ref (He.fAd K ("refuse_contrary", none)))
  fd_settled : FuncData
  F_settled : FnP K "settled" s_settled (He.fAd K ("settled", none)) fd_settled
  g_settled : mg "settled" = some (.ref (He.fAd K ("settled", none)))
  fd_next_asks : FuncData
  F_next_asks : FunD K "next_asks" "next_asks" (defArgs s_next_asks) (defBody s_next_asks) (defScope s_next_asks) [] [("few", V.int 4)] (He.fAd K ("next_asks", none)) fd_next_asks
  g_next_asks : mg "next_asks" = some (.ref (He.fAd K ("next_asks", none)))
  fd_l_deck : FuncData
  F_l_deck : FnP K "_law_deck" s_l_deck (He.fAd K ("_law_deck", none)) fd_l_deck
  g_l_deck : mg "_law_deck" = some (.ref (He.fAd K ("_law_deck", none)))
  fd_l_mixed : FuncData
  F_l_mixed : FnP K "_law_mixed" s_l_mixed (He.fAd K ("_law_mixed", none)) fd_l_mixed
  g_l_mixed : mg "_law_mixed" = some (.ref (He.fAd K ("_law_mixed", none)))
  fd_l_draw : FuncData
  F_l_draw : FnP K "_law_draw" s_l_draw (He.fAd K ("_law_draw", none)) fd_l_draw
  g_l_draw : mg "_law_draw" = some (.ref (He.fAd K ("_law_draw", none)))
  fd_l_int : FuncData
  F_l_int : FnP K "_law_int" s_l_int (He.fAd K ("_law_int", none)) fd_l_int
  g_l_int : mg "_law_int" = some (.ref (He.fAd K ("_law_int", none)))
  fd_l_same : FuncData
  F_l_same : FnP K "_law_same" s_l_same (He.fAd K ("_law_same", none)) fd_l_same
  g_l_same : mg "_law_same" = some (.ref (He.fAd K ("_law_same", none)))
  fd_l_long_shape : FuncData
  F_l_long_shape : FnP K "_law_long_shape" s_l_long_shape (He.fAd K ("_law_long_shape", none)) fd_l_long_shape
  g_l_long_shape : mg "_law_long_shape" = some (.ref (He.fAd K ("_law_long_shape", none)))
  fd_l_middles : FuncData
  F_l_middles : FnP K "_law_middles" s_l_middles (He.fAd K ("_law_middles", none)) fd_l_middles
  g_l_middles : mg "_law_middles" = some (.ref (He.fAd K ("_law_middles", none)))
  fd_law : FuncData
  F_law : FnP K "law" s_law (He.fAd K ("law", none)) fd_law
  z_bool : mg "bool" = none
  z_int : mg "int" = none
  z_isinstance : mg "isinstance" = none
  z_len : mg "len" = none
  z_list : mg "list" = none
  z_max : mg "max" = none
  z_min : mg "min" = none
  z_range : mg "range" = none
  z_reversed : mg "reversed" = none
  z_sorted : mg "sorted" = none
  z_str : mg "str" = none
  z_tuple : mg "tuple" = none
  c_FEW : ∃ t, mg "FEW" = some (.int 4 t)
section
variable {P : Program} {w : World} {K : PySem.W.Frag} {mg : Str → Option Value} {base : Heap}
theorem b_with_lower (T : Tx K mg) : Binds K T.fd_with_lower ["shape", "starts"] [] := T.F_with_lower.bindsN fun _ _ _ _ _ _ us hl => match us, hl with | [_, _], _ => rfl
theorem ok_with_lower (T : Tx K mg) : FnOk P w K mg base CX0 1 (He.fAd K ("with_lower", none)) T.fd_with_lower ["shape", "starts"] (sp_with_lower K) := by
  refine T.F_with_lower.ok sc_with_lower (fun vs H Q E h => len_with_lower h) (fun cdv A outer s H vs Q E hr h => ⟨t_with_lower K, PSs.nox ?_, pure_with_lower h⟩)
  exact (pss_cons (ps_setDc (i := 2) (own := [("version", 3)]) (g := (gName 3)) (tt := tYes) (tk := (tVar 3)) (tv := (tC (.bl true))) rfl sc_with_lower.nd rfl rfl (sw_dict rfl rfl rfl (by decide +kernel)) (pi_list (pv 1)) (blkOk_by (own := [("version", 3)]) (N := N_with_lower) (sc := defScope s_with_lower) (by decide +kernel)) (fun _ _ _ _ _ => (pg_name (i := 3) sc_with_lower.nd rfl (Or.inl rfl))) (fun _ _ _ _ _ => pts_nil) (fun _ _ _ _ _ => (pv 3)) (fun _ _ _ _ _ => pe_bl))
      (pss_cons (ps_for PassesOwn.never rfl (pi_revA (by rfl) T.z_reversed (pe_ix ix_seq (pv 0) pe_int (fun _ _ => rfl))) (pg_tup rfl (pgs_cons (pg_name (i := 4) sc_with_lower.nd rfl (Or.inl rfl)) (pgs_cons (pg_name (i := 5) sc_with_lower.nd rfl (Or.inl rfl)) pgs_nil))) (pss_one (ps_if (pt_cmp (pc_din (hu_of hr) (pv 4) (pv 2))) (pss_one (ps_dput (hu_of hr) (pv 2) (pv 5) pe_bl rfl)) pss_nil)))
      (pss_one (ps_ret (pv 2)))))
theorem b_lowest_lacking (T : Tx K mg) : Binds K T.fd_lowest_lacking ["shape", "answers"] [] := T.F_lowest_lacking.bindsN fun _ _ _ _ _ _ us hl => match us, hl with | [_, _], _ => rfl
theorem ok_lowest_lacking (T : Tx K mg) : FnOk P w K mg base CX0 1 (He.fAd K ("lowest_lacking", none)) T.fd_lowest_lacking ["shape", "answers"] (sp_lowest_lacking K) := by
  refine T.F_lowest_lacking.ok sc_lowest_lacking (fun vs H Q E h => len_lowest_lacking h) (fun cdv A outer s H vs Q E hr h => ⟨t_lowest_lacking K, PSs.nox ?_, pure_lowest_lacking h⟩)
  exact (pss_cons (ps_setDc (i := 2) (own := [("version", 3), ("truth", 4)]) (g := (gTup K 2 (gCons (gName 3) (gCons (gName 4) gNil)))) (tt := (tNot (tB (tVar 4)))) (tk := (tVar 3)) (tv := (tVar 3)) rfl sc_lowest_lacking.nd rfl rfl (sw_dict rfl rfl rfl (by decide +kernel)) (pi_tup (pv 1)) (blkOk_by (own := [("version", 3), ("truth", 4)]) (N := N_lowest_lacking) (sc := defScope s_lowest_lacking) (by decide +kernel)) (fun _ _ _ _ _ => (pg_tup rfl (pgs_cons (pg_name (i := 3) sc_lowest_lacking.nd rfl (Or.inl rfl)) (pgs_cons (pg_name (i := 4) sc_lowest_lacking.nd rfl (Or.inl rfl)) pgs_nil)))) (fun _ _ _ _ _ => (pts_one (pt_not (pt_val (pv 4))))) (fun _ _ _ _ _ => (pv 3)) (fun _ _ _ _ _ => (pv 3)))
      (pss_cons (ps_for PassesOwn.never rfl (pi_tup (pe_ix ix_seq (pv 0) pe_int (fun _ _ => rfl))) (pg_tup rfl (pgs_cons (pg_name (i := 5) sc_lowest_lacking.nd rfl (Or.inl rfl)) (pgs_cons (pg_name (i := 6) sc_lowest_lacking.nd rfl (Or.inl rfl)) pgs_nil))) (pss_one (ps_if (pt_cmp (pc_din (hu_of hr) (pv 6) (pv 2))) (pss_one (ps_dput (hu_of hr) (pv 2) (pv 5) (pe_callB (call_min2 rfl) (by rfl) T.z_min (by decide +kernel) (pa_cons (pe_dget (hu_of hr) (pv 2) (pv 6) (fun _ _ => rfl)) (pa_cons (pe_dget2 (hu_of hr) (pv 2) (pv 5) (pv 5) ⟨rfl, rfl, rfl, rfl⟩) pa_nil))) rfl)) pss_nil)))
      (pss_one (ps_ret (pv 2)))))
theorem b_refuse_contrary (T : Tx K mg) : Binds K T.fd_refuse_contrary ["yes", "lacking"] [] := T.F_refuse_contrary.bindsN fun _ _ _ _ _ _ us hl => match us, hl with | [_, _], _ => rfl
theorem ok_refuse_contrary (T : Tx K mg) : FnOk P w K mg base CX0 1 (He.fAd K ("refuse_contrary", none)) T.fd_refuse_contrary ["yes", "lacking"] (sp_refuse_contrary K) := by
  refine T.F_refuse_contrary.ok sc_refuse_contrary (fun vs H Q E h => len_refuse_contrary h) (fun cdv A outer s H vs Q E hr h => ⟨t_refuse_contrary K, PSs.nox ?_, pure_refuse_contrary h⟩)
  exact (pss_one (ps_for PassesOwn.never rfl (pi_list (pe_callB cr_sortedI (by rfl) T.z_sorted (by decide +kernel) (pa_cons (pv 0) pa_nil))) (pg_name (i := 2) sc_refuse_contrary.nd rfl (Or.inl rfl)) (pss_one (ps_if (pt_cmp (pc_din (hu_of hr) (pv 2) (pv 1))) (pss_one ps_never) pss_nil))))
theorem b_settled (T : Tx K mg) : Binds K T.fd_settled ["shape", "answers"] [] := T.F_settled.bindsN fun _ _ _ _ _ _ us hl => match us, hl with | [_, _], _ => rfl
theorem ok_settled (T : Tx K mg) : FnOk P w K mg base CX0 2 (He.fAd K ("settled", none)) T.fd_settled ["shape", "answers"] (sp_settled K) := by
  refine T.F_settled.ok sc_settled (fun vs H Q E h => len_settled h) (fun cdv A outer s H vs Q E hr h => ⟨t_settled K, PSs.nox ?_, pure_settled h⟩)
  exact (pss_cons (ps_set (i := 2) sc_settled.nd rfl (Or.inr rfl) (pe_call (ok_lowest_lacking T) (hr.mono (by decide)) (by rfl) T.g_lowest_lacking T.F_lowest_lacking.kp (b_lowest_lacking T) .nil pass0 (pa_cons (pv 0) (pa_cons (pv 1) pa_nil))))
      (pss_cons (ps_setLc (i := 3) (own := [("version", 4), ("truth", 5)]) (g := (gTup K 2 (gCons (gName 4) (gCons (gName 5) gNil)))) (tt := (tB (tVar 5))) (te := (tVar 4)) rfl sc_settled.nd rfl rfl (sw_true rfl rfl rfl (by decide +kernel)) (pi_tup (pv 1)) (blkOk_by (own := [("version", 4), ("truth", 5)]) (N := N_settled) (sc := defScope s_settled) (by decide +kernel)) (fun _ _ _ _ _ => (pg_tup rfl (pgs_cons (pg_name (i := 4) sc_settled.nd rfl (Or.inl rfl)) (pgs_cons (pg_name (i := 5) sc_settled.nd rfl (Or.inl rfl)) pgs_nil)))) (fun _ _ _ _ _ => (pts_one (pt_val (pv 5)))) (fun _ _ _ _ _ => (pv 4)))
      (pss_cons (ps_expr (pe_call (ok_refuse_contrary T) (hr.mono (by decide)) (by rfl) T.g_refuse_contrary T.F_refuse_contrary.kp (b_refuse_contrary T) .nil pass0 (pa_cons (pv 3) (pa_cons (pv 2) pa_nil))))
      (pss_cons (ps_set (i := 6) sc_settled.nd rfl (Or.inr rfl) (pe_call (ok_with_lower T) (hr.mono (by decide)) (by rfl) T.g_with_lower T.F_with_lower.kp (b_with_lower T) .nil pass0 (pa_cons (pv 0) (pa_cons (pv 3) pa_nil))))
      (pss_cons (ps_setLc (i := 7) (own := [("version", 4)]) (g := (gName 4)) (tt := (tB (tDIn (tVar 4) (tVar 6)))) (te := (tVar 4)) rfl sc_settled.nd rfl rfl (sw_true rfl rfl rfl (by decide +kernel)) (pi_tup (pe_ix ix_seq (pv 0) pe_int (fun _ _ => rfl))) (blkOk_by (own := [("version", 4)]) (N := N_settled) (sc := defScope s_settled) (by decide +kernel)) (fun _ _ _ _ _ => (pg_name (i := 4) sc_settled.nd rfl (Or.inl rfl))) (fun _ _ _ _ _ => (pts_one (pt_cmp (pc_din (hu_of hr) (pv 4) (pv 6))))) (fun _ _ _ _ _ => (pv 4)))
      (pss_cons (ps_setLc (i := 8) (own := [("version", 4)]) (g := (gName 4)) (tt := (tB (tDIn (tVar 4) (tVar 2)))) (te := (tVar 4)) rfl sc_settled.nd rfl rfl (sw_true rfl rfl rfl (by decide +kernel)) (pi_tup (pe_ix ix_seq (pv 0) pe_int (fun _ _ => rfl))) (blkOk_by (own := [("version", 4)]) (N := N_settled) (sc := defScope s_settled) (by decide +kernel)) (fun _ _ _ _ _ => (pg_name (i := 4) sc_settled.nd rfl (Or.inl rfl))) (fun _ _ _ _ _ => (pts_one (pt_cmp (pc_din (hu_of hr) (pv 4) (pv 2))))) (fun _ _ _ _ _ => (pv 4)))
      (pss_cons (ps_setLc (i := 9) (own := [("version", 4)]) (g := (gName 4)) (tt := (tAnd (tB (tDNotIn (tVar 4) (tVar 6))) (tB (tDNotIn (tVar 4) (tVar 2))))) (te := (tVar 4)) rfl sc_settled.nd rfl rfl (sw_true rfl rfl rfl (by decide +kernel)) (pi_tup (pe_ix ix_seq (pv 0) pe_int (fun _ _ => rfl))) (blkOk_by (own := [("version", 4)]) (N := N_settled) (sc := defScope s_settled) (by decide +kernel)) (fun _ _ _ _ _ => (pg_name (i := 4) sc_settled.nd rfl (Or.inl rfl))) (fun _ _ _ _ _ => (pts_one (PW.pt (pw_and (pt_cmp (pc_dnotin (hu_of hr) (pv 4) (pv 6))) (pw_and1 (pt_cmp (pc_dnotin (hu_of hr) (pv 4) (pv 2)))))))) (fun _ _ _ _ _ => (pv 4)))
      (pss_one (ps_ret (pe_tup (pa_cons (pe_callTy call_tuple_of (by rfl) T.z_tuple (by decide +kernel) (pa_cons (pv 7) pa_nil)) (pa_cons (pe_callTy call_tuple_of (by rfl) T.z_tuple (by decide +kernel) (pa_cons (pv 8) pa_nil)) (pa_cons (pe_callTy call_tuple_of (by rfl) T.z_tuple (by decide +kernel) (pa_cons (pv 9) pa_nil)) pa_nil)))))))))))))
theorem b_next_asks (T : Tx K mg) : ∃ ds, Vals [V.int 4] ds ∧ Binds K T.fd_next_asks ["shape", "cover", "answers", "few"] ds := T.F_next_asks.binds0 3 (by simp) rfl fun _ _ _ _ _ _ us ks hu hk => match us, ks, hu, hk with | [_, _, _], [_], _, _ => ⟨_, _, _, _, _, _, rfl, rfl, rfl⟩
theorem kb_next_asks_few (T : Tx K mg) : ∃ mv : List Value, KBn K T.fd_next_asks ["shape", "cover", "answers", "few"] 3 ["few"] (fun us ws => us ++ ((ws.drop 0).take 1)) (fun us ws => (fun mv : List V => us ++ ((ws.drop 0).take 1)) []) :=
  T.F_next_asks.kbinds0 3 ["few"] [] (fun us mv ws => us ++ ((ws.drop 0).take 1)) (by simp) (by simp) (fun r1 r2 r3 => r1.append ((r3.drop 0).take 1)) fun _ _ _ _ _ _ us mv ws hu hm hw => match us, mv, ws, hu, hm, hw with | [_, _, _], [], [_], _, _, _ => rfl
theorem ok_next_asks (T : Tx K mg) : FnOk P w K mg base CX0 3 (He.fAd K ("next_asks", none)) T.fd_next_asks ["shape", "cover", "answers", "few"] (sp_next_asks K) := by
  refine T.F_next_asks.ok sc_next_asks (fun vs H Q E h => len_next_asks h) (fun cdv A outer s H vs Q E hr h => ⟨t_next_asks K, PSs.nox ?_, pure_next_asks h⟩)
  exact (pss_cons (ps_set (i := 4) sc_next_asks.nd rfl (Or.inr rfl) (pe_dc (own := [("version", 5)]) (g := (gName 5)) (tt := tYes) (tk := (tVar 5)) (tv := (tC (.bl true))) rfl sc_next_asks.nd (pi_tup (pe_ix ix_seq (pe_call (ok_settled T) (hr.mono (by decide)) (by rfl) T.g_settled T.F_settled.kp (b_settled T) .nil pass0 (pa_cons (pv 0) (pa_cons (pv 2) pa_nil))) pe_int (fun _ _ => rfl))) (blkOk_by (own := [("version", 5)]) (N := N_next_asks) (sc := defScope s_next_asks) (by decide +kernel)) (fun _ _ _ _ _ => (pg_name (i := 5) sc_next_asks.nd rfl (Or.inl rfl))) (fun _ _ _ _ _ => pts_nil) (fun _ _ _ _ _ => (pv 5)) (fun _ _ _ _ _ => pe_bl)))
      (pss_cons (ps_set (i := 6) sc_next_asks.nd rfl (Or.inl rfl) (pe_lst pa_nil))
      (pss_cons (ps_for PassesOwn.never rfl (pi_tup (pe_ix ix_seq (pv 1) pe_int (fun _ _ => rfl))) (pg_name (i := 7) sc_next_asks.nd rfl (Or.inl rfl)) (pss_cons (ps_setLc (i := 8) (own := [("version", 5)]) (g := (gName 5)) (tt := (tB (tDIn (tVar 5) (tVar 4)))) (te := (tVar 5)) rfl sc_next_asks.nd rfl rfl (sw_true rfl rfl rfl (by decide +kernel)) (pi_tup (pv 7)) (blkOk_by (own := [("version", 5)]) (N := N_next_asks) (sc := defScope s_next_asks) (by decide +kernel)) (fun _ _ _ _ _ => (pg_name (i := 5) sc_next_asks.nd rfl (Or.inl rfl))) (fun _ _ _ _ _ => (pts_one (pt_cmp (pc_din (hu_of hr) (pv 5) (pv 4))))) (fun _ _ _ _ _ => (pv 5)))
      (pss_one (ps_if (pt_truth (pv 8) (by intro _; rfl)) (pss_one (ps_expr (pe_bm PySem.F.plainAttrs_list PySem.F.slot_list_append PySem.F.type_list_append mt_append (pv 6) (pa_cons (pe_ix ix_seq (pv 8) (pe_op op_fdivW (pe_callB call_len (by rfl) T.z_len PySem.boot_len (pa_cons (pv 8) pa_nil)) pe_int) (fun _ _ => rfl)) pa_nil)))) pss_nil))))
      (pss_one (ps_ret (pe_callTy call_tuple_of (by rfl) T.z_tuple (by decide +kernel) (pa_cons (pe_slice sl_list (pv 6) po_none (po_some (pv 3))) pa_nil)))))))
theorem b_l_deck (T : Tx K mg) : Binds K T.fd_l_deck ["_law_script"] [] := T.F_l_deck.bindsN fun _ _ _ _ _ _ us hl => match us, hl with | [_], _ => rfl
theorem ok_l_deck (T : Tx K mg) : FnOk P w K mg base CX0 1 (He.fAd K ("_law_deck", none)) T.fd_l_deck ["_law_script"] (sp_l_deck K) := by
  refine T.F_l_deck.ok sc_l_deck (fun vs H Q E h => len_l_deck h) (fun cdv A outer s H vs Q E hr h => ⟨t_l_deck K, PSs.nox ?_, pure_l_deck h⟩)
  exact (pss_one (ps_ret (pe_lst (pa_cons (pe_callTy call_list_of (by rfl) T.z_list (by decide +kernel) (pa_cons (pv 0) pa_nil)) (pa_cons pe_int (pa_cons pe_int (pa_cons pe_int pa_nil)))))))
theorem b_l_mixed (T : Tx K mg) : Binds K T.fd_l_mixed ["_law_cell", "_law_turn"] [] := T.F_l_mixed.bindsN fun _ _ _ _ _ _ us hl => match us, hl with | [_, _], _ => rfl
theorem ok_l_mixed (T : Tx K mg) : FnOk P w K mg base CX0 1 (He.fAd K ("_law_mixed", none)) T.fd_l_mixed ["_law_cell", "_law_turn"] (sp_l_mixed K) := by
  refine T.F_l_mixed.ok sc_l_mixed (fun vs H Q E h => len_l_mixed h) (fun cdv A outer s H vs Q E hr h => ⟨t_l_mixed K, PSs.nox ?_, pure_l_mixed h⟩)
  exact (pss_one (ps_ret (pe_op op_mod (pe_op op_pow (pe_op op_add (pe_op op_add (pe_op op_mod (pv 0) pe_int) (pe_op op_mul (pv 1) pe_int)) pe_int) pe_int) pe_int)))
theorem b_l_draw (T : Tx K mg) : Binds K T.fd_l_draw ["_law_deck_here", "_law_many"] [] := T.F_l_draw.bindsN fun _ _ _ _ _ _ us hl => match us, hl with | [_, _], _ => rfl
theorem ok_l_draw (T : Tx K mg) : FnOk P w K mg base CX0 2 (He.fAd K ("_law_draw", none)) T.fd_l_draw ["_law_deck_here", "_law_many"] (sp_l_draw K) := by
  refine T.F_l_draw.ok sc_l_draw (fun vs H Q E h => len_l_draw h) (fun cdv A outer s H vs Q E hr h => ⟨t_l_draw K, PSs.nox ?_, pure_l_draw h⟩)
  exact (pss_cons (ps_set (i := 2) sc_l_draw.nd rfl (Or.inl rfl) (pe_ix ix_seq (pv 0) pe_int (fun _ _ => rfl)))
      (pss_cons (ps_asg (pe_op op_add (pe_ix ix_seq (pv 0) pe_int (fun _ _ => rfl)) pe_int) (pg_sub (pv 0) pe_int set_list))
      (pss_cons (ps_if (PW.pt (pw_and (pt_cmpR op_eq (pe_ix ix_seq (pv 0) pe_int (fun _ _ => rfl)) pe_int (nomark _)) (pw_and1 (pt_cmpR op_lt (pe_ix ix_seq (pv 0) pe_int (fun _ _ => rfl)) (pe_callB call_len (by rfl) T.z_len PySem.boot_len (pa_cons (pv 2) pa_nil)) (nomark _))))) (pss_cons (ps_asg (pe_op op_add (pe_ix ix_seq (pv 0) pe_int (fun _ _ => rfl)) pe_int) (pg_sub (pv 0) pe_int set_list))
      (pss_cons (ps_if (pt_cmpR op_lt (pe_ix ix_seq (pv 2) (pe_op op_sub (pe_ix ix_seq (pv 0) pe_int (fun _ _ => rfl)) pe_int) (fun _ _ => rfl)) (pe_op op_pow pe_int pe_int) (nomark _)) (pss_one (ps_ret (pe_op op_mod (pe_call (ok_l_mixed T) (hr.mono (by decide)) (by rfl) T.g_l_mixed T.F_l_mixed.kp (b_l_mixed T) .nil pass0 (pa_cons (pe_ix ix_seq (pv 2) (pe_op op_sub (pe_ix ix_seq (pv 0) pe_int (fun _ _ => rfl)) pe_int) (fun _ _ => rfl)) (pa_cons (pe_ix ix_seq (pv 0) pe_int (fun _ _ => rfl)) pa_nil))) (pv 1)))) pss_nil)
      (pss_one (ps_asg (pe_ix ix_seq (pv 2) (pe_op op_sub (pe_ix ix_seq (pv 0) pe_int (fun _ _ => rfl)) pe_int) (fun _ _ => rfl)) (pg_sub (pv 0) pe_int set_list))))) pss_nil)
      (pss_cons (ps_if (pt_cmpR op_gt (pe_ix ix_seq (pv 0) pe_int (fun _ _ => rfl)) pe_int (nomark _)) (pss_cons (ps_set (i := 3) sc_l_draw.nd rfl (Or.inl rfl) (pe_op op_mod (pe_ix ix_seq (pv 0) pe_int (fun _ _ => rfl)) (pv 1)))
      (pss_cons (ps_asg (pe_op op_fdivW (pe_ix ix_seq (pv 0) pe_int (fun _ _ => rfl)) (pv 1)) (pg_sub (pv 0) pe_int set_list))
      (pss_one (ps_ret (pv 3))))) pss_nil)
      (pss_cons (ps_set (i := 4) sc_l_draw.nd rfl (Or.inl rfl) (pe_op op_mul (pe_ix ix_seq (pv 0) pe_int (fun _ _ => rfl)) pe_int))
      (pss_cons (ps_if (pt_cmpR op_gt (pe_callB call_len (by rfl) T.z_len PySem.boot_len (pa_cons (pv 2) pa_nil)) pe_int (nomark _)) (pss_one (ps_set (i := 4) sc_l_draw.nd rfl (Or.inl rfl) (pe_op op_add (pv 4) (pe_op op_mod (pe_ix ix_seq (pv 2) (pe_op op_mod (pe_op op_mul (pe_ix ix_seq (pv 0) pe_int (fun _ _ => rfl)) pe_int) (pe_callB call_len (by rfl) T.z_len PySem.boot_len (pa_cons (pv 2) pa_nil))) (fun _ _ => rfl)) pe_int)))) pss_nil)
      (pss_one (ps_ret (pe_op op_mod (pe_call (ok_l_mixed T) (hr.mono (by decide)) (by rfl) T.g_l_mixed T.F_l_mixed.kp (b_l_mixed T) .nil pass0 (pa_cons (pv 4) (pa_cons (pe_ix ix_seq (pv 0) pe_int (fun _ _ => rfl)) pa_nil))) (pv 1))))))))))
theorem b_l_int (T : Tx K mg) : Binds K T.fd_l_int ["_law_thing"] [] := T.F_l_int.bindsN fun _ _ _ _ _ _ us hl => match us, hl with | [_], _ => rfl
theorem ok_l_int (T : Tx K mg) : FnOk P w K mg base CX0 1 (He.fAd K ("_law_int", none)) T.fd_l_int ["_law_thing"] (sp_l_int K) := by
  refine T.F_l_int.ok sc_l_int (fun vs H Q E h => len_l_int h) (fun cdv A outer s H vs Q E hr h => ⟨t_l_int K, PSs.nox ?_, pure_l_int h⟩)
  exact (pss_one (ps_ret (pe_and (pe_callB call_isi (by rfl) T.z_isinstance (by decide +kernel) (pa_cons (pv 0) (pa_cons (pe_bltn (v := .ty "int") (by rfl) T.z_int (by decide +kernel) rfl) pa_nil))) (pe_one (pe_not (pe_callB call_isi (by rfl) T.z_isinstance (by decide +kernel) (pa_cons (pv 0) (pa_cons (pe_bltn (v := .ty "bool") (by rfl) T.z_bool (by decide +kernel) rfl) pa_nil))))))))
theorem b_l_same (T : Tx K mg) : Binds K T.fd_l_same ["_law_found", "_law_due"] [] := T.F_l_same.bindsN fun _ _ _ _ _ _ us hl => match us, hl with | [_, _], _ => rfl
theorem ok_sameN (T : Tx K mg) : ∀ n : Nat, FnOk P w K mg base CX0 (n + 2) (He.fAd K ("_law_same", none)) T.fd_l_same ["_law_found", "_law_due"] (sp_sameN K n)
  | 0 => T.F_l_same.ok sc_l_same (fun vs H Q E h => len_sameN h) (fun cdv A outer s H vs Q E hr h => by
      obtain ⟨_, _, _, h, _⟩ := h
      exact h.elim)
  | n + 1 => by
    have G : FnOk P w K mg base CX0 (n + 2) (He.fAd K ("_law_same", none)) T.fd_l_same ["_law_found", "_law_due"] (sp_sameN K n) := ok_sameN T n
    refine T.F_l_same.ok sc_l_same (fun vs H Q E h => len_sameN h) (fun cdv A outer s H vs Q E hr h => ⟨t_l_same K n, PSs.nox ?_, pure_l_same h⟩)
    exact (pss_cons (ps_if (PW.pt (pw_or (pt_val (pe_callB call_isi (by rfl) T.z_isinstance (by decide +kernel) (pa_cons (pv 1) (pa_cons (pe_bltn (v := .ty "tuple") (by rfl) T.z_tuple (by decide +kernel) rfl) pa_nil)))) (pw_or1 (pt_val (pe_callB call_isi (by rfl) T.z_isinstance (by decide +kernel) (pa_cons (pv 1) (pa_cons (pe_bltn (v := .ty "list") (by rfl) T.z_list (by decide +kernel) rfl) pa_nil))))))) (pss_cons (ps_if (PW.pt (pw_or (pt_cmpR op_ne (pe_callB call_isi (by rfl) T.z_isinstance (by decide +kernel) (pa_cons (pv 1) (pa_cons (pe_bltn (v := .ty "tuple") (by rfl) T.z_tuple (by decide +kernel) rfl) pa_nil))) (pe_callB call_isi (by rfl) T.z_isinstance (by decide +kernel) (pa_cons (pv 0) (pa_cons (pe_bltn (v := .ty "tuple") (by rfl) T.z_tuple (by decide +kernel) rfl) pa_nil))) (nomark _)) (pw_or1 (pt_cmpR op_ne (pe_callB call_isi (by rfl) T.z_isinstance (by decide +kernel) (pa_cons (pv 1) (pa_cons (pe_bltn (v := .ty "list") (by rfl) T.z_list (by decide +kernel) rfl) pa_nil))) (pe_callB call_isi (by rfl) T.z_isinstance (by decide +kernel) (pa_cons (pv 0) (pa_cons (pe_bltn (v := .ty "list") (by rfl) T.z_list (by decide +kernel) rfl) pa_nil))) (nomark _))))) (pss_one (ps_ret pe_bl)) pss_nil)
      (pss_cons (ps_if (pt_cmpR op_ne (pe_callB call_len (by rfl) T.z_len PySem.boot_len (pa_cons (pv 0) pa_nil)) (pe_callB call_len (by rfl) T.z_len PySem.boot_len (pa_cons (pv 1) pa_nil)) (nomark _)) (pss_one (ps_ret pe_bl)) pss_nil)
      (pss_cons (ps_for PassesOwn.never rfl (pi_range1 (by rfl) T.z_range (pa_cons (pe_callB call_len (by rfl) T.z_len PySem.boot_len (pa_cons (pv 1) pa_nil)) pa_nil)) (pg_name (i := 2) sc_l_same.nd rfl (Or.inl rfl)) (pss_one (ps_if (pt_not (pt_val (pe_call G hr (by rfl) T.g_l_same T.F_l_same.kp (b_l_same T) .nil pass0 (pa_cons (pe_ix ix_seq (pv 0) (pv 2) (fun _ _ => rfl)) (pa_cons (pe_ix ix_seq (pv 1) (pv 2) (fun _ _ => rfl)) pa_nil))))) (pss_one (ps_ret pe_bl)) pss_nil)))
      (pss_one (ps_ret pe_bl))))) pss_nil)
      (pss_cons (ps_if (pt_val (pe_callB call_isi (by rfl) T.z_isinstance (by decide +kernel) (pa_cons (pv 1) (pa_cons (pe_bltn (v := .ty "bool") (by rfl) T.z_bool (by decide +kernel) rfl) pa_nil)))) (pss_one (ps_ret (pe_and (pe_callB call_isi (by rfl) T.z_isinstance (by decide +kernel) (pa_cons (pv 0) (pa_cons (pe_bltn (v := .ty "bool") (by rfl) T.z_bool (by decide +kernel) rfl) pa_nil))) (pe_one (pe_cmpR op_eq (pv 0) (pv 1) (nomark _)))))) pss_nil)
      (pss_cons (ps_if (pt_val (pe_callB call_isi (by rfl) T.z_isinstance (by decide +kernel) (pa_cons (pv 1) (pa_cons (pe_bltn (v := .ty "int") (by rfl) T.z_int (by decide +kernel) rfl) pa_nil)))) (pss_one (ps_ret (pe_and (pe_call (ok_l_int T) (hr.mono (by omega)) (by rfl) T.g_l_int T.F_l_int.kp (b_l_int T) .nil pass0 (pa_cons (pv 0) pa_nil)) (pe_one (pe_cmpR op_eq (pv 0) (pv 1) (nomark _)))))) pss_nil)
      (pss_cons (ps_if (pt_val (pe_callB call_isi (by rfl) T.z_isinstance (by decide +kernel) (pa_cons (pv 1) (pa_cons (pe_bltn (v := .ty "str") (by rfl) T.z_str (by decide +kernel) rfl) pa_nil)))) (pss_one (ps_ret (pe_and (pe_callB call_isi (by rfl) T.z_isinstance (by decide +kernel) (pa_cons (pv 0) (pa_cons (pe_bltn (v := .ty "str") (by rfl) T.z_str (by decide +kernel) rfl) pa_nil))) (pe_one (pe_cmpR op_eq (pv 0) (pv 1) (nomark _)))))) pss_nil)
      (pss_one (ps_ret (pe_and (pe_cmpR op_isN (pv 1) pe_non (nomark _)) (pe_one (pe_cmpR op_isN (pv 0) pe_non (nomark _))))))))))
theorem ok_l_same (T : Tx K mg) : FnOk P w K mg base CX0 8 (He.fAd K ("_law_same", none)) T.fd_l_same ["_law_found", "_law_due"] (sp_l_same K) := ok_sameN T 6
theorem b_l_long_shape (T : Tx K mg) : Binds K T.fd_l_long_shape ["_law_deck_here", "_law_most"] [] := T.F_l_long_shape.bindsN fun _ _ _ _ _ _ us hl => match us, hl with | [_, _], _ => rfl
theorem ok_l_long_shape (T : Tx K mg) : FnOk P w K mg base CX0 3 (He.fAd K ("_law_long_shape", none)) T.fd_l_long_shape ["_law_deck_here", "_law_most"] (sp_l_long_shape K) := by
  refine T.F_l_long_shape.ok sc_l_long_shape (fun vs H Q E h => len_l_long_shape h) (fun cdv A outer s H vs Q E hr h => ⟨t_l_long_shape K, PSs.nox ?_, pure_l_long_shape h⟩)
  exact (pss_cons (ps_set (i := 2) sc_l_long_shape.nd rfl (Or.inr rfl) (pe_call (ok_l_draw T) (hr.mono (by decide)) (by rfl) T.g_l_draw T.F_l_draw.kp (b_l_draw T) .nil pass0 (pa_cons (pv 0) (pa_cons (pe_op op_pow pe_int pe_int) pa_nil))))
      (pss_cons (ps_set (i := 3) sc_l_long_shape.nd rfl (Or.inr rfl) (pe_op op_add pe_int (pe_call (ok_l_draw T) (hr.mono (by decide)) (by rfl) T.g_l_draw T.F_l_draw.kp (b_l_draw T) .nil pass0 (pa_cons (pv 0) (pa_cons pe_int pa_nil)))))
      (pss_cons (ps_set (i := 4) sc_l_long_shape.nd rfl (Or.inr rfl) (pe_op op_add pe_int (pe_call (ok_l_draw T) (hr.mono (by decide)) (by rfl) T.g_l_draw T.F_l_draw.kp (b_l_draw T) .nil pass0 (pa_cons (pv 0) (pa_cons pe_int pa_nil)))))
      (pss_cons (ps_set (i := 5) sc_l_long_shape.nd rfl (Or.inl rfl) (pe_call (ok_l_draw T) (hr.mono (by decide)) (by rfl) T.g_l_draw T.F_l_draw.kp (b_l_draw T) .nil pass0 (pa_cons (pv 0) (pa_cons (pe_op op_add (pv 1) pe_int) pa_nil))))
      (pss_cons (ps_set (i := 6) sc_l_long_shape.nd rfl (Or.inr rfl) (pe_lc (own := [("_law_k", 7)]) (g := (gName 7)) (tt := tYes) (te := (tOp rAddI (tVar 2) (tOp rMulI (tVar 3) (tVar 7)))) rfl sc_l_long_shape.nd (pi_range1 (by rfl) T.z_range (pa_cons (pv 5) pa_nil)) (blkOk_by (own := [("_law_k", 7)]) (N := N_l_long_shape) (sc := defScope s_l_long_shape) (by decide +kernel)) (fun _ _ _ _ _ => (pg_name (i := 7) sc_l_long_shape.nd rfl (Or.inl rfl))) (fun _ _ _ _ _ => pts_nil) (fun _ _ _ _ _ => (pe_op op_add (pv 2) (pe_op op_mul (pv 3) (pv 7))))))
      (pss_cons (ps_setLc (i := 8) (own := [("_law_k", 7)]) (g := (gName 7)) (tt := tYes) (te := (tTup (tCons (tOp (rIx K) (tVar 6) (tVar 7)) (tCons (tOp (rIx K) (tVar 6) (tOp rSubI (tVar 7) (tVar 4))) tNil)))) rfl sc_l_long_shape.nd rfl rfl (sw_true rfl rfl rfl (by decide +kernel)) (pi_range2 (by rfl) T.z_range (pa_cons (pv 4) (pa_cons (pv 5) pa_nil))) (blkOk_by (own := [("_law_k", 7)]) (N := N_l_long_shape) (sc := defScope s_l_long_shape) (by decide +kernel)) (fun _ _ _ _ _ => (pg_name (i := 7) sc_l_long_shape.nd rfl (Or.inl rfl))) (fun _ _ _ _ _ => pts_nil) (fun _ _ _ _ _ => (pe_tup (pa_cons (pe_ix ix_seq (pv 6) (pv 7) (fun _ _ => rfl)) (pa_cons (pe_ix ix_seq (pv 6) (pe_op op_sub (pv 7) (pv 4)) (fun _ _ => rfl)) pa_nil)))))
      (pss_one (ps_ret (pe_tup (pa_cons (pe_callTy call_tuple_of (by rfl) T.z_tuple (by decide +kernel) (pa_cons (pv 6) pa_nil)) (pa_cons (pe_callTy call_tuple_of (by rfl) T.z_tuple (by decide +kernel) (pa_cons (pv 8) pa_nil)) (pa_cons (pv 4) pa_nil))))))))))))
theorem b_l_middles (T : Tx K mg) : Binds K T.fd_l_middles ["_law_chains", "_law_left", "_law_wide"] [] := T.F_l_middles.bindsN fun _ _ _ _ _ _ us hl => match us, hl with | [_, _, _], _ => rfl
theorem ok_l_middles (T : Tx K mg) : FnOk P w K mg base CX0 1 (He.fAd K ("_law_middles", none)) T.fd_l_middles ["_law_chains", "_law_left", "_law_wide"] (sp_l_middles K) := by
  refine T.F_l_middles.ok sc_l_middles (fun vs H Q E h => len_l_middles h) (fun cdv A outer s H vs Q E hr h => ⟨t_l_middles K, PSs.nox ?_, pure_l_middles h⟩)
  exact (pss_cons (ps_set (i := 3) sc_l_middles.nd rfl (Or.inl rfl) (pe_lst pa_nil))
      (pss_cons (ps_for PassesOwn.never rfl (pi_list (pv 0)) (pg_name (i := 4) sc_l_middles.nd rfl (Or.inl rfl)) (pss_cons (ps_setLc (i := 5) (own := [("_law_version", 6)]) (g := (gName 6)) (tt := (tTest (tOp (rIn K false) (tVar 6) (tVar 1)))) (te := (tVar 6)) rfl sc_l_middles.nd rfl rfl (sw_true rfl rfl rfl (by decide +kernel)) (pi_tup (pv 4)) (blkOk_by (own := [("_law_version", 6)]) (N := N_l_middles) (sc := defScope s_l_middles) (by decide +kernel)) (fun _ _ _ _ _ => (pg_name (i := 6) sc_l_middles.nd rfl (Or.inl rfl))) (fun _ _ _ _ _ => (pts_one (pt_cmpR op_in_seq (pv 6) (pv 1) (by rfl)))) (fun _ _ _ _ _ => (pv 6)))
      (pss_one (ps_if (PW.pt (pw_and (pt_cmpR op_gt (pe_callB call_len (by rfl) T.z_len PySem.boot_len (pa_cons (pv 5) pa_nil)) pe_int (nomark _)) (pw_and1 (pt_cmpR op_lt (pe_callB call_len (by rfl) T.z_len PySem.boot_len (pa_cons (pv 3) pa_nil)) (pv 2) (nomark _))))) (pss_one (ps_expr (pe_bm PySem.F.plainAttrs_list PySem.F.slot_list_append PySem.F.type_list_append mt_append (pv 3) (pa_cons (pe_ix ix_seq (pv 5) (pe_op op_fdivW (pe_callB call_len (by rfl) T.z_len PySem.boot_len (pa_cons (pv 5) pa_nil)) pe_int) (fun _ _ => rfl)) pa_nil)))) pss_nil))))
      (pss_one (ps_ret (pe_callTy call_tuple_of (by rfl) T.z_tuple (by decide +kernel) (pa_cons (pv 3) pa_nil))))))
theorem b_law (T : Tx K mg) : Binds K T.fd_law ["_law_script"] [] := T.F_law.bindsN fun _ _ _ _ _ _ us hl => match us, hl with | [_], _ => rfl
theorem ok_law (T : Tx K mg) : FnOk P w K mg base CX0 9 (He.fAd K ("law", none)) T.fd_law ["_law_script"] (sp_law K) := by
  refine T.F_law.ok sc_law (fun vs H Q E h => len_law h) (fun cdv A outer s H vs Q E hr h => ⟨t_law K, PSs.nox ?_, pure_law h⟩)
  exact (pss_cons (ps_set (i := 1) sc_law.nd rfl (Or.inl rfl) (pe_call (ok_l_deck T) (hr.mono (by decide)) (by rfl) T.g_l_deck T.F_l_deck.kp (b_l_deck T) .nil pass0 (pa_cons (pv 0) pa_nil)))
      (pss_cons (ps_set (i := 2) sc_law.nd rfl (Or.inl rfl) (pe_call (ok_l_long_shape T) (hr.mono (by decide)) (by rfl) T.g_l_long_shape T.F_l_long_shape.kp (b_l_long_shape T) .nil pass0 (pa_cons (pv 1) (pa_cons pe_int pa_nil))))
      (pss_cons (ps_set (i := 3) sc_law.nd rfl (Or.inl rfl) (pe_tup (pa_cons (pe_ix ix_seq (pv 2) pe_int (fun _ _ => rfl)) (pa_cons (pe_ix ix_seq (pv 2) pe_int (fun _ _ => rfl)) pa_nil))))
      (pss_cons (ps_set (i := 4) sc_law.nd rfl (Or.inl rfl) (pe_ix ix_seq (pv 2) pe_int (fun _ _ => rfl)))
      (pss_cons (ps_set (i := 5) sc_law.nd rfl (Or.inl rfl) (pe_lst pa_nil))
      (pss_cons (ps_set (i := 6) sc_law.nd rfl (Or.inl rfl) (pe_lst pa_nil))
      (pss_cons (ps_set (i := 7) sc_law.nd rfl (Or.inl rfl) (pe_lst pa_nil))
      (pss_cons (ps_for PassesOwn.never rfl (pi_range1 (by rfl) T.z_range (pa_cons (pe_callB (call_min2 rfl) (by rfl) T.z_min (by decide +kernel) (pa_cons (pv 4) (pa_cons (pe_callB call_len (by rfl) T.z_len PySem.boot_len (pa_cons (pe_ix ix_seq (pv 3) pe_int (fun _ _ => rfl)) pa_nil)) pa_nil))) pa_nil)) (pg_name (i := 8) sc_law.nd rfl (Or.inl rfl)) (pss_cons (ps_set (i := 9) sc_law.nd rfl (Or.inl rfl) (pe_stepT (pe_ix ix_seq (pv 3) pe_int (fun _ _ => rfl)) (po_some (pv 8)) (po_some (pv 4))))
      (pss_cons (ps_expr (pe_bm PySem.F.plainAttrs_list PySem.F.slot_list_append PySem.F.type_list_append mt_append (pv 5) (pa_cons (pv 9) pa_nil)))
      (pss_cons (ps_set (i := 10) sc_law.nd rfl (Or.inl rfl) (pe_call (ok_l_draw T) (hr.mono (by decide)) (by rfl) T.g_l_draw T.F_l_draw.kp (b_l_draw T) .nil pass0 (pa_cons (pv 1) (pa_cons (pe_op op_add (pe_callB call_len (by rfl) T.z_len PySem.boot_len (pa_cons (pv 9) pa_nil)) pe_int) pa_nil))))
      (pss_cons (ps_set (i := 11) sc_law.nd rfl (Or.inl rfl) (pe_un un_neg pe_int))
      (pss_cons (ps_set (i := 12) sc_law.nd rfl (Or.inl rfl) (pe_callB call_len (by rfl) T.z_len PySem.boot_len (pa_cons (pv 9) pa_nil)))
      (pss_cons (ps_for PassesOwn.never rfl (pi_range1 (by rfl) T.z_range (pa_cons (pe_call (ok_l_draw T) (hr.mono (by decide)) (by rfl) T.g_l_draw T.F_l_draw.kp (b_l_draw T) .nil pass0 (pa_cons (pv 1) (pa_cons pe_int pa_nil))) pa_nil)) (pg_name (i := 13) sc_law.nd rfl (Or.inl rfl)) (pss_cons (ps_set (i := 14) sc_law.nd rfl (Or.inl rfl) (pe_call (ok_l_draw T) (hr.mono (by decide)) (by rfl) T.g_l_draw T.F_l_draw.kp (b_l_draw T) .nil pass0 (pa_cons (pv 1) (pa_cons (pe_callB call_len (by rfl) T.z_len PySem.boot_len (pa_cons (pv 9) pa_nil)) pa_nil))))
      (pss_cons (ps_if (pt_cmpR (op_notInD (units65 hr)) (pe_tup (pa_cons (pe_ix ix_seq (pv 9) (pv 14) (fun _ _ => rfl)) (pa_cons (pe_cmpR op_lt (pv 14) (pv 10) (nomark _)) pa_nil))) (pv 7) (by rfl)) (pss_one (ps_expr (pe_bm PySem.F.plainAttrs_list PySem.F.slot_list_insert PySem.F.type_list_insert mt_insert (pv 7) (pa_cons (pe_call (ok_l_draw T) (hr.mono (by decide)) (by rfl) T.g_l_draw T.F_l_draw.kp (b_l_draw T) .nil pass0 (pa_cons (pv 1) (pa_cons (pe_op op_add (pe_callB call_len (by rfl) T.z_len PySem.boot_len (pa_cons (pv 7) pa_nil)) pe_int) pa_nil))) (pa_cons (pe_tup (pa_cons (pe_ix ix_seq (pv 9) (pv 14) (fun _ _ => rfl)) (pa_cons (pe_cmpR op_lt (pv 14) (pv 10) (nomark _)) pa_nil))) pa_nil))))) pss_nil)
      (pss_one (ps_if (pt_cmpR op_lt (pv 14) (pv 10) (nomark _)) (pss_one (ps_set (i := 11) sc_law.nd rfl (Or.inl rfl) (pe_callB (call_max2 rfl) (by rfl) T.z_max (by decide +kernel) (pa_cons (pv 11) (pa_cons (pv 14) pa_nil))))) (pss_one (ps_set (i := 12) sc_law.nd rfl (Or.inl rfl) (pe_callB (call_min2 rfl) (by rfl) T.z_min (by decide +kernel) (pa_cons (pv 12) (pa_cons (pv 14) pa_nil))))))))))
      (pss_one (ps_expr (pe_bm PySem.F.plainAttrs_list PySem.F.slot_list_extend PySem.F.type_list_extend mt_extendA (pv 6) (pa_cons (pe_slice sl_tupA (pv 9) (po_some (pe_op op_add (pv 11) pe_int)) (po_some (pv 12))) pa_nil)))))))))))
      (pss_cons (ps_set (i := 15) sc_law.nd rfl (Or.inl rfl) (pe_tup (pa_cons (pe_callTy call_tuple_of (by rfl) T.z_tuple (by decide +kernel) (pa_cons (pv 5) pa_nil)) (pa_cons (pe_callTy call_tuple_of (by rfl) T.z_tuple (by decide +kernel) (pa_cons (pe_slice sl_tupA (pe_ix ix_seq (pv 3) pe_int (fun _ _ => rfl)) po_none (po_some (pe_callB call_len (by rfl) T.z_len PySem.boot_len (pa_cons (pv 5) pa_nil)))) pa_nil)) pa_nil))))
      (pss_cons (ps_set (i := 16) sc_law.nd rfl (Or.inl rfl) (pe_op op_add pe_int (pe_call (ok_l_draw T) (hr.mono (by decide)) (by rfl) T.g_l_draw T.F_l_draw.kp (b_l_draw T) .nil pass0 (pa_cons (pv 1) (pa_cons pe_int pa_nil)))))
      (pss_cons (ps_if (pt_cmpR op_eq (pe_call (ok_l_draw T) (hr.mono (by decide)) (by rfl) T.g_l_draw T.F_l_draw.kp (b_l_draw T) .nil pass0 (pa_cons (pv 1) (pa_cons pe_int pa_nil))) pe_int (nomark _)) (pss_one (ps_ret (pe_call (ok_l_same T) (hr.mono (by decide)) (by rfl) T.g_l_same T.F_l_same.kp (b_l_same T) .nil pass0 (pa_cons (pe_call (ok_next_asks T) (hr.mono (by decide)) (by rfl) T.g_next_asks T.F_next_asks.kp (b_next_asks T).choose_spec.2 (b_next_asks T).choose_spec.1 pass0 (pa_cons (pv 3) (pa_cons (pv 15) (pa_cons (pe_callTy call_tuple_of (by rfl) T.z_tuple (by decide +kernel) (pa_cons (pv 7) pa_nil)) pa_nil)))) (pa_cons (pe_call (ok_l_middles T) (hr.mono (by decide)) (by rfl) T.g_l_middles T.F_l_middles.kp (b_l_middles T) .nil pass0 (pa_cons (pv 5) (pa_cons (pv 6) (pa_cons (pe_glob (v := .int 4) (by rfl) T.c_FEW.choose_spec ⟨_, rfl⟩) pa_nil)))) pa_nil))))) pss_nil)
      (pss_one (ps_ret (pe_call (ok_l_same T) (hr.mono (by decide)) (by rfl) T.g_l_same T.F_l_same.kp (b_l_same T) .nil pass0 (pa_cons (pe_callN (n := 3) (ks := ["few"]) (ok_next_asks T) (hr.mono (by decide)) (by rfl) T.g_next_asks T.F_next_asks.kp (kb_next_asks_few T).choose_spec pass0 (pa_cons (pv 3) (pa_cons (pv 15) (pa_cons (pe_callTy call_tuple_of (by rfl) T.z_tuple (by decide +kernel) (pa_cons (pv 7) pa_nil)) pa_nil))) (pk_cons (pv 16) pk_nil)) (pa_cons (pe_call (ok_l_middles T) (hr.mono (by decide)) (by rfl) T.g_l_middles T.F_l_middles.kp (b_l_middles T) .nil pass0 (pa_cons (pv 5) (pa_cons (pv 6) (pa_cons (pv 16) pa_nil)))) pa_nil))))))))))))))))
end
def d_with_lower : He.DefD := ⟨("with_lower", none), "with_lower", "with_lower", defArgs s_with_lower, defBody s_with_lower, defScope s_with_lower, [], []⟩
def d_lowest_lacking : He.DefD := ⟨("lowest_lacking", none), "lowest_lacking", "lowest_lacking", defArgs s_lowest_lacking, defBody s_lowest_lacking, defScope s_lowest_lacking, [], []⟩
def d_refuse_contrary : He.DefD := ⟨("refuse_contrary", none), "refuse_contrary", "refuse_contrary", defArgs s_refuse_contrary, defBody s_refuse_contrary, defScope s_refuse_contrary, [], []⟩
def d_settled : He.DefD := ⟨("settled", none), "settled", "settled", defArgs s_settled, defBody s_settled, defScope s_settled, [], []⟩
def d_next_asks : He.DefD := ⟨("next_asks", none), "next_asks", "next_asks", defArgs s_next_asks, defBody s_next_asks, defScope s_next_asks, [], [("few", .int 4)]⟩
def d_l_deck : He.DefD := ⟨("_law_deck", none), "_law_deck", "_law_deck", defArgs s_l_deck, defBody s_l_deck, defScope s_l_deck, [], []⟩
def d_l_mixed : He.DefD := ⟨("_law_mixed", none), "_law_mixed", "_law_mixed", defArgs s_l_mixed, defBody s_l_mixed, defScope s_l_mixed, [], []⟩
def d_l_draw : He.DefD := ⟨("_law_draw", none), "_law_draw", "_law_draw", defArgs s_l_draw, defBody s_l_draw, defScope s_l_draw, [], []⟩
def d_l_int : He.DefD := ⟨("_law_int", none), "_law_int", "_law_int", defArgs s_l_int, defBody s_l_int, defScope s_l_int, [], []⟩
def d_l_same : He.DefD := ⟨("_law_same", none), "_law_same", "_law_same", defArgs s_l_same, defBody s_l_same, defScope s_l_same, [], []⟩
def d_l_long_shape : He.DefD := ⟨("_law_long_shape", none), "_law_long_shape", "_law_long_shape", defArgs s_l_long_shape, defBody s_l_long_shape, defScope s_l_long_shape, [], []⟩
def d_l_middles : He.DefD := ⟨("_law_middles", none), "_law_middles", "_law_middles", defArgs s_l_middles, defBody s_l_middles, defScope s_l_middles, [], []⟩
def d_law : He.DefD := ⟨("law", none), "law", "law", defArgs s_law, defBody s_law, defScope s_law, [], []⟩
def fn : List He.DefD := [d_with_lower, d_lowest_lacking, d_refuse_contrary, d_settled, d_next_asks, d_l_deck, d_l_mixed, d_l_draw, d_l_int, d_l_same, d_l_long_shape, d_l_middles, d_law]
def fa : List He.Fa := [.glo "with_lower", .glo "lowest_lacking", .glo "refuse_contrary", .glo "settled", .glo "next_asks", .glo "_law_deck", .glo "_law_mixed", .glo "_law_draw", .glo "_law_int", .glo "_law_same", .glo "_law_long_shape", .glo "_law_middles", .glo "law", .free "bool", .free "int", .free "isinstance", .free "len", .free "list", .free "max", .free "min", .free "range", .free "reversed", .free "sorted", .free "str", .free "tuple", .int "FEW" 4]
abbrev R : PySem.W.OpenRow := PySem.W.OpenLaw.row PySem.Challenge.rw_fewasks_k21_next_of_long_chains
abbrev hk : PySem.W.Hook := He.hookD 4 fa fn
def ob (s : PySem.W.SharedT) : He.AlD := He.obsDG 4 fa fn (HandSHeadRun.getT s)
theorem ob_eq (s : PySem.W.SharedT) : ob s = hk.obs s.abs := He.obsDG_eq (HandSHeadRun.getT_eq s)
def loose : List Str := [("HouseError" : Str), ("Contrary" : Str), ("with_lower" : Str), ("settled" : Str), ("lowest_lacking" : Str), ("refuse_contrary" : Str), ("next_asks" : Str), ("_law_deck" : Str), ("_law_mixed" : Str), ("_law_draw" : Str), ("_law_int" : Str), ("_law_same" : Str), ("_law_long_shape" : Str), ("_law_middles" : Str), ("FEW" : Str)]
theorem run (w : World) : HandSHeadRun.RunEq R (PySem.W.view R.prog [19]) hk ob 4000 loose w := by
  intro os
  kernel_rfl
theorem facts {P : Program} {w : World} {K : PySem.W.Frag} {h : Heap} {mg : Str → Option Value} {f : Addr} (X : K.In h) (G : h.Ns mainGlobals mg) (hfa : mg ("law" : Str) = some (.ref f)) (c : He.SaysD fa fn K) :
    ∃ fd : FuncData, (∀ (s : Shared) (v : Value), BindsTo s fd ⟨[v], []⟩ [("_law_script", v)]) ∧ ∀ base : Heap, K.In base → base.Ns mainGlobals mg → FnOk P w K mg base CX0 9 f fd ["_law_script"] (sp_law K) := by
  obtain ⟨fd0, F0⟩ := c.def_ 0 (d := d_with_lower) rfl
  obtain ⟨fd1, F1⟩ := c.def_ 1 (d := d_lowest_lacking) rfl
  obtain ⟨fd2, F2⟩ := c.def_ 2 (d := d_refuse_contrary) rfl
  obtain ⟨fd3, F3⟩ := c.def_ 3 (d := d_settled) rfl
  obtain ⟨fd4, F4⟩ := c.def_ 4 (d := d_next_asks) rfl
  obtain ⟨fd5, F5⟩ := c.def_ 5 (d := d_l_deck) rfl
  obtain ⟨fd6, F6⟩ := c.def_ 6 (d := d_l_mixed) rfl
  obtain ⟨fd7, F7⟩ := c.def_ 7 (d := d_l_draw) rfl
  obtain ⟨fd8, F8⟩ := c.def_ 8 (d := d_l_int) rfl
  obtain ⟨fd9, F9⟩ := c.def_ 9 (d := d_l_same) rfl
  obtain ⟨fd10, F10⟩ := c.def_ 10 (d := d_l_long_shape) rfl
  obtain ⟨fd11, F11⟩ := c.def_ 11 (d := d_l_middles) rfl
  obtain ⟨fd12, F12⟩ := c.def_ 12 (d := d_law) rfl
  have e := hfa.symm.trans (He.glo_ok X G (c.fact 12 (f := .glo "law") rfl))
  cases e
  have b := FunD.bindsA (ps := ["_law_script"]) F12 fun _ _ _ _ _ _ us hl => match us, hl with | [_], _ => rfl
  exact ⟨fd12, fun s v => b s [v] rfl, fun base _ _ => ok_law (⟨fd0, F0, (He.glo_ok X G (c.fact 0 (f := .glo "with_lower") rfl)), fd1, F1, (He.glo_ok X G (c.fact 1 (f := .glo "lowest_lacking") rfl)), fd2, F2, (He.glo_ok X G (c.fact 2 (f := .glo "refuse_contrary") rfl)), fd3, F3, (He.glo_ok X G (c.fact 3 (f := .glo "settled") rfl)), fd4, F4, (He.glo_ok X G (c.fact 4 (f := .glo "next_asks") rfl)), fd5, F5, (He.glo_ok X G (c.fact 5 (f := .glo "_law_deck") rfl)), fd6, F6, (He.glo_ok X G (c.fact 6 (f := .glo "_law_mixed") rfl)), fd7, F7, (He.glo_ok X G (c.fact 7 (f := .glo "_law_draw") rfl)), fd8, F8, (He.glo_ok X G (c.fact 8 (f := .glo "_law_int") rfl)), fd9, F9, (He.glo_ok X G (c.fact 9 (f := .glo "_law_same") rfl)), fd10, F10, (He.glo_ok X G (c.fact 10 (f := .glo "_law_long_shape") rfl)), fd11, F11, (He.glo_ok X G (c.fact 11 (f := .glo "_law_middles") rfl)), fd12, F12, (He.free_ok X G (c.fact 13 (f := .free "bool") rfl)), (He.free_ok X G (c.fact 14 (f := .free "int") rfl)), (He.free_ok X G (c.fact 15 (f := .free "isinstance") rfl)), (He.free_ok X G (c.fact 16 (f := .free "len") rfl)), (He.free_ok X G (c.fact 17 (f := .free "list") rfl)), (He.free_ok X G (c.fact 18 (f := .free "max") rfl)), (He.free_ok X G (c.fact 19 (f := .free "min") rfl)), (He.free_ok X G (c.fact 20 (f := .free "range") rfl)), (He.free_ok X G (c.fact 21 (f := .free "reversed") rfl)), (He.free_ok X G (c.fact 22 (f := .free "sorted") rfl)), (He.free_ok X G (c.fact 23 (f := .free "str") rfl)), (He.free_ok X G (c.fact 24 (f := .free "tuple") rfl)), (He.int_ok X G (c.fact 25 (f := .int "FEW" 4) rfl))⟩ : Tx K mg)⟩
end K21
open PySem PySem.W PySem.Calls PyProof.Rows
set_option maxRecDepth 100000 in
set_option maxHeartbeats 0 in
theorem PySem.Challenge.cw_fewasks_k21_next_of_long_chains_holds : PySem.Challenge.rw_fewasks_k21_next_of_long_chains.Holds := by
  w_on; o_law
  refine HandSHeadRun.head_any (r := OpenLaw.row PySem.Challenge.rw_fewasks_k21_next_of_long_chains) (q := view (OpenLaw.row PySem.Challenge.rw_fewasks_k21_next_of_long_chains).prog [19]) (H := K21.hk) (ob := K21.ob) (M := 4000) (loose := K21.loose) (d := HandSHeadRun.topDef (OpenLaw.row PySem.Challenge.rw_fewasks_k21_next_of_long_chains).prog 19) (kwd := []) K21.ob_eq
    (by kernel_rfl) (fun s => by kernel_rfl) K21.run (by kernel_rfl) (by kernel_rfl) (by kernel_rfl) (by rfl) (by first | assumption | decide +kernel) (by decide +kernel) ⟨rfl, rfl, rfl, rfl, rfl, by decide +kernel⟩ ?hw ?hc
  case hw => w_witness2
  case hc =>
    refine L2.walk_ofE (l := PySem.Challenge.rw_fewasks_k21_next_of_long_chains) (n := 63) (k := 9) (x := "_law_script") (CX := L2.CX0) rfl (by decide) (by kernel_rfl) ⟨rfl, by decide, by decide⟩ ?F (fun _ _ _ _ z => z)
    intro w mg fa h Y G hmg0
    obtain ⟨K, KX, c⟩ := Y
    have hmg : mg ("law" : PySem.Str) = some (.ref fa) := by
      have e : (HandSHeadRun.topDef (OpenLaw.row PySem.Challenge.rw_fewasks_k21_next_of_long_chains).prog 19).name = ("law" : PySem.Str) := by kernel_rfl
      rw [← e]
      exact hmg0
    obtain ⟨fd, hb, hF⟩ := K21.facts (P := (PySem.Challenge.rw_fewasks_k21_next_of_long_chains).prog) (w := w) KX G hmg c
    exact ⟨K, fd, Fw.sp_law K, KX, hb, fun H a ns hl _ hS => ⟨a, ns, rfl, hS, hl, fun _ => rfl⟩, hF⟩
