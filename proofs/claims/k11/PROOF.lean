import PyProof.Rows.All
import Wide.All
import OpenK.AllK
import Wide.FinOn
import KE.KStateDown
import HandS.ForMost
import HandS.IsInst
import HandS.Conv
import HandS.Wide
import HandS.WideBits
import HandS.SortInts
import HandS.DictComp
import HandS.Zip
import HandS.Rev
import HandS.Flow
import HandS.Steps
import HandS.Defaults
import HandS.Head0
import HandS.Head1
import HandS.Head2
import HandS.HeadEnd
import HandS.HeadHook1
import HandS.HeadHook2
import HandS.TupAny
import HandS.TupLe
import HandS.Style
import PySem.Challenge.RW_fewasks_k11_good_shapes
set_option Elab.async false
set_option linter.all false
set_option maxRecDepth 100000
set_option maxHeartbeats 4000000
namespace Fw
open PySem L2 RZ RT
/-! ### readings by name -/
abbrev rAddI : R2 := rI0 fun i j => .int (i + j)
abbrev rSubI : R2 := rI0 fun i j => .int (i - j)
abbrev rMulI : R2 := rI CMul fun i j => .int (i * j)
abbrev rDivI : R2 := rI CDivW fun i j => .int (i / j)
abbrev rModI : R2 := rI (fun _ j => 0 < j) fun i j => .int (i % j)
abbrev rPowI : R2 := rI CPow fun i j => .int (i ^ j.toNat)
abbrev rLtI : R2 := rI0 fun i j => .bl (decide (i < j))
abbrev rLeI : R2 := rI0 fun i j => .bl (decide (i ≤ j))
abbrev rGtI : R2 := rI0 fun i j => .bl (decide (j < i))
abbrev rGeI : R2 := rI0 fun i j => .bl (decide (j ≤ i))
abbrev rNegI : V → Hp → VK → Prop := rU fun i => .int (-i)
abbrev fIsN : R2 := fun x y H Q => y = .non ∧ Q (.bl (decide (x = .non))) H
abbrev fNotN : R2 := fun x y H Q => y = .non ∧ Q (.bl (!decide (x = .non))) H
def fLen (K : PySem.W.Frag) : List V → Hp → VK → Prop := fun xs H Q => ∃ x n, xs = [x] ∧ LenV K x H n ∧ Q (.int n) H
def fListOf (K : PySem.W.Frag) : List V → Hp → VK → Prop := fun xs H Q => ∃ p ys, xs = [.ref p] ∧ (SqL K H p ys ∨ SqT K H p ys) ∧ ∀ l, H l = none → Q (.ref l) (upd H l (.lst ys))
def fTupleOf (K : PySem.W.Frag) : List V → Hp → VK → Prop := fun xs H Q => ∃ p ys, xs = [.ref p] ∧ ((SqL K H p ys ∧ ∀ l, H l = none → Q (.ref l) (upd H l (.tup ys))) ∨ (SqT K H p ys ∧ Q (.ref p) H))
def fMin2 : List V → Hp → VK → Prop := fun xs H Q => ∃ i j, xs = [.int i, .int j] ∧ Q (.int (if j < i then j else i)) H
def fMax2 : List V → Hp → VK → Prop := fun xs H Q => ∃ i j, xs = [.int i, .int j] ∧ Q (.int (if j > i then j else i)) H
/-! ### steps -/
section
variable {K : PySem.W.Frag} {H : Hp} {p : Addr} {xs : List V} {i : Int} {v : V} {Q : VK}
theorem ixL (h : H p = some (.lst xs)) (ha : atI xs i = some v) (q : Q v H) : rIx K (.ref p) (.int i) H Q := .inl ⟨p, xs, i, v, rfl, rfl, .inl (.inl h), ha, q⟩
theorem ixT (h : H p = some (.tup xs)) (ha : atI xs i = some v) (q : Q v H) : rIx K (.ref p) (.int i) H Q := .inr (.inl ⟨p, xs, i, v, rfl, rfl, .inl (.inl h), ha, q⟩)
theorem lenL {σ : L2.St} (h : H p = some (.lst xs)) (q : Q (.int xs.length) H) : tNil σ H fun ys H2 => fLen K (.ref p :: ys) H2 Q := ⟨_, _, rfl, .inl ⟨xs, .inl (.inl h), rfl⟩, q⟩
theorem lenT {σ : L2.St} (h : H p = some (.tup xs)) (q : Q (.int xs.length) H) : tNil σ H fun ys H2 => fLen K (.ref p :: ys) H2 Q := ⟨_, _, rfl, .inr ⟨xs, .inl (.inl h), rfl⟩, q⟩
theorem sqL (h : H p = some (.lst xs)) : SqL K H p xs := .inl (.inl h)
theorem sqT (h : H p = some (.tup xs)) : SqT K H p xs := .inl (.inl h)
end
theorem updS {H : Hp} {a : Addr} {o : HO} : upd H a o a = some o := upd_same
theorem updN {H : Hp} {a b : Addr} {o : HO} {r : Option HO} (n : b ≠ a) (h : H b = r) : upd H a o b = r := by rw [upd_ne n]; exact h
theorem small100 {m : Int} (h : m.natAbs ≤ 1000000000000000000) : m.natAbs < 2 ^ 100 := Nat.lt_of_le_of_lt h (by decide)
/-- the number in a slot, as a measure -/
def slotN (k : Nat) (σ : L2.St) : Nat := match σ[k]? with
  | some (some (V.int n)) => n.toNat
  | _ => 0
theorem getLastD_of {l : List V} (h : l ≠ []) : l.getLastD .non = l.getLast h := by
  rw [List.getLastD_eq_getLast?, List.getLast?_eq_getLast h]
  rfl
theorem pow18 : (10 : Int) ^ (18 : Int).toNat = 1000000000000000000 := by decide
/-! ### the deck of a law -/
/-- the deck at D: the cells at c, the turn at most t -/
def Dk (c D : Addr) (ns : List Int) (t : Nat) (H : Hp) : Prop := c ≠ D ∧ H c = some (.lst (ns.map V.int)) ∧ ns.length ≤ 63 ∧
  ∃ i n u : Int, H D = some (.lst [.ref c, .int i, .int n, .int u]) ∧ 0 ≤ i ∧ i ≤ ns.length ∧ 0 ≤ n ∧ 0 ≤ u ∧ u ≤ t
def sp_l_deck (K : PySem.W.Frag) : Sp := fun vs H Q _ => ∃ (a : Addr) (ns : List Int), vs = [.ref a] ∧ SqL K H a (ns.map V.int) ∧ ns.length ≤ 63 ∧
  ∀ c D H', Same H H' → H c = none → H D = none → Dk c D ns 0 H' → Q (.ref D) H'
def sp_l_mixed (_ : PySem.W.Frag) : Sp := fun vs H Q _ => ∃ (c t : Int), vs = [.int c, .int t] ∧ 0 ≤ t ∧ t ≤ 1000000000 ∧ ∀ v : Int, Q (.int v) H
def sp_l_draw (_ : PySem.W.Frag) : Sp := fun vs H Q _ => ∃ (c D : Addr) (ns : List Int) (t : Nat) (m : Int), vs = [.ref D, .int m] ∧ Dk c D ns t H ∧ t < 1000000000 ∧ 0 < m ∧ m.natAbs < 2 ^ 100 ∧
  ∀ (v : Int) (H' : Hp), 0 ≤ v → v < m → Dk c D ns (t + 1) H' → (∀ b, b ≠ D → H' b = H b) → Q (.int v) H'
def sp_l_int (_ : PySem.W.Frag) : Sp := fun vs H Q _ => ∃ i : Int, vs = [.int i] ∧ Q (.bl true) H
abbrev N_l_deck : List Str := ["_law_script"]
def t_l_deck (K : PySem.W.Frag) : TS := (tRet (tLst (tCons (tCB (fListOf K) (tCons (tVar 0) tNil)) (tCons (tC (.int 0)) (tCons (tC (.int 0)) (tCons (tC (.int 0)) tNil))))))
abbrev N_l_mixed : List Str := ["_law_cell", "_law_turn"]
def t_l_mixed (K : PySem.W.Frag) : TS := (tRet (tOp rModI (tOp rPowI (tOp rAddI (tOp rAddI (tOp rModI (tVar 0) (tC (.int 2147483629))) (tOp rMulI (tVar 1) (tC (.int 1000003)))) (tC (.int 17))) (tC (.int 5))) (tC (.int 2147483647))))
abbrev N_l_draw : List Str := ["_law_deck_here", "_law_many", "_law_cells", "_law_found", "_law_number"]
def t_l_draw_in (K : PySem.W.Frag) : TS := (tSeq (tIfS (tTest (tOp rLtI (tOp (rIx K) (tVar 2) (tOp rSubI (tOp (rIx K) (tVar 0) (tC (.int 1))) (tC (.int 1)))) (tOp rPowI (tC (.int 10)) (tC (.int 18))))) (tRet (tOp rModI (tCall (sp_l_mixed K) [] E0 (tCons (tOp (rIx K) (tVar 2) (tOp rSubI (tOp (rIx K) (tVar 0) (tC (.int 1))) (tC (.int 1)))) (tCons (tOp (rIx K) (tVar 0) (tC (.int 3))) tNil))) (tVar 1))) tNext)
    (tAsg (tOp (rIx K) (tVar 2) (tOp rSubI (tOp (rIx K) (tVar 0) (tC (.int 1))) (tC (.int 1)))) (gSub (tVar 0) (tC (.int 2)) rSetL)))
def t_l_draw_last (K : PySem.W.Frag) : TS := (tRet (tOp rModI (tCall (sp_l_mixed K) [] E0 (tCons (tVar 4) (tCons (tOp (rIx K) (tVar 0) (tC (.int 3))) tNil))) (tVar 1)))
def t_l_draw_rest (K : PySem.W.Frag) : TS := (tSeq (tIfS (tTest (tOp rGtI (tOp (rIx K) (tVar 0) (tC (.int 2))) (tC (.int 0)))) (tSeq (tAsg (tOp rModI (tOp (rIx K) (tVar 0) (tC (.int 2))) (tVar 1)) (gName 3))
    (tSeq (tAsg (tOp rDivI (tOp (rIx K) (tVar 0) (tC (.int 2))) (tVar 1)) (gSub (tVar 0) (tC (.int 2)) rSetL))
    (tRet (tVar 3)))) tNext)
    (tSeq (tAsg (tOp rMulI (tOp (rIx K) (tVar 0) (tC (.int 3))) (tC (.int 48271))) (gName 4))
    (tSeq (tIfS (tTest (tOp rGtI (tCB (fLen K) (tCons (tVar 2) tNil)) (tC (.int 0)))) (tAsg (tOp rAddI (tVar 4) (tOp rModI (tOp (rIx K) (tVar 2) (tOp rModI (tOp rMulI (tOp (rIx K) (tVar 0) (tC (.int 3))) (tC (.int 7))) (tCB (fLen K) (tCons (tVar 2) tNil)))) (tC (.int 2147483629)))) (gName 4)) tNext)
    (t_l_draw_last K))))
def t_l_draw_mid (K : PySem.W.Frag) : TS := (tSeq (tIfS (tAnd (tTest (tOp rEq (tOp (rIx K) (tVar 0) (tC (.int 2))) (tC (.int 0)))) (tTest (tOp rLtI (tOp (rIx K) (tVar 0) (tC (.int 1))) (tCB (fLen K) (tCons (tVar 2) tNil))))) (tSeq (tAsg (tOp rAddI (tOp (rIx K) (tVar 0) (tC (.int 1))) (tC (.int 1))) (gSub (tVar 0) (tC (.int 1)) rSetL))
    (t_l_draw_in K)) tNext)
    (t_l_draw_rest K))
def t_l_draw (K : PySem.W.Frag) : TS := (tSeq (tAsg (tOp (rIx K) (tVar 0) (tC (.int 0))) (gName 2))
    (tSeq (tAsg (tOp rAddI (tOp (rIx K) (tVar 0) (tC (.int 3))) (tC (.int 1))) (gSub (tVar 0) (tC (.int 3)) rSetL))
    (t_l_draw_mid K)))
abbrev N_l_int : List Str := ["_law_thing"]
def t_l_int (K : PySem.W.Frag) : TS := (tRet (tAndV (tCB (rIsi K) (tCons (tVar 0) (tCons (tC (.ty "int")) tNil))) (tNotV (tCB (rIsi K) (tCons (tVar 0) (tCons (tC (.ty "bool")) tNil))))))
theorem pure_l_deck {K : PySem.W.Frag} {vs : List V} {H : Hp} {Q : VK} {E : XK} (h : sp_l_deck K vs H Q E) : t_l_deck K { nx := fun _ H' => Q .non H', rt := Q } (start N_l_deck vs) H := by
  obtain ⟨a, ns, rfl, hS, hl, k⟩ := h
  refine ⟨_, rfl, a, _, rfl, .inl hS, fun c nc => ⟨by show (4 : Nat) ≤ sizeLine; decide, fun D nD => ?_⟩⟩
  have ncD : c ≠ D := fun e => by rw [← e, updS] at nD; cases nD
  have nD0 : H D = none := by rw [upd_ne ncD.symm] at nD; exact nD
  refine k c D _ (fun b o e => updN (ne_of_none e nD0) (updN (ne_of_none e nc) e)) nc nD0 ⟨ncD, updN ncD updS, hl, 0, 0, 0, updS, Int.le_refl _, by omega, Int.le_refl _, Int.le_refl _, Int.le_refl _⟩
theorem pure_l_mixed {K : PySem.W.Frag} {vs : List V} {H : Hp} {Q : VK} {E : XK} (h : sp_l_mixed K vs H Q E) : t_l_mixed K { nx := fun _ H' => Q .non H', rt := Q } (start N_l_mixed vs) H := by
  obtain ⟨c, t, rfl, h0, h1, k⟩ := h
  refine ⟨_, rfl, _, _, rfl, rfl, (by show (0 : Int) < 2147483629; decide), _, rfl, _, _, rfl, rfl, .inr ⟨by decide, by decide⟩, _, _, rfl, rfl, _, _, rfl, rfl, _, _, rfl, rfl, ⟨by decide, by decide, ?_⟩, _, _, rfl, rfl, (by show (0 : Int) < 2147483647; decide), k _⟩
  have := Int.emod_nonneg c (show (2147483629 : Int) ≠ 0 by decide)
  have := Int.emod_lt_of_pos c (show (0 : Int) < 2147483629 by decide)
  omega
theorem pure_l_int {K : PySem.W.Frag} {vs : List V} {H : Hp} {Q : VK} {E : XK} (h : sp_l_int K vs H Q E) : t_l_int K { nx := fun _ H' => Q .non H', rt := Q } (start N_l_int vs) H := by
  obtain ⟨i, rfl, k⟩ := h
  refine ⟨_, rfl, _, _, _, _, true, rfl, .ty _, .base (.int i), kit_ty (by decide +kernel), _, rfl, iteT ?_⟩
  refine ⟨_, rfl, _, _, _, _, false, rfl, .ty _, .base (.int i), kit_ty (by decide +kernel), _, rfl, k⟩
theorem pure_l_draw {K : PySem.W.Frag} {vs : List V} {H : Hp} {Q : VK} {E : XK} (h : sp_l_draw K vs H Q E) : t_l_draw K { nx := fun _ H' => Q .non H', rt := Q } (start N_l_draw vs) H := by
  obtain ⟨c, D, ns, t, m, rfl, ⟨ncD, hc, hl, i, n, u, hD, i0, i1, n0, u0, u1⟩, ht, m0, m1, k⟩ := h
  have cells : ∀ {j : Int}, 0 ≤ j → j < ns.length → ∃ z : Int, atI (ns.map V.int) j = some (.int z) := fun {j} h0 h1 => by
    obtain ⟨q, rfl⟩ := Int.eq_ofNat_of_zero_le h0
    have hq : q < ns.length := by omega
    exact ⟨ns[q], atI_nat (by rw [List.getElem?_map, List.getElem?_eq_getElem hq]; rfl)⟩
  -- the rest, from any i and n
  have rest : ∀ (i n : Int) (H2 : Hp) (z3 z4 : Option V), 0 ≤ i → i ≤ ns.length → 0 ≤ n → H2 D = some (.lst [.ref c, .int i, .int n, .int (u + 1)]) → H2 c = some (.lst (ns.map V.int)) → (∀ b, b ≠ D → H2 b = H b) →
      t_l_draw_rest K { nx := fun _ H' => Q .non H', rt := Q } [some (.ref D), some (.int m), some (.ref c), z3, z4] H2 := by
    intro i n H2 z3 z4 i0 i1 n0 hD2 hc2 fr2
    have mod0 : ∀ x : Int, 0 ≤ x % m := fun x => Int.emod_nonneg x (by omega)
    have mod1 : ∀ x : Int, x % m < m := fun x => Int.emod_lt_of_pos x m0
    refine ⟨_, rfl, ixL hD2 rfl ⟨_, _, rfl, rfl, _, rfl, ite2 (fun e => ?_) (fun e => ?_)⟩⟩
    · have hn : 0 < n := of_decide_eq_true e
      refine ⟨_, rfl, ixL hD2 rfl ⟨_, rfl, _, _, rfl, rfl, m0, ?_⟩⟩
      refine ⟨_, rfl, ixL hD2 rfl ⟨_, rfl, _, _, rfl, rfl, wide_div m0 m1 (by decide) (by decide), _, rfl, D, _, _, 2, rfl, rfl, hD2, rfl, ?_⟩⟩
      refine ⟨_, rfl, k _ _ (mod0 n) (mod1 n) ⟨ncD, updN ncD hc2, hl, i, n / m, u + 1, updS, i0, i1, Int.ediv_nonneg n0 (by omega), by omega, by omega⟩ fun b nb => (upd_ne nb).trans (fr2 b nb)⟩
    · refine ⟨_, rfl, ixL hD2 rfl ⟨_, _, rfl, rfl, .inr ⟨by decide, by decide⟩, ?_⟩⟩
      have last : ∀ (y : Int), t_l_draw_last K { nx := fun _ H' => Q .non H', rt := Q } [some (.ref D), some (.int m), some (.ref c), z3, some (.int y)] H2 := fun y => by
        refine ⟨_, rfl, _, rfl, ixL hD2 rfl ⟨y, u + 1, rfl, by omega, by omega, fun v => ?_⟩⟩
        refine ⟨_, rfl, _, _, rfl, rfl, m0, k _ _ (mod0 v) (mod1 v) ⟨ncD, hc2, hl, i, n, u + 1, hD2, i0, i1, n0, by omega, by omega⟩ fr2⟩
      refine ⟨_, rfl, lenL hc2 ⟨_, _, rfl, rfl, _, rfl, ite2 (fun e => ?_) (fun e => ?_)⟩⟩
      · have hn : 0 < ns.length := by
          have q : (0 : Int) < (ns.map V.int).length := of_decide_eq_true e
          rw [List.length_map] at q
          omega
        have hlen : ((ns.map V.int).length : Int) = ns.length := by rw [List.length_map]
        obtain ⟨z, hz⟩ := cells (j := (u + 1) * 7 % ((ns.map V.int).length : Int)) (Int.emod_nonneg _ (by omega)) (by rw [hlen]; exact Int.emod_lt_of_pos _ (by omega))
        refine ⟨_, rfl, _, rfl, _, rfl, ixL hD2 rfl ⟨_, _, rfl, rfl, .inr ⟨by decide, by decide⟩, _, rfl, lenL hc2 ⟨_, _, rfl, rfl, (by show (0 : Int) < ((ns.map V.int).length : Int); omega), ixL hc2 hz ⟨_, _, rfl, rfl, (by show (0 : Int) < 2147483629; decide), _, _, rfl, rfl, ?_⟩⟩⟩⟩
        exact last _
      · exact last _
  have mid : ∀ (H1 : Hp) (z3 z4 : Option V), H1 D = some (.lst [.ref c, .int i, .int n, .int (u + 1)]) → H1 c = some (.lst (ns.map V.int)) → (∀ b, b ≠ D → H1 b = H b) →
      t_l_draw_mid K { nx := fun _ H' => Q .non H', rt := Q } [some (.ref D), some (.int m), some (.ref c), z3, z4] H1 := by
    intro H1 z3 z4 hD1 hc1 fr1
    refine ⟨_, rfl, ixL hD1 rfl ⟨rfl, _, rfl, ?_⟩⟩
    refine ite2 (fun e => ?_) (fun e => iteF (rest i n H1 _ _ i0 i1 n0 hD1 hc1 fr1))
    refine ⟨_, rfl, ixL hD1 rfl ⟨_, rfl, lenL hc1 ⟨_, _, rfl, rfl, _, rfl, ite2 (fun e2 => ?_) (fun e2 => rest i n H1 _ _ i0 i1 n0 hD1 hc1 fr1)⟩⟩⟩
    have hi : i < ns.length := by
      have q : i < ((ns.map V.int).length : Int) := of_decide_eq_true e2
      rw [List.length_map] at q
      exact q
    obtain ⟨z, hz⟩ := cells i0 hi
    have ei : i + 1 - 1 = i := by omega
    have inn : ∀ (H2 : Hp), H2 D = some (.lst [.ref c, .int (i + 1), .int n, .int (u + 1)]) → H2 c = some (.lst (ns.map V.int)) → (∀ b, b ≠ D → H2 b = H b) →
        t_l_draw_in K { nx := t_l_draw_rest K { nx := fun _ H' => Q .non H', rt := Q }, rt := Q } [some (.ref D), some (.int m), some (.ref c), z3, z4] H2 := by
      intro H2 hD2 hc2 fr2
      refine ⟨_, rfl, _, rfl, ixL hD2 rfl ⟨_, _, rfl, rfl, ixL hc2 (by rw [ei]; exact hz) ⟨_, _, rfl, rfl, ⟨by decide, by decide, by decide⟩, _, _, rfl, rfl, _, rfl, ite2 (fun e3 => ?_) (fun e3 => ?_)⟩⟩⟩
      · refine ⟨_, rfl, _, rfl, ixL hD2 rfl ⟨_, _, rfl, rfl, ixL hc2 (by rw [ei]; exact hz) ⟨_, rfl, ixL hD2 rfl ⟨z, u + 1, rfl, by omega, by omega, fun v => ?_⟩⟩⟩⟩
        refine ⟨_, rfl, _, _, rfl, rfl, m0, k _ _ (Int.emod_nonneg v (by omega)) (Int.emod_lt_of_pos v m0) ⟨ncD, hc2, hl, i + 1, n, u + 1, hD2, by omega, by omega, n0, by omega, by omega⟩ fr2⟩
      · have hz0 : ¬ z < 1000000000000000000 := fun q => e3 (decide_eq_true (by rw [pow18]; exact q))
        refine ⟨_, rfl, _, rfl, ixL hD2 rfl ⟨_, _, rfl, rfl, ixL hc2 (by rw [ei]; exact hz) ⟨_, rfl, D, _, _, 2, rfl, rfl, hD2, rfl, ?_⟩⟩⟩
        exact rest (i + 1) z _ _ _ (by omega) (by omega) (by omega) updS (updN ncD hc2) fun b nb => updN nb (fr2 b nb)
    refine ⟨_, rfl, ixL hD1 rfl ⟨_, _, rfl, rfl, _, rfl, D, _, _, 1, rfl, rfl, hD1, rfl, ?_⟩⟩
    exact inn _ updS (updN ncD hc1) fun b nb => updN nb (fr1 b nb)
  -- cells = deck[0]; deck[3] = deck[3] + 1
  refine ⟨_, rfl, ixL hD rfl ?_⟩
  refine ⟨_, rfl, ixL hD rfl ⟨_, _, rfl, rfl, _, rfl, D, _, _, 3, rfl, rfl, hD, rfl, ?_⟩⟩
  exact mid _ _ _ updS (updN ncD hc) fun b nb => upd_ne nb
/-! ### the same data, kind for kind -/
/-- two values of the same data, at most n deep -/
def SameV (H : Hp) : Nat → V → V → Prop
  | 0, _, _ => False
  | n + 1, x, y => (x = y ∧ (x = .non ∨ (∃ i, x = .int i) ∨ (∃ b, x = .bl b) ∨ ∃ z, x = .str z)) ∨
    ∃ p q xs ys, x = .ref p ∧ y = .ref q ∧ ((H p = some (.lst xs) ∧ H q = some (.lst ys)) ∨ (H p = some (.tup xs) ∧ H q = some (.tup ys))) ∧ xs.length = ys.length ∧ xs.length ≤ 100000 ∧
      ∀ (i : Nat) (a b : V), xs[i]? = some a → ys[i]? = some b → SameV H n a b
theorem SameV.int {H : Hp} {n : Nat} {i j : Int} (e : i = j) : SameV H (n + 1) (.int i) (.int j) := Or.inl ⟨by rw [e], .inr (.inl ⟨i, rfl⟩)⟩
theorem SameV.bl {H : Hp} {n : Nat} {i j : Bool} (e : i = j) : SameV H (n + 1) (.bl i) (.bl j) := Or.inl ⟨by rw [e], .inr (.inr (.inl ⟨i, rfl⟩))⟩
theorem SameV.tup {H : Hp} {n : Nat} {p q : Addr} {xs ys : List V} (h1 : H p = some (.tup xs)) (h2 : H q = some (.tup ys)) (hl : xs.length = ys.length) (hz : xs.length ≤ 100000) (h : ∀ (i : Nat) (a b : V), xs[i]? = some a → ys[i]? = some b → SameV H n a b) : SameV H (n + 1) (.ref p) (.ref q) :=
  Or.inr ⟨p, q, xs, ys, rfl, rfl, .inr ⟨h1, h2⟩, hl, hz, h⟩
theorem SameV.lst {H : Hp} {n : Nat} {p q : Addr} {xs ys : List V} (h1 : H p = some (.lst xs)) (h2 : H q = some (.lst ys)) (hl : xs.length = ys.length) (hz : xs.length ≤ 100000) (h : ∀ (i : Nat) (a b : V), xs[i]? = some a → ys[i]? = some b → SameV H n a b) : SameV H (n + 1) (.ref p) (.ref q) :=
  Or.inr ⟨p, q, xs, ys, rfl, rfl, .inl ⟨h1, h2⟩, hl, hz, h⟩
theorem SameV.ints {H : Hp} {n : Nat} {ns : List Int} : ∀ (i : Nat) (a b : V), (ns.map V.int)[i]? = some a → (ns.map V.int)[i]? = some b → SameV H (n + 1) a b := fun i a b h1 h2 => by
  have e : a = b := Option.some.inj (h1.symm.trans h2)
  rw [List.getElem?_map] at h1
  cases q : ns[i]? with
  | none => rw [q] at h1; cases h1
  | some z => rw [q] at h1; exact Or.inl ⟨e, .inr (.inl ⟨z, (Option.some.inj h1).symm⟩)⟩
def sp_sameN (_ : PySem.W.Frag) (n : Nat) : Sp := fun vs H Q _ => ∃ x y, vs = [x, y] ∧ SameV H n x y ∧ Q (.bl true) H
abbrev sp_l_same (K : PySem.W.Frag) : Sp := sp_sameN K 6
abbrev N_l_same : List Str := ["_law_found", "_law_due", "_law_k"]
def t_l_same_loop (K : PySem.W.Frag) (n : Nat) : TS := (tSeq (tIfS (tTest (tOp rNe (tCB (fLen K) (tCons (tVar 0) tNil)) (tCB (fLen K) (tCons (tVar 1) tNil)))) (tRet (tC (.bl false))) tNext)
    (tSeq (tFor (iRng1 (tCons (tCB (fLen K) (tCons (tVar 1) tNil)) tNil)) (gName 2) (tIfS (tNot (tB (tCall (sp_sameN K n) [] E0 (tCons (tOp (rIx K) (tVar 0) (tVar 2)) (tCons (tOp (rIx K) (tVar 1) (tVar 2)) tNil))))) (tRet (tC (.bl false))) tNext))
    (tRet (tC (.bl true)))))
def t_l_same_tail (K : PySem.W.Frag) (n : Nat) : TS := (tSeq (tIfS (tB (tCB (rIsi K) (tCons (tVar 1) (tCons (tC (.ty "bool")) tNil)))) (tRet (tAndV (tCB (rIsi K) (tCons (tVar 0) (tCons (tC (.ty "bool")) tNil))) (tOp rEq (tVar 0) (tVar 1)))) tNext)
    (tSeq (tIfS (tB (tCB (rIsi K) (tCons (tVar 1) (tCons (tC (.ty "int")) tNil)))) (tRet (tAndV (tCall (sp_l_int K) [] E0 (tCons (tVar 0) tNil)) (tOp rEq (tVar 0) (tVar 1)))) tNext)
    (tSeq (tIfS (tB (tCB (rIsi K) (tCons (tVar 1) (tCons (tC (.ty "str")) tNil)))) (tRet (tAndV (tCB (rIsi K) (tCons (tVar 0) (tCons (tC (.ty "str")) tNil))) (tOp rEq (tVar 0) (tVar 1)))) tNext)
    (tRet (tAndV (tOp fIsN (tVar 1) (tC .non)) (tOp fIsN (tVar 0) (tC .non)))))))
def t_l_same (K : PySem.W.Frag) (n : Nat) : TS := (tSeq (tIfS (tOr (tB (tCB (rIsi K) (tCons (tVar 1) (tCons (tC (.ty "tuple")) tNil)))) (tB (tCB (rIsi K) (tCons (tVar 1) (tCons (tC (.ty "list")) tNil))))) (tSeq (tIfS (tOr (tTest (tOp rNe (tCB (rIsi K) (tCons (tVar 1) (tCons (tC (.ty "tuple")) tNil))) (tCB (rIsi K) (tCons (tVar 0) (tCons (tC (.ty "tuple")) tNil))))) (tTest (tOp rNe (tCB (rIsi K) (tCons (tVar 1) (tCons (tC (.ty "list")) tNil))) (tCB (rIsi K) (tCons (tVar 0) (tCons (tC (.ty "list")) tNil)))))) (tRet (tC (.bl false))) tNext)
    (t_l_same_loop K n)) tNext)
    (t_l_same_tail K n))
section
variable {K : PySem.W.Frag} {H : Hp} {x : V} {Q : VK} {σ : L2.St} {c t : String} {b : Bool}
theorem isi (ty : TyX K H x (.type t)) (k : kitB t c = some b) (q : Q (.bl b) H) : tCons (tC (.ty c)) tNil σ H fun ys H2 => rIsi K (x :: ys) H2 Q := ⟨_, _, _, _, b, rfl, .ty _, ty, kit_ty k, q⟩
end
theorem k_it : kitB "int" "tuple" = some false := by decide +kernel
theorem k_il : kitB "int" "list" = some false := by decide +kernel
theorem k_ib : kitB "int" "bool" = some false := by decide +kernel
theorem k_ii : kitB "int" "int" = some true := by decide +kernel
theorem k_bt : kitB "bool" "tuple" = some false := by decide +kernel
theorem k_bl : kitB "bool" "list" = some false := by decide +kernel
theorem k_bb : kitB "bool" "bool" = some true := by decide +kernel
theorem k_bi : kitB "bool" "int" = some true := by decide +kernel
theorem k_st : kitB "str" "tuple" = some false := by decide +kernel
theorem k_sl : kitB "str" "list" = some false := by decide +kernel
theorem k_sb : kitB "str" "bool" = some false := by decide +kernel
theorem k_si : kitB "str" "int" = some false := by decide +kernel
theorem k_ss : kitB "str" "str" = some true := by decide +kernel
theorem k_nt : kitB "NoneType" "tuple" = some false := by decide +kernel
theorem k_nl : kitB "NoneType" "list" = some false := by decide +kernel
theorem k_nb : kitB "NoneType" "bool" = some false := by decide +kernel
theorem k_ni : kitB "NoneType" "int" = some false := by decide +kernel
theorem k_ns : kitB "NoneType" "str" = some false := by decide +kernel
theorem k_tt : kitB "tuple" "tuple" = some true := by decide +kernel
theorem k_tl : kitB "tuple" "list" = some false := by decide +kernel
theorem k_ti : kitB "tuple" "int" = some false := by decide +kernel
theorem k_tb : kitB "tuple" "bool" = some false := by decide +kernel
theorem k_lt : kitB "list" "tuple" = some false := by decide +kernel
theorem k_ll : kitB "list" "list" = some true := by decide +kernel
theorem k_li : kitB "list" "int" = some false := by decide +kernel
theorem k_lb : kitB "list" "bool" = some false := by decide +kernel
theorem len_le {n : Nat} (h : n ≤ 100000) : -(2 ^ 62 : Int) ≤ (n : Int) ∧ (n : Int) < 2 ^ 62 := by
  have e : (2 : Int) ^ 62 = 4611686018427387904 := by decide
  rw [e]
  omega
theorem pure_l_same {K : PySem.W.Frag} {n : Nat} {vs : List V} {H : Hp} {Q : VK} {E : XK} (h : sp_sameN K (n + 1) vs H Q E) : t_l_same K n { nx := fun _ H' => Q .non H', rt := Q } (start N_l_same vs) H := by
  obtain ⟨x, y, rfl, h, k⟩ := h
  rcases h with ⟨rfl, h⟩ | ⟨p, q, xs, ys, rfl, rfl, h, hl, hz, hs⟩
  · rcases h with rfl | ⟨i, rfl⟩ | ⟨b, rfl⟩ | ⟨z, rfl⟩
    · refine ⟨_, rfl, isi (.base .non) k_nt ⟨_, rfl, iteF ⟨_, rfl, isi (.base .non) k_nl ⟨_, rfl, iteF ?_⟩⟩⟩⟩
      refine ⟨_, rfl, isi (.base .non) k_nb ⟨_, rfl, iteF ?_⟩⟩
      refine ⟨_, rfl, isi (.base .non) k_ni ⟨_, rfl, iteF ?_⟩⟩
      refine ⟨_, rfl, isi (.base .non) k_ns ⟨_, rfl, iteF ?_⟩⟩
      exact ⟨_, rfl, rfl, _, rfl, iteT ⟨_, rfl, rfl, k⟩⟩
    · refine ⟨_, rfl, isi (.base (.int i)) k_it ⟨_, rfl, iteF ⟨_, rfl, isi (.base (.int i)) k_il ⟨_, rfl, iteF ?_⟩⟩⟩⟩
      refine ⟨_, rfl, isi (.base (.int i)) k_ib ⟨_, rfl, iteF ?_⟩⟩
      refine ⟨_, rfl, isi (.base (.int i)) k_ii ⟨_, rfl, iteT ?_⟩⟩
      refine ⟨_, rfl, i, rfl, _, rfl, iteT ⟨_, rfl, _, rfl, rfl, ?_⟩⟩
      rw [decide_eq_true rfl]
      exact k
    · refine ⟨_, rfl, isi (.base (.bl b)) k_bt ⟨_, rfl, iteF ⟨_, rfl, isi (.base (.bl b)) k_bl ⟨_, rfl, iteF ?_⟩⟩⟩⟩
      refine ⟨_, rfl, isi (.base (.bl b)) k_bb ⟨_, rfl, iteT ?_⟩⟩
      refine ⟨_, rfl, isi (.base (.bl b)) k_bb ⟨_, rfl, iteT ⟨_, rfl, _, rfl, rfl, ?_⟩⟩⟩
      rw [decide_eq_true rfl]
      exact k
    · refine ⟨_, rfl, isi (.base (.str z)) k_st ⟨_, rfl, iteF ⟨_, rfl, isi (.base (.str z)) k_sl ⟨_, rfl, iteF ?_⟩⟩⟩⟩
      refine ⟨_, rfl, isi (.base (.str z)) k_sb ⟨_, rfl, iteF ?_⟩⟩
      refine ⟨_, rfl, isi (.base (.str z)) k_si ⟨_, rfl, iteF ?_⟩⟩
      refine ⟨_, rfl, isi (.base (.str z)) k_ss ⟨_, rfl, iteT ?_⟩⟩
      refine ⟨_, rfl, isi (.base (.str z)) k_ss ⟨_, rfl, iteT ⟨_, rfl, _, rfl, rfl, ?_⟩⟩⟩
      rw [decide_eq_true rfl]
      exact k
  · -- the loop over both
    have loop : (∃ o, (H p = some o ∧ (o = .lst xs ∨ o = .tup xs))) → (∃ o, (H q = some o ∧ (o = .lst ys ∨ o = .tup ys))) → ∀ z2 : Option V,
        t_l_same_loop K n { nx := t_l_same_tail K n { nx := fun _ H' => Q .non H', rt := Q }, rt := Q } [some (.ref p), some (.ref q), z2] H := by
      intro hp hq z2
      have hlen : ∀ {r : Addr} {zs : List V} {R : VK} {σ : L2.St}, (∃ o, (H r = some o ∧ (o = .lst zs ∨ o = .tup zs))) → R (.int zs.length) H → tNil σ H fun ws H2 => fLen K (.ref r :: ws) H2 R := by
        rintro r zs R σ ⟨o, h1, rfl | rfl⟩ h2
        · exact lenL h1 h2
        · exact lenT h1 h2
      have hix : ∀ {r : Addr} {zs : List V} {R : VK} {i : Int} {v : V}, (∃ o, (H r = some o ∧ (o = .lst zs ∨ o = .tup zs))) → atI zs i = some v → R v H → rIx K (.ref r) (.int i) H R := by
        rintro r zs R i v ⟨o, h1, rfl | rfl⟩ h2 h3
        · exact ixL h1 h2 h3
        · exact ixT h1 h2 h3
      refine ⟨_, rfl, hlen hp ⟨_, rfl, hlen hq ⟨rfl, _, rfl, ?_⟩⟩⟩
      rw [decide_eq_true (show V.int (xs.length : Int) = V.int (ys.length : Int) by rw [hl])]
      refine iteF ?_
      refine ⟨_, rfl, hlen hq ⟨_, rfl, (len_le (by omega)).1, (len_le (by omega)).2, for_range (lo := 0) (n := ((ys.length : Int)).toNat) (fun i σ H' => H' = H ∧ ∃ z, σ = [some (.ref p), some (.ref q), z]) ⟨rfl, _, rfl⟩ ?_ ?_⟩⟩
      · rintro i σ H' hi ⟨rfl, z, rfl⟩
        have hi1 : i < ys.length := by omega
        have hi2 : i < xs.length := by omega
        have e1 : atI xs (0 + (i : Int)) = some xs[i] := by rw [Int.zero_add]; exact atI_nat (List.getElem?_eq_getElem hi2)
        have e2 : atI ys (0 + (i : Int)) = some ys[i] := by rw [Int.zero_add]; exact atI_nat (List.getElem?_eq_getElem hi1)
        refine ⟨_, rfl, _, rfl, hix hp e1 ⟨_, rfl, _, rfl, hix hq e2 ⟨_, _, rfl, hs i _ _ (List.getElem?_eq_getElem hi2) (List.getElem?_eq_getElem hi1), _, rfl, iteF ?_⟩⟩⟩
        exact ⟨rfl, _, rfl⟩
      · rintro σ H' ⟨rfl, z, rfl⟩
        exact k
    rcases h with ⟨h1, h2⟩ | ⟨h1, h2⟩
    · have t1 : TyX K H (.ref p) (.type "list") := .base (.lst h1)
      have t2 : TyX K H (.ref q) (.type "list") := .base (.lst h2)
      refine ⟨_, rfl, isi t2 k_lt ⟨_, rfl, iteF ⟨_, rfl, isi t2 k_ll ⟨_, rfl, iteT ?_⟩⟩⟩⟩
      refine ⟨_, rfl, isi t2 k_lt ⟨_, rfl, isi t1 k_lt ⟨rfl, _, rfl, iteF ⟨_, rfl, isi t2 k_ll ⟨_, rfl, isi t1 k_ll ⟨rfl, _, rfl, iteF ?_⟩⟩⟩⟩⟩⟩
      exact loop ⟨_, h1, .inl rfl⟩ ⟨_, h2, .inl rfl⟩ _
    · have t1 : TyX K H (.ref p) (.type "tuple") := .base (.tup h1)
      have t2 : TyX K H (.ref q) (.type "tuple") := .base (.tup h2)
      refine ⟨_, rfl, isi t2 k_tt ⟨_, rfl, iteT ?_⟩⟩
      refine ⟨_, rfl, isi t2 k_tt ⟨_, rfl, isi t1 k_tt ⟨rfl, _, rfl, iteF ⟨_, rfl, isi t2 k_tl ⟨_, rfl, isi t1 k_tl ⟨rfl, _, rfl, iteF ?_⟩⟩⟩⟩⟩⟩
      exact loop ⟨_, h1, .inr rfl⟩ ⟨_, h2, .inr rfl⟩ _
def sp_law (K : PySem.W.Frag) : Sp := fun vs H Q _ => ∃ (a : Addr) (ns : List Int), vs = [.ref a] ∧ SqL K H a (ns.map V.int) ∧ ns.length ≤ 63 ∧ ∀ H', Q (.bl true) H'
section
variable {K : PySem.W.Frag} {vs : List V} {H : Hp} {Q : VK} {E : XK}
theorem len_law (h : sp_law K vs H Q E) : vs.length = 1 := by
  obtain ⟨_, _, rfl, _⟩ := h
  rfl
theorem len_l_deck (h : sp_l_deck K vs H Q E) : vs.length = 1 := by
  obtain ⟨_, _, rfl, _⟩ := h
  rfl
theorem len_l_mixed (h : sp_l_mixed K vs H Q E) : vs.length = 2 := by
  obtain ⟨_, _, rfl, _⟩ := h
  rfl
theorem len_l_draw (h : sp_l_draw K vs H Q E) : vs.length = 2 := by
  obtain ⟨_, _, _, _, _, rfl, _⟩ := h
  rfl
theorem len_l_int (h : sp_l_int K vs H Q E) : vs.length = 1 := by
  obtain ⟨_, rfl, _⟩ := h
  rfl
theorem len_sameN {n : Nat} (h : sp_sameN K n vs H Q E) : vs.length = 2 := by
  obtain ⟨_, _, rfl, _⟩ := h
  rfl
end
/-! ### comprehensions whose elements change nothing -/
section
variable {K : PySem.W.Frag} {a : Addr} {xs ys : List V} {g : TG} {tt : TT} {te : TE} {vs : List Nat} {σ : L2.St} {H1 : Hp} {D : Addr} {Qd : Hp → Prop}
/-- [e for x in xs], xs a tuple, ys the values in order -/
theorem lc_mapT (hq : ∀ acc, SqT K (upd H1 D (.lst acc)) a xs) (hl : ys.length = xs.length) (hz : xs.length ≤ 100000)
    (hs : ∀ (i : Nat) (x y : V) (acc : List V) (R : VK), xs[i]? = some x → ys[i]? = some y → R y (upd H1 D (.lst acc)) → g x (wipe σ vs) (upd H1 D (.lst acc)) fun σ2 H2 => wipe σ2 vs = wipe σ vs ∧ tt σ2 H2 fun b H3 => if b = true then te σ2 H3 R else False)
    (hd : Qd (upd H1 D (.lst ys))) (mt : ∀ σ H P P', (∀ b H1, P b H1 → P' b H1) → tt σ H P → tt σ H P') (mg : ∀ v σ H P P', (∀ σ1 H1, P σ1 H1 → P' σ1 H1) → g v σ H P → g v σ H P') :
    ∃ W : Nat → Nat → Hp → Prop, (∃ m, W 0 m (upd H1 D (.lst []))) ∧ ∀ i m H, W i m H →
      ((Itt K a).stop i H ∧ Qd H) ∨ ((Itt K a).go i H ∧ ∃ Nx : Hp → Prop, (∀ H', Nx H' → ∃ m', m' < m ∧ W (i + 1) m' H') ∧ ∀ x H', (Itt K a).yld i H x H' → g x (wipe σ vs) H' fun σ2 H2 => wipe σ2 vs = wipe σ vs ∧ tt σ2 H2 fun b H3 =>
        if b = true then te σ2 H3 fun y H4 => ∃ acc, H4 D = some (.lst acc) ∧ acc.length < sizeLine ∧ Nx (upd H4 D (.lst (acc ++ [y]))) else Nx H3) := by
  refine lc_tup (K := K) (a := a) (xs := xs) (fun i H => H = upd H1 D (.lst (ys.take i))) (by rw [List.take_zero]) (fun i H _ e => by rw [e]; exact hq _) (fun i x H hx e => ?_) (fun H e => by
    rw [e, List.take_of_length_le (by omega)]
    exact hd)
  subst e
  have hi : i < ys.length := by
    have := (List.getElem?_eq_some_iff.mp hx).1
    omega
  refine mg _ _ _ _ _ (fun σ1 H2 q => ⟨q.1, mt _ _ _ _ (fun b H3 q2 => ?_) q.2⟩) (hs i x ys[i] (ys.take i) (fun y H4 => ∃ acc, H4 D = some (.lst acc) ∧ acc.length < sizeLine ∧ upd H4 D (.lst (acc ++ [y])) = upd H1 D (.lst (ys.take (i + 1)))) hx (List.getElem?_eq_getElem hi) ⟨ys.take i, upd_same, Nat.lt_of_le_of_lt (by rw [List.length_take]; omega : (ys.take i).length ≤ 100000) (by decide), by rw [upd_upd, List.take_add_one, List.getElem?_eq_getElem hi]; rfl⟩)
  cases b with
  | true => exact q2
  | false => exact q2.elim
theorem lc_mapL (hq : ∀ acc, SqL K (upd H1 D (.lst acc)) a xs) (hl : ys.length = xs.length) (hz : xs.length ≤ 100000)
    (hs : ∀ (i : Nat) (x y : V) (acc : List V) (R : VK), xs[i]? = some x → ys[i]? = some y → R y (upd H1 D (.lst acc)) → g x (wipe σ vs) (upd H1 D (.lst acc)) fun σ2 H2 => wipe σ2 vs = wipe σ vs ∧ tt σ2 H2 fun b H3 => if b = true then te σ2 H3 R else False)
    (hd : Qd (upd H1 D (.lst ys))) (mt : ∀ σ H P P', (∀ b H1, P b H1 → P' b H1) → tt σ H P → tt σ H P') (mg : ∀ v σ H P P', (∀ σ1 H1, P σ1 H1 → P' σ1 H1) → g v σ H P → g v σ H P') :
    ∃ W : Nat → Nat → Hp → Prop, (∃ m, W 0 m (upd H1 D (.lst []))) ∧ ∀ i m H, W i m H →
      ((Itl K a).stop i H ∧ Qd H) ∨ ((Itl K a).go i H ∧ ∃ Nx : Hp → Prop, (∀ H', Nx H' → ∃ m', m' < m ∧ W (i + 1) m' H') ∧ ∀ x H', (Itl K a).yld i H x H' → g x (wipe σ vs) H' fun σ2 H2 => wipe σ2 vs = wipe σ vs ∧ tt σ2 H2 fun b H3 =>
        if b = true then te σ2 H3 fun y H4 => ∃ acc, H4 D = some (.lst acc) ∧ acc.length < sizeLine ∧ Nx (upd H4 D (.lst (acc ++ [y]))) else Nx H3) := by
  refine lc_list (K := K) (a := a) (xs := xs) (fun i H => H = upd H1 D (.lst (ys.take i))) (by rw [List.take_zero]) (fun i H _ e => by rw [e]; exact hq _) (fun i x H hx e => ?_) (fun H e => by
    rw [e, List.take_of_length_le (by omega)]
    exact hd)
  subst e
  have hi : i < ys.length := by
    have := (List.getElem?_eq_some_iff.mp hx).1
    omega
  refine mg _ _ _ _ _ (fun σ1 H2 q => ⟨q.1, mt _ _ _ _ (fun b H3 q2 => ?_) q.2⟩) (hs i x ys[i] (ys.take i) (fun y H4 => ∃ acc, H4 D = some (.lst acc) ∧ acc.length < sizeLine ∧ upd H4 D (.lst (acc ++ [y])) = upd H1 D (.lst (ys.take (i + 1)))) hx (List.getElem?_eq_getElem hi) ⟨ys.take i, upd_same, Nat.lt_of_le_of_lt (by rw [List.length_take]; omega : (ys.take i).length ≤ 100000) (by decide), by rw [upd_upd, List.take_add_one, List.getElem?_eq_getElem hi]; rfl⟩)
  cases b with
  | true => exact q2
  | false => exact q2.elim
theorem mono_yes : ∀ (σ : L2.St) (H : Hp) (P P' : Bool → Hp → Prop), (∀ b H1, P b H1 → P' b H1) → tYes σ H P → tYes σ H P' := fun _ _ _ _ f h => f _ _ h
theorem mono_gName {k : Nat} : ∀ (v : V) (σ : L2.St) (H : Hp) (P P' : L2.St → Hp → Prop), (∀ σ1 H1, P σ1 H1 → P' σ1 H1) → gName k v σ H P → gName k v σ H P' := fun _ _ _ _ _ f h => f _ _ h
end
end Fw

set_option Elab.async false
set_option linter.all false
set_option maxRecDepth 100000
set_option maxHeartbeats 4000000
namespace Fw
open PySem PySem.Spec PyProof.Rows L2
section
variable {X : Cx}
/-- a dict comprehension that is given to a name of its own, on one row -/
theorem sw_dict {kx vx : Expr} {gens : List Comprehension} {sc : Scope} {dpos npos : Pos} {nm : Str} {ln : Nat} {en : Env} (h1 : en.scope.kind = .function) (h2 : en.scope.names.lookup nm = some .local) (h3 : (npos.line == dpos.line) = true)
    (h4 : (sc.names.any fun (z, k) => z == nm && (k == .local || k == .cell)) = false) : swapsWith (.DictComp kx vx gens sc dpos) (some (.Name nm npos)) ln en = pure true := by
  have e1 : en.kindOf nm = some .local := h2
  have e2 : en.blockKind = .function := by
    unfold Env.blockKind
    rw [h1]
    rfl
  unfold swapsWith
  simp only [e2, e1, h4, Expr.pos, h3]
  rfl
theorem ps_setDc {i : Nat} {nm : Str} {npos : Pos} {kx vx tgt it : Expr} {tests : List Expr} {sc : Scope} {own : List (Str × Nat)} {dpos apos : Pos} {wi : TI} {g : TG} {tt : TT} {tk tv : TE} (calm : X.calm = true) (nd : X.N.Nodup) (at_ : X.N[i]? = some nm) (loc : X.env.scope.names.lookup nm = some .local)
    (sw : swapsWith (.DictComp kx vx [⟨tgt, it, tests, 0⟩] sc dpos) (some (.Name nm npos)) apos.line X.env = pure true) (walk : PI X tgt it wi) (blk : BlkOk X.N X.env.scope sc own)
    (pg : ∀ (z : Shared) (Hz : Hp) (cz : Addr) (clz : List (Str × Addr)) (fz : List Addr), PG (X.blk z Hz sc (compEnvC sc clz cz X.env) fz) tgt g)
    (pt : ∀ (z : Shared) (Hz : Hp) (cz : Addr) (clz : List (Str × Addr)) (fz : List Addr), PTs (X.blk z Hz sc (compEnvC sc clz cz X.env) fz) tests tt)
    (pk : ∀ (z : Shared) (Hz : Hp) (cz : Addr) (clz : List (Str × Addr)) (fz : List Addr), PE (X.blk z Hz sc (compEnvC sc clz cz X.env) fz) kx tk)
    (pv : ∀ (z : Shared) (Hz : Hp) (cz : Addr) (clz : List (Str × Addr)) (fz : List Addr), PE (X.blk z Hz sc (compEnvC sc clz cz X.env) fz) vx tv)
    (fold : ∀ z, foldedSetIterable it X.env z = pure z := by intro _; rfl) :
    PS X (.Assign [.Name nm npos] (.DictComp kx vx [⟨tgt, it, tests, 0⟩] sc dpos) apos) (tAsg (tDc wi g tt tk tv (own.map (·.2))) (gName i)) := by
  refine ⟨fun pins s σ H D inv rd => ?_⟩
  rw [exec_Assign_Name_used _ _ _ _ sw]
  refine wpAny_bind (wpAny_standAt ?_)
  refine wpAny_bind ?_
  show wpAny _ X.A (do let _ ← comprehension (.DictComp kx vx [⟨tgt, it, tests, 0⟩] sc dpos) sc X.env (firstIterPos [⟨tgt, it, tests, 0⟩] dpos) newDict false (eval it X.env) (some (assign (.Name nm npos) X.env))) _ _ s
  have rd2 : tDc wi g tt tk tv (own.map (·.2)) σ H (fun x Hx => gName i x σ Hx D.nx) := rd
  refine wpAny_bind (thn (dc_core (Qf := fun _ s1 => SP X pins D .next s1) calm nd inv walk blk pg pt pk pv fold rd2 fun F C s1 m H1 inv1 q ns fp => ?_) fun _ s1 z => wpAny_pure (wpAny_pure z))
  show wpAny _ _ (assign (.Name nm npos) X.env (.ref F)) _ _ _
  obtain ⟨p0, p1, _, p3, p4, p5⟩ := fp
  refine wpAny_assign_Name (store_ok2 (v := V.ref F) inv1 nd at_ (.inl loc) rfl (fun s2 inv2 ⟨b, same, hb⟩ => ?_) (.inr loc))
  have ne : C ≠ b := hb.elim (fun z => by rw [z]; exact p1) fun z e => p4 nm b z e.symm
  refine ⟨m, ns.sameBut same ne, fun h3 same3 => ⟨_, H1, ?_, q⟩⟩
  exact inv2.turned (t' := s2.toks) (fun x o nx e => (same3.2 x nx).trans e) p0 p1 p3 p4 p5
end
end Fw

set_option Elab.async false
set_option linter.all false
set_option maxRecDepth 100000
set_option maxHeartbeats 4000000
namespace Fw
open PySem L2 RZ RT
/-! ### data -/
inductive Dt where
  | non | bl (b : Bool) | int (i : Int) | str (z : Str) | tup (xs : List Dt) | lst (xs : List Dt) | dct
/-- the value x is the data d, as H stands -/
inductive At (H : Hp) : V → Dt → Prop where
  | non : At H .non .non
  | bl (b : Bool) : At H (.bl b) (.bl b)
  | int (i : Int) : At H (.int i) (.int i)
  | str (z : Str) : At H (.str z) (.str z)
  | tup {p : Addr} {xs : List V} {ds : List Dt} (h : H p = some (.tup xs)) (hz : xs.length ≤ 100000) (hl : xs.length = ds.length) (ha : ∀ (i : Nat) (x : V) (d : Dt), xs[i]? = some x → ds[i]? = some d → At H x d) : At H (.ref p) (.tup ds)
  | lst {p : Addr} {xs : List V} {ds : List Dt} (h : H p = some (.lst xs)) (hz : xs.length ≤ 100000) (hl : xs.length = ds.length) (ha : ∀ (i : Nat) (x : V) (d : Dt), xs[i]? = some x → ds[i]? = some d → At H x d) : At H (.ref p) (.lst ds)
  | dct {p : Addr} {kvs : List (Key × V)} (h : H p = some (.dK kvs)) : At H (.ref p) .dct
theorem At.mono {H H' : Hp} (s : Same H H') {x : V} {d : Dt} (a : At H x d) : At H' x d := by
  induction a with
  | non => exact .non
  | bl b => exact .bl b
  | int i => exact .int i
  | str z => exact .str z
  | tup h hz hl _ ih => exact .tup (s _ _ h) hz hl ih
  | lst h hz hl _ ih => exact .lst (s _ _ h) hz hl ih
  | dct h => exact .dct (s _ _ h)
def Dt.ty : Dt → String
  | .non => "NoneType"
  | .bl _ => "bool"
  | .int _ => "int"
  | .str _ => "str"
  | .tup _ => "tuple"
  | .lst _ => "list"
  | .dct => "dict"
theorem At.tyX {K : PySem.W.Frag} {H : Hp} {x : V} {d : Dt} (a : At H x d) : TyX K H x (.type d.ty) := by
  cases a with
  | non => exact .base .non
  | bl b => exact .base (.bl b)
  | int i => exact .base (.int i)
  | str z => exact .base (.str z)
  | tup h => exact .base (.tup h)
  | lst h => exact .base (.lst h)
  | dct h => exact .base (.dK h)
def isIntD : Dt → Bool
  | .int _ => true
  | _ => false
def isTupD : Dt → Bool
  | .tup _ => true
  | _ => false
def isPairD : Dt → Bool
  | .tup ds => decide (ds.length = 2)
  | _ => false
theorem k_dt : kitB "dict" "tuple" = some false := by decide +kernel
theorem k_di : kitB "dict" "int" = some false := by decide +kernel
theorem k_db : kitB "dict" "bool" = some false := by decide +kernel
theorem kit_tup (d : Dt) : kitB d.ty "tuple" = some (isTupD d) := by
  cases d with
  | non => exact k_nt
  | bl b => exact k_bt
  | int i => exact k_it
  | str z => exact k_st
  | tup xs => exact k_tt
  | lst xs => exact k_lt
  | dct => exact k_dt
/-- isinstance(x, tuple) of data -/
theorem isiTup {K : PySem.W.Frag} {H : Hp} {x : V} {d : Dt} {Q : VK} {σ : L2.St} (a : At H x d) (q : Q (.bl (isTupD d)) H) : tCons (tC (.ty "tuple")) tNil σ H fun ys H2 => rIsi K (x :: ys) H2 Q := isi a.tyX (kit_tup d) q
/-! ### inversions -/
theorem At.int_inv {H : Hp} {x : V} {i : Int} (a : At H x (.int i)) : x = .int i := by
  cases a
  rfl
theorem At.tup_inv {H : Hp} {x : V} {ds : List Dt} (a : At H x (.tup ds)) : ∃ (p : Addr) (xs : List V), x = .ref p ∧ H p = some (.tup xs) ∧ xs.length = ds.length ∧ xs.length ≤ 100000 ∧ ∀ (i : Nat) (x : V) (d : Dt), xs[i]? = some x → ds[i]? = some d → At H x d := by
  cases a with
  | tup h hz hl ha => exact ⟨_, _, rfl, h, hl, hz, ha⟩
theorem At.pair_inv {H : Hp} {x : V} {d e : Dt} (a : At H x (.tup [d, e])) : ∃ (p : Addr) (y z : V), x = .ref p ∧ H p = some (.tup [y, z]) ∧ At H y d ∧ At H z e := by
  obtain ⟨p, xs, rfl, h, hl, _, ha⟩ := a.tup_inv
  match xs, hl with
  | [y, z], _ => exact ⟨p, y, z, rfl, h, ha 0 _ _ rfl rfl, ha 1 _ _ rfl rfl⟩
theorem At.ints {H : Hp} {xs : List V} : ∀ {ns : List Int}, xs.length = ns.length → (∀ (i : Nat) (x : V) (d : Dt), xs[i]? = some x → (ns.map Dt.int)[i]? = some d → At H x d) → xs = ns.map V.int := by
  induction xs with
  | nil =>
    intro ns hl _
    cases ns with
    | nil => rfl
    | cons n r => cases hl
  | cons x r ih =>
    intro ns hl h
    cases ns with
    | nil => cases hl
    | cons n m =>
      rw [List.map_cons, (h 0 x (.int n) rfl rfl).int_inv, ih (ns := m) (Nat.succ.inj hl) fun i y d h1 h2 => h (i + 1) y d h1 h2]
/-- a tuple of ints -/
theorem At.of_ints {H : Hp} {p : Addr} {ns : List Int} (h : H p = some (.tup (ns.map V.int))) (hz : ns.length ≤ 100000) : At H (.ref p) (.tup (ns.map Dt.int)) := by
  refine .tup h (by rw [List.length_map]; exact hz) (by simp) fun i x d h1 h2 => ?_
  rw [List.getElem?_map] at h1 h2
  cases e : ns[i]? with
  | none => rw [e] at h1; cases h1
  | some n =>
    rw [e] at h1 h2
    cases Option.some.inj h1
    cases Option.some.inj h2
    exact .int n
theorem At.to_ints {H : Hp} {x : V} {ns : List Int} (a : At H x (.tup (ns.map Dt.int))) : ∃ p, x = .ref p ∧ H p = some (.tup (ns.map V.int)) ∧ ns.length ≤ 100000 := by
  obtain ⟨p, xs, rfl, h, hl, hz, ha⟩ := a.tup_inv
  rw [List.length_map] at hl
  have e := At.ints hl ha
  subst e
  exact ⟨p, rfl, h, by rw [List.length_map] at hz; exact hz⟩
/-! ### order -/
def adjL {α : Type} (r : α → α → Bool) (l : List α) : List Bool := List.zipWith r l (l.drop 1)
def adj {α : Type} (r : α → α → Bool) (l : List α) : Bool := (adjL r l).all id
theorem adjL_length {α : Type} (r : α → α → Bool) (l : List α) : (adjL r l).length = l.length - 1 := by
  unfold adjL
  rw [List.length_zipWith, List.length_drop]
  omega
theorem adjL_get {α : Type} {r : α → α → Bool} {l : List α} {i : Nat} {x y : α} {b : Bool} (hx : l[i]? = some x) (hy : l[i + 1]? = some y) (hb : (adjL r l)[i]? = some b) : b = r x y := by
  unfold adjL at hb
  rw [List.getElem?_zipWith, hx, List.getElem?_drop, Nat.add_comm 1 i, hy] at hb
  exact (Option.some.inj hb).symm
theorem adj_of {α : Type} {r : α → α → Bool} {l : List α} (h : ∀ (i : Nat) (x y : α), l[i]? = some x → l[i + 1]? = some y → r x y = true) : adj r l = true := by
  refine List.all_eq_true.mpr fun b hb => ?_
  obtain ⟨i, hi, e⟩ := List.getElem_of_mem hb
  have hl := adjL_length r l
  have h1 : i < l.length := by omega
  have h2 : i + 1 < l.length := by omega
  have := adjL_get (List.getElem?_eq_getElem h1) (List.getElem?_eq_getElem h2) (List.getElem?_eq_some_iff.mpr ⟨hi, e⟩)
  rw [this]
  exact h i _ _ (List.getElem?_eq_getElem h1) (List.getElem?_eq_getElem h2)
def ints1 : List Dt → List Int
  | .int i :: r => i :: ints1 r
  | _ :: r => ints1 r
  | [] => []
theorem ints1_map : ∀ ns : List Int, ints1 (ns.map Dt.int) = ns
  | [] => rfl
  | n :: r => by
    show n :: ints1 (r.map Dt.int) = n :: r
    rw [ints1_map r]
theorem allInt : ∀ {ds : List Dt}, ds.all isIntD = true → ds = (ints1 ds).map Dt.int
  | [], _ => rfl
  | .int i :: r, h => by
    have h2 : r.all isIntD = true := h
    show Dt.int i :: r = Dt.int i :: (ints1 r).map Dt.int
    rw [← allInt h2]
  | .non :: _, h => by cases h
  | .bl _ :: _, h => by cases h
  | .str _ :: _, h => by cases h
  | .tup _ :: _, h => by cases h
  | .lst _ :: _, h => by cases h
  | .dct :: _, h => by cases h
def ltD : Dt → Dt → Bool
  | .int i, .int j => decide (i < j)
  | .tup a, .tup b => HT.lexLt (ints1 a) (ints1 b)
  | _, _ => false
/-- what < of two values says -/
def Cmp (H : Hp) (x y : V) (b : Bool) : Prop := (∃ i j, x = .int i ∧ y = .int j ∧ b = decide (i < j)) ∨ (∃ p q ns ms, x = .ref p ∧ y = .ref q ∧ H p = some (.tup (ns.map V.int)) ∧ H q = some (.tup (ms.map V.int)) ∧ b = HT.lexLt ns ms)
theorem Cmp.mono {H H' : Hp} (s : Same H H') {x y : V} {b : Bool} (c : Cmp H x y b) : Cmp H' x y b := by
  rcases c with c | ⟨p, q, ns, ms, h1, h2, h3, h4, h5⟩
  · exact .inl c
  · exact .inr ⟨p, q, ns, ms, h1, h2, s _ _ h3, s _ _ h4, h5⟩
abbrev fLtA (K : PySem.W.Frag) : R2 := fun x y H Q => rLtI x y H Q ∨ rLtT K x y H Q
theorem Cmp.run {K : PySem.W.Frag} {H : Hp} {x y : V} {b : Bool} {Q : VK} (c : Cmp H x y b) (q : Q (.bl b) H) : fLtA K x y H Q := by
  rcases c with ⟨i, j, rfl, rfl, rfl⟩ | ⟨p, r, ns, ms, rfl, rfl, h3, h4, rfl⟩
  · exact .inl ⟨_, _, rfl, rfl, q⟩
  · exact .inr ⟨_, _, _, _, rfl, rfl, sqT h3, sqT h4, q⟩
/-! ### the comprehension over zip of two tuples -/
theorem lc_zipT {K : PySem.W.Frag} {a b : Addr} {xs ys : List V} {g : TG} {tt : TT} {te : TE} {vs : List Nat} {σ : L2.St} {H1 : Hp} {D : Addr} {Qd : Hp → Prop} (n : Nat) (hn : n = min xs.length ys.length) (Pv : Nat → Hp → Prop) (h0 : Pv 0 (upd H1 D (.lst [])))
    (hl : ∀ i H, Pv i H → SqT K H a xs ∧ SqT K H b ys)
    (hs : ∀ (i : Nat) (x y : V) (T : Addr) (H : Hp), xs[i]? = some x → ys[i]? = some y → Pv i H → H T = none → g (.ref T) (wipe σ vs) (upd H T (.tup [x, y])) fun σ2 H2 => wipe σ2 vs = wipe σ vs ∧ tt σ2 H2 fun b H3 =>
      if b = true then te σ2 H3 fun y H4 => ∃ acc, H4 D = some (.lst acc) ∧ acc.length < sizeLine ∧ Pv (i + 1) (upd H4 D (.lst (acc ++ [y]))) else Pv (i + 1) H3) (hd : ∀ H, Pv n H → Qd H) :
    ∃ W : Nat → Nat → Hp → Prop, (∃ m, W 0 m (upd H1 D (.lst []))) ∧ ∀ i m H, W i m H →
      ((ItzT K a b).stop i H ∧ Qd H) ∨ ((ItzT K a b).go i H ∧ ∃ Nx : Hp → Prop, (∀ H', Nx H' → ∃ m', m' < m ∧ W (i + 1) m' H') ∧ ∀ x H', (ItzT K a b).yld i H x H' → g x (wipe σ vs) H' fun σ2 H2 => wipe σ2 vs = wipe σ vs ∧ tt σ2 H2 fun b H3 =>
        if b = true then te σ2 H3 fun y H4 => ∃ acc, H4 D = some (.lst acc) ∧ acc.length < sizeLine ∧ Nx (upd H4 D (.lst (acc ++ [y]))) else Nx H3) := by
  refine ⟨fun i m H => m = n - i ∧ i ≤ n ∧ Pv i H, ⟨n, by simp, Nat.zero_le _, h0⟩, ?_⟩
  rintro i m H ⟨rfl, hi, p⟩
  obtain ⟨qa, qb⟩ := hl i H p
  by_cases hlt : i < n
  · have l1 : i < xs.length := by omega
    have l2 : i < ys.length := by omega
    refine .inr ⟨⟨xs, ys, xs[i], ys[i], qa, qb, List.getElem?_eq_getElem l1, List.getElem?_eq_getElem l2⟩, Pv (i + 1), fun H' p' => ⟨n - (i + 1), by omega, rfl, hlt, p'⟩, fun x H' y => ?_⟩
    obtain ⟨T, x1, x2, rfl, nT, rfl, f1, f2⟩ := y
    exact hs i x1 x2 T H (f1 _ qa) (f2 _ qb) p nT
  · have e : i = n := by omega
    subst e
    exact .inl ⟨⟨xs, ys, qa, qb, by omega⟩, hd H p⟩
/-! ### promises -/
def sp_is_int (_ : PySem.W.Frag) : Sp := fun vs H Q _ => ∃ (x : V) (d : Dt), vs = [x] ∧ At H x d ∧ Q (.bl (isIntD d)) H
def sp_is_pair (_ : PySem.W.Frag) : Sp := fun vs H Q _ => ∃ (x : V) (d : Dt), vs = [x] ∧ At H x d ∧ Q (.bl (isPairD d)) H
def sp_rises (_ : PySem.W.Frag) : Sp := fun vs H Q _ => ∃ (p : Addr) (xs : List V) (bs : List Bool), vs = [.ref p] ∧ H p = some (.tup xs) ∧ xs.length ≤ 100000 ∧ bs.length = xs.length - 1 ∧
  (∀ (i : Nat) (x y : V) (b : Bool), xs[i]? = some x → xs[i + 1]? = some y → bs[i]? = some b → Cmp H x y b) ∧ ∀ H', Same H H' → Q (.bl (bs.all id)) H'
abbrev N_is_int : List Str := ["thing"]
def t_is_int (K : PySem.W.Frag) : TS := (tRet (tAndV (tCB (rIsi K) (tCons (tVar 0) (tCons (tC (.ty "int")) tNil))) (tNotV (tCB (rIsi K) (tCons (tVar 0) (tCons (tC (.ty "bool")) tNil))))))
abbrev N_is_pair : List Str := ["thing"]
def t_is_pair (K : PySem.W.Frag) : TS := (tRet (tAndV (tCB (rIsi K) (tCons (tVar 0) (tCons (tC (.ty "tuple")) tNil))) (tOp rEq (tCB (fLen K) (tCons (tVar 0) tNil)) (tC (.int 2)))))
abbrev N_rises : List Str := ["things", "low", "high"]
def t_rises (K : PySem.W.Frag) : TS := (tRet (tCB (rAll K) (tCons (tLc (iZipA K (tCons (tVar 0) (tCons (tSl (rSlA K) (tVar 0) (tPart (tC (.int 1))) tNoPart) tNil))) (gTup K 2 (gCons (gName 1) (gCons (gName 2) gNil))) tYes (tOp (fLtA K) (tVar 1) (tVar 2)) [1, 2]) tNil)))
section
variable {K : PySem.W.Frag} {vs : List V} {H : Hp} {Q : VK} {E : XK}
theorem len_is_int (h : sp_is_int K vs H Q E) : vs.length = 1 := by
  obtain ⟨_, _, rfl, _⟩ := h
  rfl
theorem len_is_pair (h : sp_is_pair K vs H Q E) : vs.length = 1 := by
  obtain ⟨_, _, rfl, _⟩ := h
  rfl
theorem len_rises (h : sp_rises K vs H Q E) : vs.length = 1 := by
  obtain ⟨_, _, _, rfl, _⟩ := h
  rfl
theorem k_lI (d : Dt) : kitB d.ty "int" = some (match d with | .bl _ => true | .int _ => true | _ => false) := by
  cases d with
  | non => exact k_ni
  | bl b => exact k_bi
  | int i => exact k_ii
  | str z => exact k_si
  | tup xs => exact k_ti
  | lst xs => exact k_li
  | dct => exact k_di
theorem pure_is_int (h : sp_is_int K vs H Q E) : t_is_int K { nx := fun _ H' => Q .non H', rt := Q } (start N_is_int vs) H := by
  obtain ⟨x, d, rfl, a, k⟩ := h
  refine ⟨_, rfl, isi a.tyX (k_lI d) ⟨_, rfl, ?_⟩⟩
  cases d with
  | bl b => exact iteT ⟨_, rfl, isi a.tyX k_bb ⟨_, rfl, k⟩⟩
  | int i => exact iteT ⟨_, rfl, isi a.tyX k_ib ⟨_, rfl, k⟩⟩
  | _ => exact iteF k
theorem pure_is_pair (h : sp_is_pair K vs H Q E) : t_is_pair K { nx := fun _ H' => Q .non H', rt := Q } (start N_is_pair vs) H := by
  obtain ⟨x, d, rfl, a, k⟩ := h
  refine ⟨_, rfl, isiTup a ⟨_, rfl, ?_⟩⟩
  cases a with
  | @tup p xs ds hp hz hl ha =>
    refine iteT ⟨_, rfl, lenT hp ⟨rfl, ?_⟩⟩
    have e : decide (V.int (xs.length : Int) = V.int 2) = isPairD (.tup ds) := by
      show _ = decide (ds.length = 2)
      rw [← hl]
      by_cases h2 : xs.length = 2
      · rw [decide_eq_true h2, h2]
        rfl
      · rw [decide_eq_false h2]
        exact decide_eq_false fun z => h2 (by have := V.int.inj z; omega)
    rw [e]
    exact k
  | _ => exact iteF k
theorem cut1 (xs : List V) : cutV xs (some 1) none = xs.drop 1 := by
  unfold cutV
  rw [show HT.sIx xs.length 0 (some 1) = min 1 xs.length from HT.sIx_nat xs.length 0 1, HT.sIx_none]
  cases xs with
  | nil => rfl
  | cons x r =>
    rw [show min 1 (x :: r).length = 1 by
      rw [List.length_cons]
      omega]
    show (List.take ((x :: r).length - 1) r) = r
    rw [List.length_cons, Nat.add_sub_cancel]
    exact List.take_length
theorem pure_rises (h : sp_rises K vs H Q E) : t_rises K { nx := fun _ H' => Q .non H', rt := Q } (start N_rises vs) H := by
  obtain ⟨p, xs, bs, rfl, hp, hz, hb, hc, k⟩ := h
  -- zip(things, things[1:]), the second one at any place
  have main : ∀ (q : Addr) (H1 : Hp), Same H H1 → H1 q = some (.tup (xs.drop 1)) → ∀ D, H1 D = none → ∃ W : Nat → Nat → Hp → Prop, (∃ m, W 0 m (upd H1 D (.lst []))) ∧ ∀ i m H, W i m H →
      ((ItzT K p q).stop i H ∧ tNil (start N_rises [V.ref p]) H fun ys H2 => rAll K (.ref D :: ys) H2 Q) ∨ ((ItzT K p q).go i H ∧ ∃ Nx : Hp → Prop, (∀ H', Nx H' → ∃ m', m' < m ∧ W (i + 1) m' H') ∧ ∀ x H', (ItzT K p q).yld i H x H' → gTup K 2 (gCons (gName 1) (gCons (gName 2) gNil)) x (wipe (start N_rises [V.ref p]) [1, 2]) H' fun σ2 H2 => wipe σ2 [1, 2] = wipe (start N_rises [V.ref p]) [1, 2] ∧ tYes σ2 H2 fun b H3 =>
        if b = true then tOp (fLtA K) (tVar 1) (tVar 2) σ2 H3 fun y H4 => ∃ acc, H4 D = some (.lst acc) ∧ acc.length < sizeLine ∧ Nx (upd H4 D (.lst (acc ++ [y]))) else Nx H3) := by
    intro q H1 sm hq D nD
    refine lc_zipT (K := K) (a := p) (b := q) (xs := xs) (ys := xs.drop 1) (xs.length - 1) (by rw [List.length_drop]; omega) (fun i H2 => Same H1 H2 ∧ H2 D = some (.lst ((bs.take i).map V.bl))) ⟨fun b o e => updN (ne_of_none e nD) e, updS⟩ (fun i H2 s2 => ⟨sqT (s2.1 _ _ (sm _ _ hp)), sqT (s2.1 _ _ hq)⟩) (fun i x y T H2 hx hy s2 nT => ?_) (fun H2 s2 => ?_)
    · rw [List.getElem?_drop, Nat.add_comm] at hy
      have hi : i < bs.length := by
        have := (List.getElem?_eq_some_iff.mp hy).1
        omega
      have nTD : D ≠ T := ne_of_none s2.2 nT
      have sT : Same H1 (upd H2 T (.tup [x, y])) := fun b o e => updN (ne_of_none (s2.1 _ _ e) nT) (s2.1 _ _ e)
      refine ⟨T, [x, y], rfl, sqT updS, rfl, x, [y], rfl, y, [], rfl, rfl, rfl, ?_⟩
      refine ⟨_, rfl, _, rfl, Cmp.run ((hc i x y bs[i] hx hy (List.getElem?_eq_getElem hi)).mono (sm.trans sT)) ⟨(bs.take i).map V.bl, updN nTD s2.2, ?_, ?_⟩⟩
      · refine Nat.lt_of_le_of_lt (?_ : _ ≤ 100000) (by decide)
        rw [List.length_map, List.length_take]
        omega
      · refine ⟨fun b o e => updN (ne_of_none e nD) (sT _ _ e), ?_⟩
        rw [updS, List.take_add_one, List.getElem?_eq_getElem hi, List.map_append]
        rfl
    · refine ⟨D, bs, rfl, sqL ?_, k _ (sm.trans s2.1)⟩
      rw [s2.2, List.take_of_length_le (by omega)]
  refine ⟨_, rfl, _, rfl, _, rfl, p, xs, rfl, sqT hp, fun e => ?_, fun e q nq => ?_⟩
  · have e0 : xs.drop 1 = xs := by
      have e1 := e.1
      rw [show HT.sIx xs.length 0 (some 1) = min 1 xs.length from HT.sIx_nat xs.length 0 1] at e1
      have : xs.length = 0 := by omega
      rw [List.eq_nil_of_length_eq_zero this]
      rfl
    exact ⟨p, p, xs, xs, rfl, .inr ⟨sqT hp, sqT hp, main p H (Same.refl H) (by rw [e0]; exact hp)⟩⟩
  · have s1 : Same H (upd H q (.tup (cutV xs (some 1) none))) := fun b o e => updN (ne_of_none e nq) e
    refine ⟨p, q, xs, _, rfl, .inr ⟨sqT (s1 _ _ hp), sqT updS, main q _ s1 ?_⟩⟩
    rw [updS, cut1]
end
/-! ### sets of ints as dicts -/
def setOf (ns : List Int) : List (Key × V) := ns.foldl (fun acc n => putK acc (.inl n) (.bl true)) []
theorem setOf_snoc (ns : List Int) (n : Int) : setOf (ns ++ [n]) = putK (setOf ns) (.inl n) (.bl true) := by
  unfold setOf
  rw [List.foldl_append]
  rfl
theorem setOf_length (ns : List Int) : (setOf ns).length ≤ ns.length := by
  have : ∀ (ns : List Int) (acc : List (Key × V)), (ns.foldl (fun acc n => putK acc (.inl n) (.bl true)) acc).length ≤ acc.length + ns.length := by
    intro ns
    induction ns with
    | nil => intro acc; exact Nat.le_refl _
    | cons n r ih =>
      intro acc
      refine Nat.le_trans (ih (putK acc (.inl n) (.bl true))) ?_
      have := length_putK acc (.inl n : Key) (.bl true)
      rw [List.length_cons]
      omega
  have h := this ns []
  rw [List.length_nil, Nat.zero_add] at h
  exact h
theorem setOf_has (ns : List Int) (j : Int) : (valV (setOf ns) (.inl j)).isSome = ns.contains j := by
  have : ∀ (ns : List Int) (acc : List (Key × V)), (valV (ns.foldl (fun acc n => putK acc (.inl n) (.bl true)) acc) (.inl j)).isSome = ((valV acc (.inl j)).isSome || ns.contains j) := by
    intro ns
    induction ns with
    | nil => intro acc; simp
    | cons n r ih =>
      intro acc
      show (valV (r.foldl (fun acc n => putK acc (.inl n) (.bl true)) (putK acc (.inl n) (.bl true))) (.inl j)).isSome = _
      rw [ih, valV_put, List.contains_cons]
      by_cases e : j = n
      · subst e
        simp
      · have e2 : ¬ (Sum.inl j : Key) = Sum.inl n := fun z => e (Sum.inl.inj z)
        rw [if_neg e2, show (j == n) = false from beq_eq_false_iff_ne.mpr e, Bool.false_or]
  have h := this ns []
  rw [valV_nil] at h
  unfold setOf
  simpa using h
theorem take_snoc {α : Type} {l : List α} {i : Nat} {x : α} (h : l[i]? = some x) : l.take (i + 1) = l.take i ++ [x] := by
  rw [List.take_add_one, h]
  rfl
/-! ### rising, versions, links -/
def isRisingD : Dt → Bool
  | .tup ds => ds.all isIntD && adj ltD ds
  | _ => false
def geZ : Dt → Bool
  | .int i => decide (0 ≤ i)
  | _ => false
def areVersionsD : Dt → Bool
  | .tup ds => (ds.all isIntD && adj ltD ds) && (decide (ds.length ≤ 400) && ds.all geZ)
  | _ => false
def isLinkD (ns : List Int) : Dt → Bool
  | .tup [.int a, .int b] => ns.contains a && (ns.contains b && decide (b < a))
  | _ => false
def areLinksD (ns : List Int) : Dt → Bool
  | .tup ds => decide (ds.length ≤ 2000) && (ds.all (isLinkD ns) && adj ltD ds)
  | _ => false
def isShapeD : Dt → Bool
  | .tup [v, l] => areVersionsD v && areLinksD (match v with | .tup ds => ints1 ds | _ => []) l
  | _ => false
theorem isLinkD_two (ns : List Int) (a b : Int) : isLinkD ns (.tup [.int a, .int b]) = (ns.contains a && (ns.contains b && decide (b < a))) := rfl
theorem isRisingD_tup (ds : List Dt) : isRisingD (.tup ds) = (ds.all isIntD && adj ltD ds) := rfl
theorem areVersionsD_tup (ds : List Dt) : areVersionsD (.tup ds) = ((ds.all isIntD && adj ltD ds) && (decide (ds.length ≤ 400) && ds.all geZ)) := rfl
theorem areLinksD_tup (ns : List Int) (ds : List Dt) : areLinksD ns (.tup ds) = (decide (ds.length ≤ 2000) && (ds.all (isLinkD ns) && adj ltD ds)) := rfl
def isIntsD : Dt → Bool
  | .tup ds => ds.all isIntD
  | _ => false
def sp_is_intsD (_ : PySem.W.Frag) : Sp := fun vs H Q _ => ∃ (x : V) (d : Dt), vs = [x] ∧ At H x d ∧ ∀ H', Same H H' → Q (.bl (isIntsD d)) H'
theorem len_is_intsD {K : PySem.W.Frag} {vs : List V} {H : Hp} {Q : VK} {E : XK} (h : sp_is_intsD K vs H Q E) : vs.length = 1 := by
  obtain ⟨_, _, rfl, _⟩ := h
  rfl
def sp_is_rising (_ : PySem.W.Frag) : Sp := fun vs H Q _ => ∃ (x : V) (d : Dt), vs = [x] ∧ At H x d ∧ ∀ H', Same H H' → Q (.bl (isRisingD d)) H'
def sp_are_versions (_ : PySem.W.Frag) : Sp := fun vs H Q _ => ∃ (x : V) (d : Dt), vs = [x] ∧ At H x d ∧ ∀ H', Same H H' → Q (.bl (areVersionsD d)) H'
def sp_is_link (_ : PySem.W.Frag) : Sp := fun vs H Q _ => ∃ (x : V) (d : Dt) (k : Addr) (kvs : List (Key × V)) (ns : List Int), vs = [x, .ref k] ∧ At H x d ∧ H k = some (.dK kvs) ∧ (∀ i : Int, (valV kvs (.inl i)).isSome = ns.contains i) ∧ Q (.bl (isLinkD ns d)) H
def sp_are_links (_ : PySem.W.Frag) : Sp := fun vs H Q _ => ∃ (x y : V) (d : Dt) (ns : List Int), vs = [x, y] ∧ At H x d ∧ At H y (.tup (ns.map Dt.int)) ∧ ∀ H', Same H H' → Q (.bl (areLinksD ns d)) H'
abbrev N_is_ints : List Str := ["thing", "part"]
def t_is_ints (K : PySem.W.Frag) : TS := (tRet (tAndV (tCB (rIsi K) (tCons (tVar 0) (tCons (tC (.ty "tuple")) tNil))) (tCB (rAll K) (tCons (tLc (iTup K (tVar 0)) (gName 1) tYes (tCall (sp_is_int K) [] E0 (tCons (tVar 1) tNil)) [1]) tNil))))
abbrev N_is_rising : List Str := ["thing"]
def t_is_rising (K : PySem.W.Frag) : TS := (tRet (tAndV (tCall (sp_is_intsD K) [] E0 (tCons (tVar 0) tNil)) (tCall (sp_rises K) [] E0 (tCons (tVar 0) tNil))))
abbrev N_are_versions : List Str := ["thing", "version"]
def t_are_versions (K : PySem.W.Frag) : TS := (tRet (tAndV (tCall (sp_is_rising K) [] E0 (tCons (tVar 0) tNil)) (tAndV (tOp rLeI (tCB (fLen K) (tCons (tVar 0) tNil)) (tC (.int 400))) (tCB (rAll K) (tCons (tLc (iTup K (tVar 0)) (gName 1) tYes (tOp rGeI (tVar 1) (tC (.int 0))) [1]) tNil)))))
abbrev N_is_link : List Str := ["thing", "known"]
def t_is_link (K : PySem.W.Frag) : TS := (tSeq (tIfS (tOr (tNot (tB (tCall (sp_is_pair K) [] E0 (tCons (tVar 0) tNil)))) (tOr (tNot (tB (tCall (sp_is_int K) [] E0 (tCons (tOp (rIx K) (tVar 0) (tC (.int 0))) tNil)))) (tNot (tB (tCall (sp_is_int K) [] E0 (tCons (tOp (rIx K) (tVar 0) (tC (.int 1))) tNil)))))) (tRet (tC (.bl false))) tNext)
    (tRet (tAndV (tDIn (tOp (rIx K) (tVar 0) (tC (.int 0))) (tVar 1)) (tAndV (tDIn (tOp (rIx K) (tVar 0) (tC (.int 1))) (tVar 1)) (tOp rLtI (tOp (rIx K) (tVar 0) (tC (.int 1))) (tOp (rIx K) (tVar 0) (tC (.int 0))))))))
abbrev N_are_links : List Str := ["thing", "versions", "known", "version", "link"]
def t_are_links (K : PySem.W.Frag) : TS := (tSeq (tIfS (tOr (tNot (tB (tCB (rIsi K) (tCons (tVar 0) (tCons (tC (.ty "tuple")) tNil))))) (tTest (tOp rGtI (tCB (fLen K) (tCons (tVar 0) tNil)) (tC (.int 2000))))) (tRet (tC (.bl false))) tNext)
    (tSeq (tAsg (tDc (iTup K (tVar 1)) (gName 3) tYes (tVar 3) (tC (.bl true)) [3]) (gName 2))
    (tRet (tAndV (tCB (rAll K) (tCons (tLc (iTup K (tVar 0)) (gName 4) tYes (tCall (sp_is_link K) [] E0 (tCons (tVar 4) (tCons (tVar 2) tNil))) [4]) tNil)) (tCall (sp_rises K) [] E0 (tCons (tVar 0) tNil))))))
theorem cmp_of {H : Hp} {x y : V} {d e : Dt} (ax : At H x d) (ay : At H y e) (h : (∃ i j, d = .int i ∧ e = .int j) ∨ (∃ a b c f, d = .tup [.int a, .int b] ∧ e = .tup [.int c, .int f])) : Cmp H x y (ltD d e) := by
  rcases h with ⟨i, j, rfl, rfl⟩ | ⟨a, b, c, f, rfl, rfl⟩
  · exact .inl ⟨i, j, ax.int_inv, ay.int_inv, rfl⟩
  · obtain ⟨p, u, v, rfl, hp, a1, a2⟩ := ax.pair_inv
    obtain ⟨q, s, t, rfl, hq, b1, b2⟩ := ay.pair_inv
    rw [a1.int_inv, a2.int_inv] at hp
    rw [b1.int_inv, b2.int_inv] at hq
    exact .inr ⟨p, q, [a, b], [c, f], rfl, rfl, hp, hq, rfl⟩
section
variable {K : PySem.W.Frag} {vs : List V} {H : Hp} {Q : VK} {E : XK}
theorem len_is_rising (h : sp_is_rising K vs H Q E) : vs.length = 1 := by
  obtain ⟨_, _, rfl, _⟩ := h
  rfl
theorem len_are_versions (h : sp_are_versions K vs H Q E) : vs.length = 1 := by
  obtain ⟨_, _, rfl, _⟩ := h
  rfl
theorem len_is_link (h : sp_is_link K vs H Q E) : vs.length = 2 := by
  obtain ⟨_, _, _, _, _, rfl, _⟩ := h
  rfl
theorem len_are_links (h : sp_are_links K vs H Q E) : vs.length = 2 := by
  obtain ⟨_, _, _, _, rfl, _⟩ := h
  rfl
theorem map_all {α : Type} (f : α → Bool) (l : List α) : (l.map f).all id = l.all f := by
  rw [List.all_map]
  rfl
/-- rises of a tuple that is data of which all are ints, or all pairs of ints -/
theorem rises_at {p : Addr} {xs : List V} {ds : List Dt} {R : VK} (hp : H p = some (.tup xs)) (hz : xs.length ≤ 100000) (hl : xs.length = ds.length) (ha : ∀ (i : Nat) (x : V) (d : Dt), xs[i]? = some x → ds[i]? = some d → At H x d)
    (hd : (∀ d ∈ ds, ∃ i, d = .int i) ∨ ∀ d ∈ ds, ∃ a b, d = .tup [.int a, .int b]) (k : ∀ H', Same H H' → R (.bl (adj ltD ds)) H') : sp_rises K [.ref p] H R E := by
  refine ⟨p, xs, adjL ltD ds, rfl, hp, hz, by rw [adjL_length, hl], fun i x y b hx hy hb => ?_, k⟩
  have h1 : i < ds.length := by
    rw [← hl]
    exact (List.getElem?_eq_some_iff.mp hx).1
  have h2 : i + 1 < ds.length := by
    rw [← hl]
    exact (List.getElem?_eq_some_iff.mp hy).1
  have e1 := List.getElem?_eq_getElem h1
  have e2 := List.getElem?_eq_getElem h2
  rw [adjL_get e1 e2 hb]
  refine cmp_of (ha i x _ hx e1) (ha (i + 1) y _ hy e2) ?_
  rcases hd with hd | hd
  · obtain ⟨a, ea⟩ := hd _ (List.getElem_mem h1)
    obtain ⟨b, eb⟩ := hd _ (List.getElem_mem h2)
    exact .inl ⟨a, b, ea, eb⟩
  · obtain ⟨a, b, ea⟩ := hd _ (List.getElem_mem h1)
    obtain ⟨c, f, eb⟩ := hd _ (List.getElem_mem h2)
    exact .inr ⟨a, b, c, f, ea, eb⟩
theorem mem_int {ds : List Dt} (h : ds.all isIntD = true) : ∀ d ∈ ds, ∃ i, d = .int i := fun d hd => by
  have := List.all_eq_true.mp h d hd
  cases d with
  | int i => exact ⟨i, rfl⟩
  | _ => cases this
theorem pure_is_intsD (h : sp_is_intsD K vs H Q E) : t_is_ints K { nx := fun _ H' => Q .non H', rt := Q } (start N_is_ints vs) H := by
  obtain ⟨x, d, rfl, a, k⟩ := h
  refine ⟨_, rfl, isiTup a ⟨_, rfl, ?_⟩⟩
  cases a with
  | @tup p xs ds hp hz hl ha =>
    refine iteT ⟨_, rfl, p, rfl, ⟨_, sqT hp⟩, fun D nD => ?_⟩
    have up : ∀ acc, Same H (upd H D (.lst acc)) := fun acc b o e => updN (ne_of_none e nD) e
    refine lc_mapT (K := K) (a := p) (xs := xs) (ys := (ds.map isIntD).map V.bl) (fun acc => sqT (up acc _ _ hp)) (by simp [hl]) hz (fun i x y acc R hx hy r => ?_) ?_ mono_yes mono_gName
    · rw [List.getElem?_map, List.getElem?_map] at hy
      cases e : ds[i]? with
      | none => rw [e] at hy; cases hy
      | some d =>
        rw [e] at hy
        cases Option.some.inj hy
        exact ⟨rfl, ⟨_, rfl, x, d, rfl, (ha i x d hx e).mono (up acc), r⟩⟩
    · refine ⟨D, _, rfl, sqL updS, ?_⟩
      rw [map_all]
      exact k _ (up _)
  | _ => exact iteF (k _ (Same.refl H))
theorem pure_is_rising (h : sp_is_rising K vs H Q E) : t_is_rising K { nx := fun _ H' => Q .non H', rt := Q } (start N_is_rising vs) H := by
  obtain ⟨x, d, rfl, a, k⟩ := h
  refine ⟨_, rfl, x, d, rfl, a, fun H1 s1 => ⟨_, rfl, ?_⟩⟩
  cases a with
  | @tup p xs ds hp hz hl ha =>
    show if ds.all isIntD = true then _ else _
    refine ite2 (fun e => ?_) (fun e => ?_)
    · refine ⟨_, rfl, rises_at (K := K) (E := E0) (ds := ds) (s1 _ _ hp) hz hl (fun i x d h1 h2 => (ha i x d h1 h2).mono s1) (.inl (mem_int e)) fun H' s => ?_⟩
      have := k H' (s1.trans s)
      rw [isRisingD_tup, e, Bool.true_and] at this
      exact this
    · have e2 : ds.all isIntD = false := by
        cases q : ds.all isIntD with
        | true => exact absurd q e
        | false => rfl
      have := k _ s1
      rw [isRisingD_tup, e2, Bool.false_and] at this
      exact this
  | _ => exact iteF (k _ s1)
theorem pure_are_versions (h : sp_are_versions K vs H Q E) : t_are_versions K { nx := fun _ H' => Q .non H', rt := Q } (start N_are_versions vs) H := by
  obtain ⟨x, d, rfl, a, k⟩ := h
  refine ⟨_, rfl, x, d, rfl, a, fun H1 s1 => ⟨_, rfl, ?_⟩⟩
  have k1 : ∀ H', Same H1 H' → Q (.bl (areVersionsD d)) H' := fun H' s => k H' (s1.trans s)
  have a1 := a.mono s1
  cases a1 with
  | @tup p xs ds hp hz hl ha =>
    show if (ds.all isIntD && adj ltD ds) = true then _ else _
    refine ite2 (fun e => ?_) (fun e => ?_)
    · refine ⟨_, rfl, lenT hp ⟨_, _, rfl, rfl, _, rfl, ite2 (fun e2 => ?_) (fun e2 => ?_)⟩⟩
      · have e3 : decide (ds.length ≤ 400) = true := by
          have : (xs.length : Int) ≤ 400 := of_decide_eq_true e2
          exact decide_eq_true (by omega)
        refine ⟨_, rfl, p, rfl, ⟨_, sqT hp⟩, fun D nD => ?_⟩
        have up : ∀ acc, Same H1 (upd H1 D (.lst acc)) := fun acc b o e => updN (ne_of_none e nD) e
        refine lc_mapT (K := K) (a := p) (xs := xs) (ys := (ds.map geZ).map V.bl) (fun acc => sqT (up acc _ _ hp)) (by simp [hl]) hz (fun i x y acc R hx hy r => ?_) ?_ mono_yes mono_gName
        · rw [List.getElem?_map, List.getElem?_map] at hy
          cases ee : ds[i]? with
          | none => rw [ee] at hy; cases hy
          | some d =>
            rw [ee] at hy
            cases Option.some.inj hy
            rw [Bool.and_eq_true] at e
            obtain ⟨z, rfl⟩ := mem_int e.1 d (List.mem_of_getElem? ee)
            have := (ha i x _ hx ee).int_inv
            subst this
            exact ⟨rfl, ⟨_, rfl, _, _, rfl, rfl, r⟩⟩
        · refine ⟨D, _, rfl, sqL updS, ?_⟩
          rw [map_all]
          have := k1 _ (up ((ds.map geZ).map V.bl))
          rw [areVersionsD_tup, e, e3, Bool.true_and, Bool.true_and] at this
          exact this
      · have e3 : decide (ds.length ≤ 400) = false := decide_eq_false fun z => e2 (decide_eq_true (by omega))
        have := k1 _ (Same.refl H1)
        rw [areVersionsD_tup, e, e3, Bool.true_and, Bool.false_and] at this
        exact this
    · have e2 : (ds.all isIntD && adj ltD ds) = false := by
        cases q : (ds.all isIntD && adj ltD ds) with
        | true => exact absurd q e
        | false => rfl
      have := k1 _ (Same.refl H1)
      rw [areVersionsD_tup, e2, Bool.false_and] at this
      exact this
  | _ => exact iteF (k1 _ (Same.refl H1))
theorem link_no {ns : List Int} {e f : Dt} (h : ¬ (isIntD e = true ∧ isIntD f = true)) : isLinkD ns (.tup [e, f]) = false := by
  cases e <;> cases f <;> first | rfl | exact absurd ⟨rfl, rfl⟩ h
theorem pure_is_link (h : sp_is_link K vs H Q E) : t_is_link K { nx := fun _ H' => Q .non H', rt := Q } (start N_is_link vs) H := by
  obtain ⟨x, d, kk, kvs, ns, rfl, a, hk, hh, k⟩ := h
  refine ⟨_, rfl, x, d, rfl, a, _, rfl, ?_⟩
  by_cases hp : isPairD d = true
  · rw [hp]
    refine iteF ?_
    cases d with
    | tup ds =>
      have h2 : ds.length = 2 := of_decide_eq_true hp
      match ds, h2 with
      | [e, f], _ =>
        obtain ⟨p, y, z, rfl, hpp, ay, az⟩ := a.pair_inv
        refine ⟨_, rfl, ixT hpp rfl ⟨y, e, rfl, ay, _, rfl, ?_⟩⟩
        by_cases he : isIntD e = true
        · rw [he]
          refine iteF ⟨_, rfl, ixT hpp rfl ⟨z, f, rfl, az, _, rfl, ?_⟩⟩
          by_cases hf : isIntD f = true
          · rw [hf]
            refine iteF ?_
            cases e with
            | int i =>
              cases f with
              | int j =>
                have ey := ay.int_inv
                have ez := az.int_inv
                subst ey ez
                refine ⟨_, rfl, ixT hpp rfl ⟨_, rfl, kk, _, rfl, DGet.k (k := Sum.inl i) hk, _, rfl, ?_⟩⟩
                rw [hh]
                refine ite2 (fun e1 => ?_) (fun e1 => ?_)
                · refine ⟨_, rfl, ixT hpp rfl ⟨_, rfl, kk, _, rfl, DGet.k (k := Sum.inl j) hk, _, rfl, ?_⟩⟩
                  rw [hh]
                  refine ite2 (fun e2 => ?_) (fun e2 => ?_)
                  · refine ⟨_, rfl, ixT hpp rfl ⟨_, rfl, ixT hpp rfl ⟨_, _, rfl, rfl, ?_⟩⟩⟩
                    rw [isLinkD_two, e1, e2, Bool.true_and, Bool.true_and] at k
                    exact k
                  · rw [isLinkD_two, e1, Bool.eq_false_iff.mpr e2, Bool.true_and, Bool.false_and] at k
                    exact k
                · rw [isLinkD_two, Bool.eq_false_iff.mpr e1, Bool.false_and] at k
                  exact k
              | _ => cases hf
            | _ => cases he
          · rw [Bool.eq_false_iff.mpr hf]
            refine iteT ?_
            rw [link_no (fun q => hf q.2)] at k
            exact k
        · rw [Bool.eq_false_iff.mpr he]
          refine iteT ?_
          rw [link_no (fun q => he q.1)] at k
          exact k
    | _ => cases hp
  · rw [Bool.eq_false_iff.mpr hp]
    refine iteT ?_
    have e : isLinkD ns d = false := by
      cases d with
      | tup ds =>
        match ds, hp with
        | [], _ => rfl
        | [x], _ => cases x <;> rfl
        | [x, y], hp => exact absurd rfl hp
        | x :: y :: z :: r, _ => cases x <;> first | rfl | (cases y <;> rfl)
      | _ => rfl
    rw [e] at k
    exact k
theorem mem_link {ns : List Int} {ds : List Dt} (h : ds.all (isLinkD ns) = true) : ∀ d ∈ ds, ∃ a b, d = .tup [.int a, .int b] := fun d hd => by
  have := List.all_eq_true.mp h d hd
  unfold isLinkD at this
  split at this
  · exact ⟨_, _, rfl⟩
  · cases this
theorem pure_are_links (h : sp_are_links K vs H Q E) : t_are_links K { nx := fun _ H' => Q .non H', rt := Q } (start N_are_links vs) H := by
  obtain ⟨x, y, d, ns, rfl, a, ay, k⟩ := h
  refine ⟨_, rfl, isiTup a ⟨_, rfl, ?_⟩⟩
  cases a with
  | @tup p xs ds hp hz hl ha =>
    refine iteF ⟨_, rfl, lenT hp ⟨_, _, rfl, rfl, _, rfl, ite2 (fun e => ?_) (fun e => ?_)⟩⟩
    · have e2 : decide (ds.length ≤ 2000) = false := decide_eq_false fun z => by
        have : (2000 : Int) < xs.length := of_decide_eq_true e
        omega
      have := k _ (Same.refl H)
      rw [areLinksD_tup, e2, Bool.false_and] at this
      exact this
    · have e2 : decide (ds.length ≤ 2000) = true := by
        refine decide_eq_true ?_
        have : ¬ (2000 : Int) < xs.length := fun z => e (decide_eq_true z)
        omega
      obtain ⟨q, rfl, hq, hnz⟩ := ay.to_ints
      -- known = {version: True for version in versions}
      refine ⟨_, rfl, q, rfl, ⟨_, sqT hq⟩, fun D nD => ?_⟩
      have up : ∀ kvs, Same H (upd H D (.dK kvs)) := fun kvs b o e => updN (ne_of_none e nD) e
      refine dc_tup (K := K) (a := q) (xs := ns.map V.int) (fun i H2 => H2 = upd H D (.dK (setOf (ns.take i)))) (by rw [List.take_zero]; rfl) (fun i H2 _ e => by rw [e]; exact sqT (up _ _ _ hq)) (fun i x H2 hx e => ?_) (fun H2 e => ?_)
      · subst e
        rw [List.getElem?_map] at hx
        cases en : ns[i]? with
        | none => rw [en] at hx; cases hx
        | some n =>
          rw [en] at hx
          cases Option.some.inj hx
          refine ⟨rfl, ⟨_, rfl, setOf (ns.take i), Sum.inl n, rfl, updS, ?_, ?_⟩⟩
          · refine Nat.lt_of_le_of_lt (Nat.le_trans (setOf_length _) ?_ : _ ≤ 100000) (by decide)
            rw [List.length_take]
            omega
          · rw [upd_upd, take_snoc en, setOf_snoc]
      · subst e
        rw [List.length_map, List.take_length]
        -- all([is_link(link, known) for link in thing])
        refine ⟨_, rfl, p, rfl, ⟨_, sqT (up _ _ _ hp)⟩, fun M nM => ?_⟩
        have nMD : M ≠ D := fun z => by rw [z, updS] at nM; cases nM
        have s2 : ∀ acc, Same (upd H D (.dK (setOf ns))) (upd (upd H D (.dK (setOf ns))) M (.lst acc)) := fun acc b o e => updN (ne_of_none e nM) e
        refine lc_mapT (K := K) (a := p) (xs := xs) (ys := (ds.map (isLinkD ns)).map V.bl) (fun acc => sqT (s2 acc _ _ (up _ _ _ hp))) (by simp [hl]) hz (fun i x y acc R hx hy r => ?_) ?_ mono_yes mono_gName
        · rw [List.getElem?_map, List.getElem?_map] at hy
          cases ee : ds[i]? with
          | none => rw [ee] at hy; cases hy
          | some d =>
            rw [ee] at hy
            cases Option.some.inj hy
            exact ⟨rfl, ⟨_, rfl, _, rfl, x, d, D, setOf ns, ns, rfl, (ha i x d hx ee).mono ((up _).trans (s2 acc)), updN nMD.symm updS, setOf_has ns, r⟩⟩
        · refine ⟨M, _, rfl, sqL updS, _, rfl, ?_⟩
          rw [map_all]
          show if ds.all (isLinkD ns) = true then _ else _
          have kk : ∀ H', Same (upd (upd H D (.dK (setOf ns))) M (.lst ((ds.map (isLinkD ns)).map V.bl))) H' → Q (.bl (areLinksD ns (.tup ds))) H' := fun H' s => k H' (((up _).trans (s2 _)).trans s)
          refine ite2 (fun e3 => ?_) (fun e3 => ?_)
          · refine ⟨_, rfl, rises_at (K := K) (E := E0) (ds := ds) (s2 _ _ _ (up _ _ _ hp)) hz hl (fun i x d h1 h2 => (ha i x d h1 h2).mono ((up _).trans (s2 _))) (.inr (mem_link e3)) fun H' s => ?_⟩
            have := kk H' s
            rw [areLinksD_tup, e2, e3, Bool.true_and, Bool.true_and] at this
            exact this
          · have := kk _ (Same.refl _)
            rw [areLinksD_tup, e2, Bool.eq_false_iff.mpr e3, Bool.true_and, Bool.false_and] at this
            exact this
  | _ => exact iteT (k _ (Same.refl H))
end
end Fw

set_option Elab.async false
set_option linter.all false
set_option maxRecDepth 100000
set_option maxHeartbeats 4000000
namespace Fw
open PySem L2 RZ RT
/-! ### good shapes -/
def lkLt (a b : Int × Int) : Prop := a.1 < b.1 ∨ (a.1 = b.1 ∧ a.2 < b.2)
structure Good (vs : List Int) (ls : List (Int × Int)) : Prop where
  inc : vs.Pairwise (· < ·)
  nn : ∀ v ∈ vs, 0 ≤ v
  mem : ∀ l ∈ ls, l.1 ∈ vs ∧ l.2 ∈ vs ∧ l.2 < l.1
  lex : ls.Pairwise lkLt
theorem good_nil : Good [] [] := ⟨.nil, (fun _ h => by cases h), (fun _ h => by cases h), .nil⟩
/-- the links at these addresses -/
def LkAt (H : Hp) (rs : List Addr) (ls : List (Int × Int)) : Prop := rs.length = ls.length ∧ ∀ (i : Nat) (a : Addr) (l : Int × Int), rs[i]? = some a → ls[i]? = some l → H a = some (.tup [.int l.1, .int l.2])
def ShapeAt (H : Hp) (p : Addr) (vs : List Int) (ls : List (Int × Int)) : Prop := ∃ (q r : Addr) (rs : List Addr), H p = some (.tup [.ref q, .ref r]) ∧ H q = some (.tup (vs.map V.int)) ∧ H r = some (.tup (rs.map V.ref)) ∧ LkAt H rs ls
theorem LkAt.mono {H H' : Hp} {rs : List Addr} {ls : List (Int × Int)} (h : LkAt H rs ls) (s : ∀ (a : Addr) (xs : List V), H a = some (.tup xs) → H' a = some (.tup xs)) : LkAt H' rs ls := ⟨h.1, fun i a l h1 h2 => s _ _ (h.2 i a l h1 h2)⟩
theorem ShapeAt.mono {H H' : Hp} {p : Addr} {vs : List Int} {ls : List (Int × Int)} (h : ShapeAt H p vs ls) (s : ∀ (a : Addr) (xs : List V), H a = some (.tup xs) → H' a = some (.tup xs)) : ShapeAt H' p vs ls := by
  obtain ⟨q, r, rs, h1, h2, h3, h4⟩ := h
  exact ⟨q, r, rs, s _ _ h1, s _ _ h2, s _ _ h3, h4.mono s⟩
theorem LkAt.snoc {H : Hp} {rs : List Addr} {ls : List (Int × Int)} {T : Addr} {l : Int × Int} (h : LkAt H rs ls) (hT : H T = some (.tup [.int l.1, .int l.2])) : LkAt H (rs ++ [T]) (ls ++ [l]) := by
  refine ⟨by rw [List.length_append, List.length_append, h.1]; rfl, fun i a m h1 h2 => ?_⟩
  by_cases hi : i < rs.length
  · rw [List.getElem?_append_left hi] at h1
    rw [List.getElem?_append_left (by rw [← h.1]; exact hi)] at h2
    exact h.2 i a m h1 h2
  · have hi2 : i < (rs ++ [T]).length := (List.getElem?_eq_some_iff.mp h1).1
    rw [List.length_append, List.length_singleton] at hi2
    have e : i = rs.length := by omega
    rw [List.getElem?_append_right (by omega), e, Nat.sub_self] at h1
    rw [List.getElem?_append_right (by rw [← h.1]; omega), e, h.1, Nat.sub_self] at h2
    cases Option.some.inj h1
    cases Option.some.inj h2
    exact hT
theorem Dk.upd {c D q : Addr} {ns : List Int} {t : Nat} {H : Hp} {o : HO} (d : Dk c D ns t H) (h1 : q ≠ c) (h2 : q ≠ D) : Dk c D ns t (L2.upd H q o) := by
  obtain ⟨a, b, e, i, n, u, h, r⟩ := d
  exact ⟨a, updN h1.symm b, e, i, n, u, updN h2.symm h, r⟩
theorem Dk.le {c D : Addr} {ns : List Int} {t t' : Nat} {H : Hp} (d : Dk c D ns t H) (h : t ≤ t') : Dk c D ns t' H := by
  obtain ⟨a, b, e, i, n, u, hh, r1, r2, r3, r4, r5⟩ := d
  exact ⟨a, b, e, i, n, u, hh, r1, r2, r3, r4, by omega⟩
theorem Dk.someD {c D : Addr} {ns : List Int} {t : Nat} {H : Hp} (d : Dk c D ns t H) : ∃ xs, H D = some (.lst xs) := by
  obtain ⟨_, _, _, _, _, _, h, _⟩ := d
  exact ⟨_, h⟩
theorem Dk.someC {c D : Addr} {ns : List Int} {t : Nat} {H : Hp} (d : Dk c D ns t H) : ∃ xs, H c = some (.lst xs) := ⟨_, d.2.1⟩
theorem Dk.neD {c D q : Addr} {ns : List Int} {t : Nat} {H : Hp} (d : Dk c D ns t H) (h : H q = none) : q ≠ D := by
  obtain ⟨xs, e⟩ := d.someD
  exact (ne_of_none e h).symm
theorem Dk.neC {c D q : Addr} {ns : List Int} {t : Nat} {H : Hp} (d : Dk c D ns t H) (h : H q = none) : q ≠ c := by
  obtain ⟨xs, e⟩ := d.someC
  exact (ne_of_none e h).symm
/-- all but the deck stands -/
def Kp (D : Addr) (H H' : Hp) : Prop := ∀ b o, H b = some o → b ≠ D → H' b = some o
theorem Kp.refl (D : Addr) (H : Hp) : Kp D H H := fun _ _ e _ => e
theorem Kp.trans {D : Addr} {H H1 H2 : Hp} (a : Kp D H H1) (b : Kp D H1 H2) : Kp D H H2 := fun x o e n => b x o (a x o e n) n
theorem Kp.fr {D : Addr} {H H' : Hp} (f : ∀ b, b ≠ D → H' b = H b) : Kp D H H' := fun b o e n => by rw [f b n]; exact e
theorem Kp.new {D q : Addr} {H : Hp} {o : HO} (n : H q = none) : Kp D H (L2.upd H q o) := fun b u e _ => updN (ne_of_none e n) e
theorem Kp.of_same {D : Addr} {H H' : Hp} (s : Same H H') : Kp D H H' := fun b o e _ => s b o e
theorem Kp.tup {D : Addr} {H H' : Hp} {c : Addr} {ns : List Int} {t : Nat} (k : Kp D H H') (d : Dk c D ns t H) (a : Addr) (xs : List V) (h : H a = some (.tup xs)) : H' a = some (.tup xs) := by
  obtain ⟨ys, e⟩ := d.someD
  exact k a _ h (ne_of h e (by intro z; cases z))
/-- what was free at first, behind what keeps -/
theorem Kp.free {D q : Addr} {H H' : Hp} (k : Kp D H H') (h : H' q = none) (n : q ≠ D) : H q = none := by
  cases e : H q with
  | none => rfl
  | some o => rw [k q o e n] at h; cases h
/-- where two lists of one's own grow: versions and links -/
structure SI (H0 : Hp) (c D LV LL : Addr) (ns : List Int) (t : Nat) (vs : List Int) (rs : List Addr) (ls : List (Int × Int)) (H : Hp) : Prop where
  dk : Dk c D ns t H
  keep : Kp D H0 H
  hv : H LV = some (.lst (vs.map V.int))
  hl : H LL = some (.lst (rs.map V.ref))
  pr : LkAt H rs ls
  d0 : ∃ t0, Dk c D ns t0 H0
  v0 : H0 LV = none
  l0 : H0 LL = none
  ne : LV ≠ LL
section
variable {H0 H H' : Hp} {c D LV LL q : Addr} {ns : List Int} {t t' : Nat} {vs : List Int} {rs : List Addr} {ls : List (Int × Int)} {o : HO}
theorem SI.vD (s : SI H0 c D LV LL ns t vs rs ls H) : LV ≠ D := s.d0.choose_spec.neD s.v0
theorem SI.vC (s : SI H0 c D LV LL ns t vs rs ls H) : LV ≠ c := s.d0.choose_spec.neC s.v0
theorem SI.lD (s : SI H0 c D LV LL ns t vs rs ls H) : LL ≠ D := s.d0.choose_spec.neD s.l0
theorem SI.lC (s : SI H0 c D LV LL ns t vs rs ls H) : LL ≠ c := s.d0.choose_spec.neC s.l0
theorem SI.draw (s : SI H0 c D LV LL ns t vs rs ls H) (d : Dk c D ns t' H') (f : ∀ b, b ≠ D → H' b = H b) : SI H0 c D LV LL ns t' vs rs ls H' :=
  ⟨d, s.keep.trans (.fr f), by rw [f _ s.vD]; exact s.hv, by rw [f _ s.lD]; exact s.hl, s.pr.mono fun a xs h => (Kp.fr f).tup s.dk a xs h, s.d0, s.v0, s.l0, s.ne⟩
theorem SI.new (s : SI H0 c D LV LL ns t vs rs ls H) (n : H q = none) : SI H0 c D LV LL ns t vs rs ls (upd H q o) :=
  ⟨s.dk.upd (s.dk.neC n) (s.dk.neD n), s.keep.trans (.new n), updN (ne_of_none s.hv n) s.hv, updN (ne_of_none s.hl n) s.hl, s.pr.mono fun a xs h => updN (ne_of_none h n) h, s.d0, s.v0, s.l0, s.ne⟩
theorem SI.addV (s : SI H0 c D LV LL ns t vs rs ls H) (x : Int) : SI H0 c D LV LL ns t (vs ++ [x]) rs ls (upd H LV (.lst (vs.map V.int ++ [.int x]))) :=
  ⟨s.dk.upd s.vC s.vD, fun b u e n => updN (ne_of_none e s.v0) (s.keep b u e n), by rw [updS, List.map_append]; rfl, updN s.ne.symm s.hl, s.pr.mono fun a xs h => updN (ne_of h s.hv (by intro z; cases z)) h, s.d0, s.v0, s.l0, s.ne⟩
theorem SI.addL (s : SI H0 c D LV LL ns t vs rs ls H) {T : Addr} {l : Int × Int} (hT : H T = some (.tup [.int l.1, .int l.2])) : SI H0 c D LV LL ns t vs (rs ++ [T]) (ls ++ [l]) (upd H LL (.lst (rs.map V.ref ++ [.ref T]))) :=
  ⟨s.dk.upd s.lC s.lD, fun b u e n => updN (ne_of_none e s.l0) (s.keep b u e n), updN s.ne s.hv, by rw [updS, List.map_append]; rfl, (s.pr.snoc hT).mono fun a xs h => updN (ne_of h s.hl (by intro z; cases z)) h, s.d0, s.v0, s.l0, s.ne⟩
theorem SI.le (s : SI H0 c D LV LL ns t vs rs ls H) (h : t ≤ t') : SI H0 c D LV LL ns t' vs rs ls H := ⟨s.dk.le h, s.keep, s.hv, s.hl, s.pr, s.d0, s.v0, s.l0, s.ne⟩
end
/-- what a maker of shapes promises: a good shape, new -/
def sp_mkshape (most0 lim : Nat) (len : Int → Nat → Prop) (lks : List Int → List (Int × Int) → Prop) : Sp := fun vs H Q _ => ∃ (c D : Addr) (ns : List Int) (t : Nat) (most : Int), vs = [.ref D, .int most] ∧ Dk c D ns t H ∧ 0 ≤ most ∧ most ≤ most0 ∧ t + lim < 1000000000 ∧
  ∀ (p : Addr) (ws : List Int) (ls : List (Int × Int)) (H' : Hp), Kp D H H' → Dk c D ns (t + lim) H' → ShapeAt H' p ws ls → Good ws ls → len most ws.length → lks ws ls → Q (.ref p) H'
abbrev sp_l_shape (_ : PySem.W.Frag) : Sp := sp_mkshape 60 4000 (fun most n => (n : Int) ≤ most) (fun ws ls => ls.length ≤ ws.length * ws.length)
theorem len_mkshape {a b : Nat} {l : Int → Nat → Prop} {lk : List Int → List (Int × Int) → Prop} {vs : List V} {H : Hp} {Q : VK} {E : XK} (h : sp_mkshape a b l lk vs H Q E) : vs.length = 2 := by
  obtain ⟨_, _, _, _, _, rfl, _⟩ := h
  rfl
theorem len_l_shape {K : PySem.W.Frag} {vs : List V} {H : Hp} {Q : VK} {E : XK} (h : sp_l_shape K vs H Q E) : vs.length = 2 := len_mkshape h
abbrev N_l_shape : List Str := ["_law_deck_here", "_law_most", "_law_versions", "_law_last", "_law_far", "_law_road", "_law_links", "_law_k", "_law_j", "_law_hit"]
def t_l_shape_h3 (K : PySem.W.Frag) : TS := (tIfS (tB (tVar 9)) (tDrop (tBM K "list" rAppend (tVar 6) (tCons (tTup (tCons (tVar 3) (tCons (tOp (rIx K) (tVar 2) (tVar 8)) tNil))) tNil))) tNext)
def t_l_shape_h2 (K : PySem.W.Frag) : TS := (tSeq (tIfS (tAnd (tTest (tOp rEq (tVar 5) (tC (.int 2)))) (tTest (tOp rEq (tVar 8) (tOp rSubI (tVar 7) (tC (.int 1)))))) (tAsg (tC (.bl true)) (gName 9)) tNext)
    (t_l_shape_h3 K))
def t_l_shape_h1 (K : PySem.W.Frag) : TS := (tSeq (tIfS (tAnd (tTest (tOp rEq (tVar 5) (tC (.int 1)))) (tTest (tOp rGtI (tOp rSubI (tVar 7) (tVar 8)) (tC (.int 2))))) (tAsg (tC (.bl false)) (gName 9)) tNext)
    (t_l_shape_h2 K))
def t_l_shape_app (K : PySem.W.Frag) : TS := (tDrop (tBM K "list" rAppend (tVar 2) (tCons (tVar 3) tNil)))
def t_l_shape_inner (K : PySem.W.Frag) : TS := (tSeq (tFor (iRng1 (tCons (tVar 7) tNil)) (gName 8) (tSeq (tAsg (tOp rEq (tCall (sp_l_draw K) [] E0 (tCons (tVar 0) (tCons (tOp (rIx K) (tLst (tCons (tC (.int 3)) (tCons (tC (.int 2)) (tCons (tC (.int 6)) (tCons (tC (.int 9)) tNil))))) (tVar 5)) tNil))) (tC (.int 0))) (gName 9))
    (t_l_shape_h1 K)))
    (t_l_shape_app K))
def t_l_shape_end (K : PySem.W.Frag) : TS := (tRet (tTup (tCons (tCB (fTupleOf K) (tCons (tVar 2) tNil)) (tCons (tCB (fTupleOf K) (tCons (tVar 6) tNil)) tNil))))
def t_l_shape (K : PySem.W.Frag) : TS := (tSeq (tAsg (tLst tNil) (gName 2))
    (tSeq (tAsg (tUn rNegI (tC (.int 1))) (gName 3))
    (tSeq (tAsg (tCall (sp_l_draw K) [] E0 (tCons (tVar 0) (tCons (tC (.int 4)) tNil))) (gName 4))
    (tSeq (tAsg (tCall (sp_l_draw K) [] E0 (tCons (tVar 0) (tCons (tC (.int 4)) tNil))) (gName 5))
    (tSeq (tAsg (tLst tNil) (gName 6))
    (tSeq (tFor (iRng1 (tCons (tCall (sp_l_draw K) [] E0 (tCons (tVar 0) (tCons (tOp rAddI (tVar 1) (tC (.int 1))) tNil))) tNil)) (gName 7) (tSeq (tAsg (tOp rAddI (tOp rAddI (tVar 3) (tC (.int 1))) (tCall (sp_l_draw K) [] E0 (tCons (tVar 0) (tCons (tC (.int 3)) tNil)))) (gName 3))
    (tSeq (tIfS (tAnd (tTest (tOp rEq (tVar 4) (tC (.int 0)))) (tTest (tOp rEq (tCall (sp_l_draw K) [] E0 (tCons (tVar 0) (tCons (tC (.int 4)) tNil))) (tC (.int 0))))) (tAsg (tOp rAddI (tVar 3) (tCall (sp_l_draw K) [] E0 (tCons (tVar 0) (tCons (tOp rPowI (tC (.int 10)) (tC (.int 18))) tNil)))) (gName 3)) tNext)
    (t_l_shape_inner K))))
    (t_l_shape_end K)))))))
theorem pick4 {w : Int} (h0 : 0 ≤ w) (h1 : w < 4) : ∃ m : Int, atI [V.int 3, .int 2, .int 6, .int 9] w = some (.int m) ∧ 0 < m ∧ m ≤ 9 := by
  have : w = 0 ∨ w = 1 ∨ w = 2 ∨ w = 3 := by omega
  rcases this with rfl | rfl | rfl | rfl
  · exact ⟨3, rfl, by decide, by decide⟩
  · exact ⟨2, rfl, by decide, by decide⟩
  · exact ⟨6, rfl, by decide, by decide⟩
  · exact ⟨9, rfl, by decide, by decide⟩
/-- the links while those of one version are drawn: last is above all of vs -/
structure GI (vs : List Int) (ls : List (Int × Int)) (last : Int) (j : Nat) : Prop where
  inc : vs.Pairwise (· < ·)
  nn : ∀ v ∈ vs, 0 ≤ v
  top : ∀ v ∈ vs, v < last
  lz : 0 ≤ last
  mem : ∀ l ∈ ls, (l.1 ∈ vs ∨ l.1 = last) ∧ l.2 ∈ vs ∧ l.2 < l.1
  lex : ls.Pairwise lkLt
  new : ∀ l ∈ ls, l.1 < last ∨ (l.1 = last ∧ ∀ (i : Nat) (w : Int), j ≤ i → vs[i]? = some w → l.2 < w)
theorem GI.skip {vs : List Int} {ls : List (Int × Int)} {last : Int} {j : Nat} (g : GI vs ls last j) : GI vs ls last (j + 1) :=
  ⟨g.inc, g.nn, g.top, g.lz, g.mem, g.lex, fun l hl => (g.new l hl).imp id fun h => ⟨h.1, fun i w hi => h.2 i w (by omega)⟩⟩
theorem GI.hit {vs : List Int} {ls : List (Int × Int)} {last w : Int} {j : Nat} (g : GI vs ls last j) (hw : vs[j]? = some w) : GI vs (ls ++ [(last, w)]) last (j + 1) := by
  have hm : w ∈ vs := List.mem_of_getElem? hw
  refine ⟨g.inc, g.nn, g.top, g.lz, fun l hl => ?_, ?_, fun l hl => ?_⟩
  · rcases List.mem_append.mp hl with hl | hl
    · exact g.mem l hl
    · cases List.mem_singleton.mp hl
      exact ⟨.inr rfl, hm, g.top w hm⟩
  · refine List.pairwise_append.mpr ⟨g.lex, List.pairwise_singleton _ _, fun l hl m hm2 => ?_⟩
    cases List.mem_singleton.mp hm2
    rcases g.new l hl with h | h
    · exact .inl h
    · exact .inr ⟨h.1, h.2 j w (Nat.le_refl _) hw⟩
  · rcases List.mem_append.mp hl with hl | hl
    · exact g.skip.new l hl
    · cases List.mem_singleton.mp hl
      refine .inr ⟨rfl, fun i u hi hu => ?_⟩
      have h1 := (List.getElem?_eq_some_iff.mp hw)
      have h2 := (List.getElem?_eq_some_iff.mp hu)
      obtain ⟨l1, e1⟩ := h1
      obtain ⟨l2, e2⟩ := h2
      have := List.pairwise_iff_getElem.mp g.inc j i l1 l2 (by omega)
      show w < u
      rw [← e1, ← e2]
      exact this
theorem GI.close {vs : List Int} {ls : List (Int × Int)} {last : Int} {j : Nat} (g : GI vs ls last j) : Good (vs ++ [last]) ls := by
  refine ⟨List.pairwise_append.mpr ⟨g.inc, List.pairwise_singleton _ _, fun a ha b hb => ?_⟩, fun v hv => ?_, fun l hl => ?_, g.lex⟩
  · cases List.mem_singleton.mp hb
    exact g.top a ha
  · rcases List.mem_append.mp hv with hv | hv
    · exact g.nn v hv
    · cases List.mem_singleton.mp hv
      exact g.lz
  · obtain ⟨h1, h2, h3⟩ := g.mem l hl
    refine ⟨?_, List.mem_append_left _ h2, h3⟩
    rcases h1 with h1 | h1
    · exact List.mem_append_left _ h1
    · exact List.mem_append_right _ (by rw [h1]; exact List.mem_singleton.mpr rfl)
theorem GI.open {vs : List Int} {ls : List (Int × Int)} {last : Int} (g : Good vs ls) (h : ∀ v ∈ vs, v < last) (h0 : 0 ≤ last) : GI vs ls last 0 :=
  ⟨g.inc, g.nn, h, h0, fun l hl => ⟨.inl (g.mem l hl).1, (g.mem l hl).2⟩, g.lex, fun l hl => .inl (h _ (g.mem l hl).1)⟩
theorem shape_end {K : PySem.W.Frag} {H0 H : Hp} {c D LV LL : Addr} {ns : List Int} {t : Nat} {vs : List Int} {rs : List Addr} {ls : List (Int × Int)} {Q : VK} (s : SI H0 c D LV LL ns t vs rs ls H)
    (k : ∀ p H', Kp D H0 H' → Dk c D ns t H' → ShapeAt H' p vs ls → Q (.ref p) H') : ∀ p, H p = none → ∀ r, upd H p (.tup (vs.map V.int)) r = none → ∀ w, upd (upd H p (.tup (vs.map V.int))) r (.tup (rs.map V.ref)) w = none →
      Q (.ref w) (upd (upd (upd H p (.tup (vs.map V.int))) r (.tup (rs.map V.ref))) w (.tup [.ref p, .ref r])) := by
  intro p np r nr w nw
  have s1 : SI H0 c D LV LL ns t vs rs ls (upd H p (.tup (vs.map V.int))) := s.new np
  have s2 : SI H0 c D LV LL ns t vs rs ls (upd (upd H p (.tup (vs.map V.int))) r (.tup (rs.map V.ref))) := s1.new nr
  have s3 : SI H0 c D LV LL ns t vs rs ls (upd (upd (upd H p (.tup (vs.map V.int))) r (.tup (rs.map V.ref))) w (.tup [.ref p, .ref r])) := s2.new nw
  have npr : p ≠ r := fun e => by rw [← e, updS] at nr; cases nr
  have npw : p ≠ w := fun e => by rw [← e, upd_ne npr, updS] at nw; cases nw
  have nrw : r ≠ w := fun e => by rw [← e, updS] at nw; cases nw
  exact k w _ s3.keep s3.dk ⟨p, r, rs, updS, updN npw (updN npr updS), updN nrw updS, s3.pr⟩
/-- the state of the outer loop -/
def ShO (H : Hp) (c D LV LL : Addr) (ns : List Int) (most far road : Int) (t : Nat) (i : Nat) (σ : L2.St) (H' : Hp) : Prop := ∃ (ws : List Int) (rs : List Addr) (ls : List (Int × Int)) (last : Int) (z7 z8 z9 : Option V),
  σ = [some (.ref D), some (.int most), some (.ref LV), some (.int last), some (.int far), some (.int road), some (.ref LL), z7, z8, z9] ∧
    SI H c D LV LL ns (t + 3 + 64 * i) ws rs ls H' ∧ Good ws ls ∧ ws.length = i ∧ (∀ v ∈ ws, v ≤ last) ∧ -1 ≤ last ∧ ls.length ≤ i * i
/-- the state of the inner one -/
def ShN (H : Hp) (c D LV LL : Addr) (ns : List Int) (most far road last : Int) (t : Nat) (i : Nat) (ws : List Int) (j : Nat) (σ : L2.St) (H' : Hp) : Prop := ∃ (rs : List Addr) (ls : List (Int × Int)) (z8 z9 : Option V),
  σ = [some (.ref D), some (.int most), some (.ref LV), some (.int last), some (.int far), some (.int road), some (.ref LL), some (.int (0 + (i : Int))), z8, z9] ∧
    SI H c D LV LL ns (t + j) ws rs ls H' ∧ GI ws ls last j ∧ ls.length ≤ i * i + j
theorem pure_l_shape {K : PySem.W.Frag} {vs : List V} {H : Hp} {Q : VK} {E : XK} (h : sp_l_shape K vs H Q E) : t_l_shape K { nx := fun _ H' => Q .non H', rt := Q } (start N_l_shape vs) H := by
  obtain ⟨c, D, ns, t, most, rfl, dk, m0, m1, ht, k⟩ := h
  refine ⟨Nat.zero_le _, fun LV nV => ⟨_, rfl, ?_⟩⟩
  have d1 := dk.upd (o := .lst []) (dk.neC nV) (dk.neD nV)
  refine ⟨_, rfl, c, D, ns, t, 4, rfl, d1, by omega, by decide, by decide, fun far H1 f0 f1 d2 fr1 => ?_⟩
  refine ⟨_, rfl, c, D, ns, t + 1, 4, rfl, d2, by omega, by decide, by decide, fun road H2 r0 r1 d3 fr2 => ?_⟩
  refine ⟨Nat.zero_le _, fun LL nL => ?_⟩
  have hV2 : H2 LV = some (.lst []) := by rw [fr2 _ (dk.neD nV), fr1 _ (dk.neD nV)]; exact updS
  have nVL : LV ≠ LL := ne_of_none hV2 nL
  have k2 : Kp D H H2 := ((Kp.new nV).trans (.fr fr1)).trans (.fr fr2)
  have nL0 : H LL = none := k2.free nL (d3.neD nL)
  have s0 : SI H c D LV LL ns (t + 1 + 1) [] [] [] (upd H2 LL (.lst [])) :=
    ⟨d3.upd (d3.neC nL) (d3.neD nL), k2.trans (.new nL), updN nVL hV2, updS, ⟨rfl, fun i a l h1 _ => by cases h1⟩, ⟨t, dk⟩, nV, nL0, nVL⟩
  have m100 : (most + 1).natAbs < 2 ^ 100 := small100 (by omega)
  refine ⟨_, rfl, _, rfl, _, _, rfl, rfl, c, D, ns, t + 1 + 1, most + 1, rfl, s0.dk, by omega, by omega, m100, fun n H3 n0 n1 d4 fr3 => ⟨_, rfl, by omega, by omega, ?_⟩⟩
  refine for_range (lo := 0) (n := n.toNat) (ShO H c D LV LL ns most far road t) ?_ ?_ ?_
  · exact ⟨[], [], [], -1, none, none, none, rfl, s0.draw d4 fr3, good_nil, rfl, (fun _ h => by cases h), Int.le_refl _, Nat.le_refl _⟩
  · rintro i σ H' hi ⟨ws, rs, ls, last, z7, z8, z9, rfl, s, g, hw, hlast, hl1, hlen⟩
    have hi60 : i < 61 := by omega
    -- last = last + 1 + draw(3)
    refine ⟨_, rfl, _, _, rfl, rfl, _, rfl, c, D, ns, _, 3, rfl, s.dk, by omega, by decide, by decide, fun x H4 x0 x1 d5 fr4 => ⟨_, _, rfl, rfl, ?_⟩⟩
    have sA := s.draw d5 fr4
    -- what stands from the inner loop on
    have inner : ∀ (last' : Int) (t' : Nat) (H5 : Hp) (z8 z9 : Option V) (Dd : Ends), (∀ σ H', ShO H c D LV LL ns most far road t (i + 1) σ H' → Dd.nx σ H') → last < last' → t' ≤ t + 3 + 64 * i + 3 → SI H c D LV LL ns t' ws rs ls H5 →
        t_l_shape_inner K Dd [some (.ref D), some (.int most), some (.ref LV), some (.int last'), some (.int far), some (.int road), some (.ref LL), some (.int (0 + (i : Int))), z8, z9] H5 := by
      intro last' t' H5 z8 z9 Dd kd hlt htt s5
      have g0 : GI ws ls last' 0 := .open g (fun v hv => by have := hlast v hv; omega) (by omega)
      refine ⟨_, rfl, _, rfl, by omega, by omega, ?_⟩
      refine for_range (lo := 0) (n := (0 + (i : Int)).toNat) (ShN H c D LV LL ns most far road last' t' i ws) ?_ ?_ ?_
      · exact ⟨rs, ls, z8, z9, rfl, s5, g0, hlen⟩
      · rintro j σ H6 hj ⟨rs, ls, z8, z9, rfl, s6, g6, hlen6⟩
        have hj2 : j < ws.length := by omega
        have hwj : ws[j]? = some ws[j] := List.getElem?_eq_getElem hj2
        -- the last if, the hit known
        have h3 : ∀ (b : Bool) (H7 : Hp) (Dd : Ends), (∀ σ H', ShN H c D LV LL ns most far road last' t' i ws (j + 1) σ H' → Dd.nx σ H') → SI H c D LV LL ns (t' + j + 1) ws rs ls H7 → t_l_shape_h3 K Dd
            [some (.ref D), some (.int most), some (.ref LV), some (.int last'), some (.int far), some (.int road), some (.ref LL), some (.int (0 + (i : Int))), some (.int (0 + (j : Int))), some (.bl b)] H7 := by
          intro b H7 Dd kd s7
          refine ⟨_, rfl, _, rfl, ?_⟩
          cases b with
          | false => exact iteF (kd _ _ ⟨rs, ls, _, _, rfl, s7, g6.skip, by omega⟩)
          | true =>
            refine iteT ⟨_, rfl, .inl ⟨rfl, _, sqL s7.hl⟩, _, rfl, _, rfl, _, rfl, ixL s7.hv (v := .int ws[j]) ?_ ⟨by show (2 : Nat) ≤ sizeLine; decide, fun T nT => ?_⟩⟩
            · rw [Int.zero_add]
              exact atI_nat (by rw [List.getElem?_map, hwj]; rfl)
            · have s8 : SI H c D LV LL ns (t' + j + 1) ws rs ls (upd H7 T (.tup [.int last', .int ws[j]])) := s7.new nT
              have nTL : T ≠ LL := (ne_of_none s7.hl nT).symm
              refine ⟨LL, _, _, rfl, rfl, s8.hl, ?_, ?_⟩
              · rw [List.length_map, s7.pr.1]
                have : i * i ≤ 60 * 60 := Nat.mul_le_mul (by omega) (by omega)
                exact Nat.lt_of_le_of_lt (show ls.length ≤ 4000 by omega) (by decide)
              · exact kd _ _ ⟨rs ++ [T], ls ++ [(last', ws[j])], _, _, rfl, s8.addL (l := (last', ws[j])) updS, g6.hit hwj, by rw [List.length_append, List.length_singleton]; omega⟩
        -- hit = draw(..) == 0
        refine ⟨_, rfl, by show (4 : Nat) ≤ sizeLine; decide, fun q nq => ?_⟩
        obtain ⟨m, em, mm0, mm1⟩ := pick4 r0 r1
        have s7 : SI H c D LV LL ns (t' + j) ws rs ls (upd H6 q (.lst [.int 3, .int 2, .int 6, .int 9])) := s6.new nq
        refine ⟨_, rfl, ixL updS em ⟨c, D, ns, _, m, rfl, s7.dk, by omega, mm0, small100 (by omega), fun y H8 y0 y1 d8 fr8 => ⟨rfl, ?_⟩⟩⟩
        have s8 := s7.draw d8 fr8
        have h2 : ∀ (b : Bool) (Dd : Ends), (∀ σ H', ShN H c D LV LL ns most far road last' t' i ws (j + 1) σ H' → Dd.nx σ H') → t_l_shape_h2 K Dd [some (.ref D), some (.int most), some (.ref LV), some (.int last'), some (.int far), some (.int road), some (.ref LL), some (.int (0 + (i : Int))), some (.int (0 + (j : Int))), some (.bl b)] H8 := fun b Dd kd =>
          ⟨_, rfl, rfl, _, rfl, ite2 (fun _ => ⟨_, rfl, _, rfl, _, _, rfl, rfl, rfl, _, rfl, ite2 (fun _ => h3 true H8 _ kd s8) (fun _ => h3 b H8 _ kd s8)⟩) (fun _ => iteF (h3 b H8 _ kd s8))⟩
        refine ⟨_, rfl, rfl, _, rfl, ?_⟩
        refine ite2 (fun _ => ?_) (fun _ => iteF (h2 _ _ fun _ _ z => z))
        exact ⟨_, rfl, _, rfl, _, _, rfl, rfl, _, _, rfl, rfl, _, rfl, ite2 (fun _ => h2 false _ fun _ _ z => z) (fun _ => h2 _ _ fun _ _ z => z)⟩
      · rintro σ H6 ⟨rs, ls, z8, z9, rfl, s6, g6, hlen6⟩
        -- versions.append(last)
        refine ⟨_, rfl, .inl ⟨rfl, _, sqL s6.hv⟩, _, rfl, LV, _, _, rfl, rfl, s6.hv, ?_, ?_⟩
        · rw [List.length_map, hw]
          exact Nat.lt_of_le_of_lt (show i ≤ 1000 by omega) (by decide)
        · refine kd _ _ ⟨ws ++ [last'], rs, ls, last', _, _, _, rfl, (s6.addV last').le (by omega), g6.close, by rw [List.length_append, hw]; rfl, fun v hv => ?_, by omega, ?_⟩
          · rcases List.mem_append.mp hv with hv | hv
            · have := hlast v hv
              omega
            · cases List.mem_singleton.mp hv
              exact Int.le_refl _
          · have : (i + 1) * (i + 1) = i * i + 2 * i + 1 := by rw [Nat.add_mul, Nat.mul_add]; omega
            omega
    -- if far == 0 and draw(4) == 0
    refine ⟨_, rfl, rfl, _, rfl, ite2 (fun _ => ?_) (fun _ => iteF (inner _ _ _ _ _ _ (fun _ _ z => z) (by omega) (by omega) sA))⟩
    refine ⟨_, rfl, c, D, ns, _, 4, rfl, sA.dk, by omega, by decide, by decide, fun y H5 y0 y1 d6 fr5 => ⟨rfl, _, rfl, ?_⟩⟩
    have sB := sA.draw d6 fr5
    refine ite2 (fun _ => ?_) (fun _ => inner _ _ _ _ _ _ (fun _ _ z => z) (by omega) (by omega) sB)
    refine ⟨_, rfl, _, rfl, _, _, rfl, rfl, ⟨by decide, by decide, by decide⟩, c, D, ns, _, _, rfl, sB.dk, by omega, by rw [pow18]; decide, by rw [pow18]; decide, fun z H6 w0 w1 d7 fr6 => ⟨_, _, rfl, rfl, ?_⟩⟩
    exact inner _ _ _ _ _ _ (fun _ _ z => z) (by omega) (by omega) (sB.draw d7 fr6)
  · rintro σ H' ⟨ws, rs, ls, last, z7, z8, z9, rfl, s, g, hw, hlast, hl1, hlen⟩
    refine ⟨_, rfl, LV, _, rfl, .inl ⟨sqL s.hv, fun p np => ⟨_, rfl, LL, _, rfl, .inl ⟨sqL (updN (ne_of_none s.hl np) s.hl), fun r nr => ⟨by show (2 : Nat) ≤ sizeLine; decide, fun w nw => ?_⟩⟩⟩⟩⟩
    exact shape_end (K := K) s (fun p H' k1 d sh => k p ws ls H' k1 (d.le (by omega)) sh g (show ((ws.length : Nat) : Int) ≤ most by rw [hw]; omega) (show ls.length ≤ ws.length * ws.length by rw [hw]; exact hlen)) p np r nr w nw
end Fw

set_option Elab.async false
set_option linter.all false
set_option maxRecDepth 100000
set_option maxHeartbeats 4000000
namespace Fw
open PySem L2 RZ RT
/-! ### long shapes -/
def vsL (a g : Int) (n : Nat) : List Int := (List.range n).map fun k : Nat => a + g * (k : Int)
def lsL (a g : Int) (w n : Nat) : List (Int × Int) := (List.range (n - w)).map fun j : Nat => (a + g * ((w : Int) + (j : Int)), a + g * (j : Int))
theorem vsL_length (a g : Int) (n : Nat) : (vsL a g n).length = n := by simp [vsL]
theorem lsL_length (a g : Int) (w n : Nat) : (lsL a g w n).length = n - w := by simp [lsL]
theorem vsL_get {a g : Int} {n i : Nat} (h : i < n) : (vsL a g n)[i]? = some (a + g * (i : Int)) := by
  simp [vsL, h]
theorem vsL_get_lt {a g : Int} {n i : Nat} {z : Int} (h : (vsL a g n)[i]? = some z) : i < n ∧ z = a + g * (i : Int) := by
  have hi : i < (vsL a g n).length := (List.getElem?_eq_some_iff.mp h).1
  rw [vsL_length] at hi
  rw [vsL_get hi] at h
  exact ⟨hi, (Option.some.inj h).symm⟩
theorem vsL_mem {a g : Int} {n : Nat} {v : Int} (h : v ∈ vsL a g n) : ∃ k : Nat, k < n ∧ v = a + g * (k : Int) := by
  obtain ⟨k, hk, e⟩ := List.mem_map.mp h
  exact ⟨k, List.mem_range.mp hk, e.symm⟩
theorem vsL_mem_of {a g : Int} {n k : Nat} (h : k < n) : a + g * (k : Int) ∈ vsL a g n := List.mem_map.mpr ⟨k, List.mem_range.mpr h, rfl⟩
theorem mono_g {a g : Int} (h : 0 < g) {i j : Nat} (hij : i < j) : a + g * (i : Int) < a + g * (j : Int) := by
  have := Int.mul_lt_mul_of_pos_left (show (i : Int) < (j : Int) by omega) h
  omega
theorem good_long {a g : Int} {w n : Nat} (ha : 0 ≤ a) (hg : 0 < g) (hw : 0 < w) : Good (vsL a g n) (lsL a g w n) := by
  refine ⟨?_, fun v hv => ?_, fun l hl => ?_, ?_⟩
  · exact List.pairwise_map.mpr (List.pairwise_lt_range.imp fun h => mono_g hg h)
  · obtain ⟨k, _, rfl⟩ := vsL_mem hv
    have := Int.mul_nonneg (Int.le_of_lt hg) (show (0 : Int) ≤ (k : Int) by omega)
    omega
  · obtain ⟨j, hj, rfl⟩ := List.mem_map.mp hl
    have hj2 := List.mem_range.mp hj
    have e : ((w : Int) + (j : Int)) = ((w + j : Nat) : Int) := by omega
    refine ⟨?_, vsL_mem_of (by omega), ?_⟩
    · show a + g * ((w : Int) + (j : Int)) ∈ vsL a g n
      rw [e]
      exact vsL_mem_of (by omega)
    · show a + g * (j : Int) < a + g * ((w : Int) + (j : Int))
      rw [e]
      exact mono_g hg (by omega)
  · refine List.pairwise_map.mpr (List.pairwise_lt_range.imp fun {i j} h => .inl ?_)
    show a + g * ((w : Int) + (i : Int)) < a + g * ((w : Int) + (j : Int))
    have e : ∀ x : Nat, ((w : Int) + (x : Int)) = ((w + x : Nat) : Int) := fun x => by omega
    rw [e, e]
    exact mono_g hg (by omega)
/-! ### a comprehension over a range, its elements changing nothing -/
theorem lc_mapR {lo : Int} {n : Nat} {ys : List V} {g : TG} {tt : TT} {te : TE} {vs : List Nat} {σ : L2.St} {H1 : Hp} {D : Addr} {Qd : Hp → Prop} (hl : ys.length = n) (hz : n ≤ 100000)
    (hs : ∀ (i : Nat) (y : V) (acc : List V) (R : VK), i < n → ys[i]? = some y → R y (upd H1 D (.lst acc)) → g (.int (lo + i)) (wipe σ vs) (upd H1 D (.lst acc)) fun σ2 H2 => wipe σ2 vs = wipe σ vs ∧ tt σ2 H2 fun b H3 => if b = true then te σ2 H3 R else False)
    (hd : Qd (upd H1 D (.lst ys))) (mt : ∀ σ H P P', (∀ b H1, P b H1 → P' b H1) → tt σ H P → tt σ H P') (mg : ∀ v σ H P P', (∀ σ1 H1, P σ1 H1 → P' σ1 H1) → g v σ H P → g v σ H P') :
    ∃ W : Nat → Nat → Hp → Prop, (∃ m, W 0 m (upd H1 D (.lst []))) ∧ ∀ i m H, W i m H →
      ((Itr lo n).stop i H ∧ Qd H) ∨ ((Itr lo n).go i H ∧ ∃ Nx : Hp → Prop, (∀ H', Nx H' → ∃ m', m' < m ∧ W (i + 1) m' H') ∧ ∀ x H', (Itr lo n).yld i H x H' → g x (wipe σ vs) H' fun σ2 H2 => wipe σ2 vs = wipe σ vs ∧ tt σ2 H2 fun b H3 =>
        if b = true then te σ2 H3 fun y H4 => ∃ acc, H4 D = some (.lst acc) ∧ acc.length < sizeLine ∧ Nx (upd H4 D (.lst (acc ++ [y]))) else Nx H3) := by
  refine lc_range (lo := lo) (n := n) (fun i H => H = upd H1 D (.lst (ys.take i))) (by rw [List.take_zero]) (fun i H hi e => ?_) (fun H e => by
    rw [e, List.take_of_length_le (by omega)]
    exact hd)
  subst e
  have hi2 : i < ys.length := by omega
  refine mg _ _ _ _ _ (fun σ1 H2 q => ⟨q.1, mt _ _ _ _ (fun b H3 q2 => ?_) q.2⟩) (hs i ys[i] (ys.take i) (fun y H4 => ∃ acc, H4 D = some (.lst acc) ∧ acc.length < sizeLine ∧ upd H4 D (.lst (acc ++ [y])) = upd H1 D (.lst (ys.take (i + 1)))) hi (List.getElem?_eq_getElem hi2) ⟨ys.take i, upd_same, Nat.lt_of_le_of_lt (by rw [List.length_take]; omega : (ys.take i).length ≤ 100000) (by decide), by rw [upd_upd, List.take_add_one, List.getElem?_eq_getElem hi2]; rfl⟩)
  cases b with
  | true => exact q2
  | false => exact q2.elim
def sp_l_long_shape (_ : PySem.W.Frag) : Sp := fun vs H Q _ => ∃ (c D : Addr) (ns : List Int) (t : Nat) (most : Int), vs = [.ref D, .int most] ∧ Dk c D ns t H ∧ 0 ≤ most ∧ most ≤ 400 ∧ t + 4 < 1000000000 ∧
  ∀ (p q r : Addr) (rs : List Addr) (a g : Int) (w n : Nat) (H' : Hp), Kp D H H' → Dk c D ns (t + 4) H' → H' p = some (.tup [.ref q, .ref r, .int (w : Int)]) → H' q = some (.tup ((vsL a g n).map V.int)) → H' r = some (.tup (rs.map V.ref)) → LkAt H' rs (lsL a g w n) →
    0 ≤ a → a < 1000000 → 1 ≤ g → g ≤ 3 → 1 ≤ w → w ≤ 6 → (n : Int) ≤ most → Q (.ref p) H'
theorem len_l_long_shape {K : PySem.W.Frag} {vs : List V} {H : Hp} {Q : VK} {E : XK} (h : sp_l_long_shape K vs H Q E) : vs.length = 2 := by
  obtain ⟨_, _, _, _, _, rfl, _⟩ := h
  rfl
abbrev N_l_long_shape : List Str := ["_law_deck_here", "_law_most", "_law_first", "_law_gap", "_law_width", "_law_many", "_law_versions", "_law_k", "_law_links"]
def t_l_long_shape_links (K : PySem.W.Frag) : TS := (tSeq (tAsg (tLc (iRng2 (tCons (tVar 4) (tCons (tVar 5) tNil))) (gName 7) tYes (tTup (tCons (tOp (rIx K) (tVar 6) (tVar 7)) (tCons (tOp (rIx K) (tVar 6) (tOp rSubI (tVar 7) (tVar 4))) tNil))) [7]) (gName 8))
    (tRet (tTup (tCons (tCB (fTupleOf K) (tCons (tVar 6) tNil)) (tCons (tCB (fTupleOf K) (tCons (tVar 8) tNil)) (tCons (tVar 4) tNil))))))
def t_l_long_shape (K : PySem.W.Frag) : TS := (tSeq (tAsg (tCall (sp_l_draw K) [] E0 (tCons (tVar 0) (tCons (tOp rPowI (tC (.int 10)) (tC (.int 6))) tNil))) (gName 2))
    (tSeq (tAsg (tOp rAddI (tC (.int 1)) (tCall (sp_l_draw K) [] E0 (tCons (tVar 0) (tCons (tC (.int 3)) tNil)))) (gName 3))
    (tSeq (tAsg (tOp rAddI (tC (.int 1)) (tCall (sp_l_draw K) [] E0 (tCons (tVar 0) (tCons (tC (.int 6)) tNil)))) (gName 4))
    (tSeq (tAsg (tCall (sp_l_draw K) [] E0 (tCons (tVar 0) (tCons (tOp rAddI (tVar 1) (tC (.int 1))) tNil))) (gName 5))
    (tSeq (tAsg (tLc (iRng1 (tCons (tVar 5) tNil)) (gName 7) tYes (tOp rAddI (tVar 2) (tOp rMulI (tVar 3) (tVar 7))) [7]) (gName 6))
    (t_l_long_shape_links K))))))
theorem pow6 : (10 : Int) ^ (6 : Int).toNat = 1000000 := by decide
theorem pure_l_long_shape {K : PySem.W.Frag} {vs : List V} {H : Hp} {Q : VK} {E : XK} (h : sp_l_long_shape K vs H Q E) : t_l_long_shape K { nx := fun _ H' => Q .non H', rt := Q } (start N_l_long_shape vs) H := by
  obtain ⟨c, D, ns, t, most, rfl, dk, m0, m1, ht, k⟩ := h
  refine ⟨_, rfl, _, _, rfl, rfl, ⟨by decide, by decide, by decide⟩, c, D, ns, t, _, rfl, dk, by omega, by rw [pow6]; decide, by rw [pow6]; decide, fun a H1 a0 a1 d1 fr1 => ?_⟩
  rw [pow6] at a1
  refine ⟨_, rfl, c, D, ns, _, 3, rfl, d1, by omega, by decide, by decide, fun g H2 g0 g1 d2 fr2 => ⟨_, _, rfl, rfl, ?_⟩⟩
  refine ⟨_, rfl, c, D, ns, _, 6, rfl, d2, by omega, by decide, by decide, fun w H3 w0 w1 d3 fr3 => ⟨_, _, rfl, rfl, ?_⟩⟩
  refine ⟨_, rfl, _, rfl, _, _, rfl, rfl, c, D, ns, _, most + 1, rfl, d3, by omega, by omega, small100 (by omega), fun n H4 n0 n1 d4 fr4 => ?_⟩
  have k4 : Kp D H H4 := (((Kp.fr fr1).trans (.fr fr2)).trans (.fr fr3)).trans (.fr fr4)
  obtain ⟨N, rfl⟩ := Int.eq_ofNat_of_zero_le n0
  obtain ⟨W, hW⟩ := Int.eq_ofNat_of_zero_le (show 0 ≤ 1 + w by omega)
  have hN : N ≤ 400 := by omega
  have eN : ((N : Int)).toNat = N := by omega
  -- versions = [first + gap * k for k in range(many)]
  refine ⟨_, rfl, _, rfl, by omega, by omega, fun LV nV => ?_⟩
  rw [eN]
  refine lc_mapR (lo := 0) (n := N) (ys := (vsL a (1 + g) N).map V.int) (by rw [List.length_map, vsL_length]) (by omega) (fun i y acc R hi hy r => ?_) ?_ mono_yes mono_gName
  · rw [List.getElem?_map, vsL_get hi] at hy
    cases Option.some.inj hy
    refine ⟨rfl, ⟨_, rfl, _, rfl, _, rfl, _, _, rfl, rfl, .inl ⟨by omega, by omega⟩, _, _, rfl, rfl, ?_⟩⟩
    rw [Int.zero_add]
    exact r
  -- links = [(versions[k], versions[k - width]) for k in range(width, many)]
  have d5 : Dk c D ns (t + 4) (upd H4 LV (.lst ((vsL a (1 + g) N).map V.int))) := d4.upd (d4.neC nV) (d4.neD nV)
  have k5 : Kp D H (upd H4 LV (.lst ((vsL a (1 + g) N).map V.int))) := k4.trans (.new nV)
  show t_l_long_shape_links K _ [some (.ref D), some (.int most), some (.int a), some (.int (1 + g)), some (.int (1 + w)), some (.int (N : Int)), some (.ref LV), none, none] (upd H4 LV (.lst ((vsL a (1 + g) N).map V.int)))
  rw [hW]
  generalize hH5 : upd H4 LV (.lst ((vsL a (1 + g) N).map V.int)) = H5 at *
  have hV5 : H5 LV = some (.lst ((vsL a (1 + g) N).map V.int)) := by rw [← hH5]; exact updS
  refine ⟨_, rfl, _, rfl, _, _, rfl, ⟨by omega, by omega, by omega, by omega⟩, fun LL nL => ?_⟩
  have nVL : LV ≠ LL := ne_of_none hV5 nL
  have eNW : ((N : Int) - (W : Int)).toNat = N - W := by omega
  rw [eNW]
  refine lc_range (lo := (W : Int)) (n := N - W) (fun i H' => ∃ rs : List Addr, Kp D H5 H' ∧ Dk c D ns (t + 4) H' ∧ H' LV = some (.lst ((vsL a (1 + g) N).map V.int)) ∧ H' LL = some (.lst (rs.map V.ref)) ∧ LkAt H' rs ((lsL a (1 + g) W N).take i)) ?_ ?_ ?_
  · exact ⟨[], .new nL, d5.upd (d5.neC nL) (d5.neD nL), updN nVL hV5, updS, rfl, fun i b l h1 _ => by cases h1⟩
  · rintro i H6 hi ⟨rs, k6, d6, hV6, hL6, pr⟩
    have e1 : ((W : Int) + (i : Int)) = ((W + i : Nat) : Int) := by omega
    have e2 : ((W : Int) + (i : Int)) - (W : Int) = ((i : Nat) : Int) := by omega
    have g1 : atI ((vsL a (1 + g) N).map V.int) ((W : Int) + (i : Int)) = some (.int (a + (1 + g) * ((W : Int) + (i : Int)))) := by
      rw [e1]
      exact atI_nat (by rw [List.getElem?_map, vsL_get (by omega)]; rfl)
    have g2 : atI ((vsL a (1 + g) N).map V.int) ((W : Int) + (i : Int) - (W : Int)) = some (.int (a + (1 + g) * (i : Int))) := by
      rw [e2]
      exact atI_nat (by rw [List.getElem?_map, vsL_get (by omega)]; rfl)
    refine ⟨rfl, ⟨_, rfl, _, rfl, ixL hV6 g1 ⟨_, rfl, _, rfl, _, rfl, _, _, rfl, rfl, ixL hV6 g2 ⟨by show (2 : Nat) ≤ sizeLine; decide, fun T nT => ?_⟩⟩⟩⟩
    have nTL : T ≠ LL := (ne_of_none hL6 nT).symm
    have nTV : T ≠ LV := (ne_of_none hV6 nT).symm
    have hlen : rs.length ≤ 400 := by
      rw [pr.1, List.length_take, lsL_length]
      omega
    have ll : (lsL a (1 + g) W N)[i]? = some (a + (1 + g) * ((W : Int) + (i : Int)), a + (1 + g) * (i : Int)) := by
      simp [lsL, hi]
    have nLD : LL ≠ D := d5.neD nL
    have nLC : LL ≠ c := d5.neC nL
    refine ⟨rs.map V.ref, updN nTL.symm hL6, ?_, rs ++ [T], ?_, ?_, ?_, ?_, ?_⟩
    · rw [List.length_map]
      exact Nat.lt_of_le_of_lt (show rs.length ≤ 1000 by omega) (by decide)
    · exact fun b o e n => updN (ne_of_none e nL) (updN (ne_of_none (k6 b o e n) nT) (k6 b o e n))
    · exact (d6.upd (d6.neC nT) (d6.neD nT)).upd nLC nLD
    · exact updN nVL (updN nTV.symm hV6)
    · rw [updS, List.map_append]
      rfl
    · rw [take_snoc ll]
      refine (LkAt.snoc (pr.mono fun b xs h => updN (ne_of_none h nT) h) (l := (a + (1 + g) * ((W : Int) + (i : Int)), a + (1 + g) * (i : Int))) (T := T) updS).mono fun b xs h => updN (fun e => ?_) h
      rw [e, updN nTL.symm hL6] at h
      cases h
  · rintro H6 ⟨rs, k6, d6, hV6, hL6, pr⟩
    rw [List.take_of_length_le (by rw [lsL_length]; omega)] at pr
    refine ⟨_, rfl, LV, _, rfl, .inl ⟨sqL hV6, fun q nq => ?_⟩⟩
    have nqL : q ≠ LL := (ne_of_none hL6 nq).symm
    refine ⟨_, rfl, LL, _, rfl, .inl ⟨sqL (updN nqL.symm hL6), fun r nr => ?_⟩⟩
    have nqr : q ≠ r := fun e => by rw [← e, updS] at nr; cases nr
    have nr6 : H6 r = none := by rw [upd_ne nqr.symm] at nr; exact nr
    refine ⟨_, rfl, by show (3 : Nat) ≤ sizeLine; decide, fun p np => ?_⟩
    have npq : q ≠ p := fun e => by rw [← e, upd_ne nqr, updS] at np; cases np
    have npr : r ≠ p := fun e => by rw [← e, updS] at np; cases np
    have np6 : H6 p = none := by rw [upd_ne npr.symm, upd_ne npq.symm] at np; exact np
    have d7 : Dk c D ns (t + 4) (upd (upd (upd H6 q (.tup ((vsL a (1 + g) N).map V.int))) r (.tup (rs.map V.ref))) p (.tup [.ref q, .ref r, .int (W : Int)])) := ((d6.upd (d6.neC nq) (d6.neD nq)).upd (d6.neC nr6) (d6.neD nr6)).upd (d6.neC np6) (d6.neD np6)
    have up : ∀ b o, H6 b = some o → (upd (upd (upd H6 q (.tup ((vsL a (1 + g) N).map V.int))) r (.tup (rs.map V.ref))) p (.tup [.ref q, .ref r, .int (W : Int)])) b = some o := fun b o e => updN (ne_of_none e np6) (updN (ne_of_none e nr6) (updN (ne_of_none e nq) e))
    exact k p q r rs a (1 + g) W N _ (k5.trans (k6.trans fun b o e _ => up b o e)) d7 updS (updN npq (updN nqr updS)) (updN npr updS) (pr.mono fun b xs h => up _ _ h) a0 a1 (by omega) (by omega) (by omega) (by omega) (by omega)
end Fw

set_option Elab.async false
set_option linter.all false
set_option maxRecDepth 100000
set_option maxHeartbeats 4000000
namespace Fw
open PySem L2 RZ RT
/-! ### a good shape is a shape -/
def pairD (l : Int × Int) : Dt := .tup [.int l.1, .int l.2]
def shapeD (vs : List Int) (ls : List (Int × Int)) : Dt := .tup [.tup (vs.map Dt.int), .tup (ls.map pairD)]
theorem ltD_ints {vs : List Int} (h : vs.Pairwise (· < ·)) : adj ltD (vs.map Dt.int) = true := by
  refine adj_of fun i x y hx hy => ?_
  rw [List.getElem?_map] at hx hy
  cases e1 : vs[i]? with
  | none => rw [e1] at hx; cases hx
  | some a =>
    cases e2 : vs[i + 1]? with
    | none => rw [e2] at hy; cases hy
    | some b =>
      rw [e1] at hx
      rw [e2] at hy
      cases Option.some.inj hx
      cases Option.some.inj hy
      obtain ⟨l1, f1⟩ := List.getElem?_eq_some_iff.mp e1
      obtain ⟨l2, f2⟩ := List.getElem?_eq_some_iff.mp e2
      have := List.pairwise_iff_getElem.mp h i (i + 1) l1 l2 (by omega)
      rw [f1, f2] at this
      exact decide_eq_true this
theorem ltD_links {ls : List (Int × Int)} (h : ls.Pairwise lkLt) : adj ltD (ls.map pairD) = true := by
  refine adj_of fun i x y hx hy => ?_
  rw [List.getElem?_map] at hx hy
  cases e1 : ls[i]? with
  | none => rw [e1] at hx; cases hx
  | some a =>
    cases e2 : ls[i + 1]? with
    | none => rw [e2] at hy; cases hy
    | some b =>
      rw [e1] at hx
      rw [e2] at hy
      cases Option.some.inj hx
      cases Option.some.inj hy
      obtain ⟨l1, f1⟩ := List.getElem?_eq_some_iff.mp e1
      obtain ⟨l2, f2⟩ := List.getElem?_eq_some_iff.mp e2
      have := List.pairwise_iff_getElem.mp h i (i + 1) l1 l2 (by omega)
      rw [f1, f2] at this
      show HT.lexLt [a.1, a.2] [b.1, b.2] = true
      rw [HT.lexLt_cons]
      rcases this with q | q
      · rw [if_neg (by omega)]
        exact decide_eq_true q
      · rw [if_pos q.1, HT.lexLt_cons, if_neg (by omega)]
        exact decide_eq_true q.2
theorem shape_of_good {vs : List Int} {ls : List (Int × Int)} (g : Good vs ls) (h1 : vs.length ≤ 400) (h2 : ls.length ≤ 2000) : isShapeD (shapeD vs ls) = true := by
  show (areVersionsD (.tup (vs.map Dt.int)) && areLinksD (ints1 (vs.map Dt.int)) (.tup (ls.map pairD))) = true
  rw [areVersionsD_tup, areLinksD_tup, ints1_map, ltD_ints g.inc, ltD_links g.lex, List.length_map, List.length_map, decide_eq_true h1, decide_eq_true h2]
  have a1 : (vs.map Dt.int).all isIntD = true := List.all_eq_true.mpr fun d hd => by
    obtain ⟨i, _, rfl⟩ := List.mem_map.mp hd
    rfl
  have a2 : (vs.map Dt.int).all geZ = true := List.all_eq_true.mpr fun d hd => by
    obtain ⟨i, hi, rfl⟩ := List.mem_map.mp hd
    exact decide_eq_true (g.nn i hi)
  have a3 : (ls.map pairD).all (isLinkD vs) = true := List.all_eq_true.mpr fun d hd => by
    obtain ⟨l, hl, rfl⟩ := List.mem_map.mp hd
    obtain ⟨m1, m2, m3⟩ := g.mem l hl
    show isLinkD vs (.tup [.int l.1, .int l.2]) = true
    rw [isLinkD_two, decide_eq_true m3, List.contains_iff_mem.mpr m1, List.contains_iff_mem.mpr m2]
    rfl
  rw [a1, a2, a3]
  rfl
theorem LkAt.at {H : Hp} {r : Addr} {rs : List Addr} {ls : List (Int × Int)} (h : LkAt H rs ls) (hr : H r = some (.tup (rs.map V.ref))) (hz : ls.length ≤ 100000) : At H (.ref r) (.tup (ls.map pairD)) := by
  refine .tup hr (by rw [List.length_map, h.1]; exact hz) (by rw [List.length_map, List.length_map, h.1]) fun i x d h1 h2 => ?_
  rw [List.getElem?_map] at h1 h2
  cases e1 : rs[i]? with
  | none => rw [e1] at h1; cases h1
  | some a =>
    cases e2 : ls[i]? with
    | none => rw [e2] at h2; cases h2
    | some l =>
      rw [e1] at h1
      rw [e2] at h2
      cases Option.some.inj h1
      cases Option.some.inj h2
      refine .tup (xs := [.int l.1, .int l.2]) (ds := [.int l.1, .int l.2]) (h.2 i a l e1 e2) (by show (2 : Nat) ≤ 100000; decide) rfl fun j y d g1 g2 => ?_
      match j, g1, g2 with
      | 0, g1, g2 =>
        cases Option.some.inj g1
        cases Option.some.inj g2
        exact .int _
      | 1, g1, g2 =>
        cases Option.some.inj g1
        cases Option.some.inj g2
        exact .int _
theorem pair_at {H : Hp} {p : Addr} {x y : V} {d e : Dt} (hp : H p = some (.tup [x, y])) (a1 : At H x d) (a2 : At H y e) : At H (.ref p) (.tup [d, e]) := by
  refine .tup hp (by show (2 : Nat) ≤ 100000; decide) rfl fun j z f g1 g2 => ?_
  match j, g1, g2 with
  | 0, g1, g2 =>
    cases Option.some.inj g1
    cases Option.some.inj g2
    exact a1
  | 1, g1, g2 =>
    cases Option.some.inj g1
    cases Option.some.inj g2
    exact a2
theorem ShapeAt.at {H : Hp} {p : Addr} {vs : List Int} {ls : List (Int × Int)} (h : ShapeAt H p vs ls) (h1 : vs.length ≤ 100000) (h2 : ls.length ≤ 100000) : At H (.ref p) (shapeD vs ls) := by
  obtain ⟨q, r, rs, hp, hq, hr, lk⟩ := h
  exact pair_at hp (.of_ints hq h1) (lk.at hr h2)
/-! ### check, of a shape -/
def sp_check (_ : PySem.W.Frag) : Sp := fun vs H Q _ => ∃ (x : V) (d : Dt), vs = [x] ∧ At H x d ∧ isShapeD d = true ∧ ∀ H', Same H H' → Q (.bl true) H'
abbrev N_check : List Str := ["thing"]
def t_check (K : PySem.W.Frag) : TS := (tSeq (tIfS (tOr (tNot (tB (tCall (sp_is_pair K) [] E0 (tCons (tVar 0) tNil)))) (tOr (tNot (tB (tCall (sp_are_versions K) [] E0 (tCons (tOp (rIx K) (tVar 0) (tC (.int 0))) tNil)))) (tNot (tB (tCall (sp_are_links K) [] E0 (tCons (tOp (rIx K) (tVar 0) (tC (.int 1))) (tCons (tOp (rIx K) (tVar 0) (tC (.int 0))) tNil))))))) tNever tNext)
    (tRet (tC (.bl true))))
abbrev N_law : List Str := ["_law_script", "_law_deck_here", "_law_row"]
def t_law (K : PySem.W.Frag) : TS := (tSeq (tAsg (tCall (sp_l_deck K) [] E0 (tCons (tVar 0) tNil)) (gName 1))
    (tSeq (tIfS (tTest (tOp rEq (tCall (sp_l_draw K) [] E0 (tCons (tVar 1) (tCons (tC (.int 4)) tNil))) (tC (.int 0)))) (tSeq (tAsg (tCall (sp_l_long_shape K) [] E0 (tCons (tVar 1) (tCons (tC (.int 400)) tNil))) (gName 2))
    (tRet (tOp rIsB (tCall (sp_check K) [] E0 (tCons (tTup (tCons (tOp (rIx K) (tVar 2) (tC (.int 0))) (tCons (tOp (rIx K) (tVar 2) (tC (.int 1))) tNil))) tNil)) (tC (.bl true))))) tNext)
    (tRet (tOp rIsB (tCall (sp_check K) [] E0 (tCons (tCall (sp_l_shape K) [] E0 (tCons (tVar 1) (tCons (tC (.int 12)) tNil))) tNil)) (tC (.bl true))))))
section
variable {K : PySem.W.Frag} {vs : List V} {H : Hp} {Q : VK} {E : XK}
theorem len_check (h : sp_check K vs H Q E) : vs.length = 1 := by
  obtain ⟨_, _, rfl, _⟩ := h
  rfl
theorem isShape_two {d : Dt} (h : isShapeD d = true) : ∃ v l, d = .tup [v, l] ∧ areVersionsD v = true ∧ areLinksD (match v with | .tup ds => ints1 ds | _ => []) l = true := by
  unfold isShapeD at h
  split at h
  · rw [Bool.and_eq_true] at h
    exact ⟨_, _, rfl, h.1, h.2⟩
  · cases h
theorem areVersions_tup {d : Dt} (h : areVersionsD d = true) : ∃ ns : List Int, d = .tup (ns.map Dt.int) := by
  unfold areVersionsD at h
  split at h
  · rw [Bool.and_eq_true, Bool.and_eq_true] at h
    exact ⟨_, congrArg Dt.tup (allInt h.1.1)⟩
  · cases h
theorem pure_check (h : sp_check K vs H Q E) : t_check K { nx := fun _ H' => Q .non H', rt := Q } (start N_check vs) H := by
  obtain ⟨x, d, rfl, a, hd, k⟩ := h
  obtain ⟨v, l, rfl, hv, hl⟩ := isShape_two hd
  obtain ⟨ns, rfl⟩ := areVersions_tup hv
  have hl2 : areLinksD ns l = true := by
    have e : areLinksD (ints1 (ns.map Dt.int)) l = true := hl
    rw [ints1_map] at e
    exact e
  obtain ⟨p, y, z, rfl, hp, ay, az⟩ := a.pair_inv
  refine ⟨_, rfl, .ref p, _, rfl, a, _, rfl, iteF ?_⟩
  refine ⟨_, rfl, ixT hp rfl ⟨y, _, rfl, ay, fun H1 s1 => ⟨_, rfl, ?_⟩⟩⟩
  rw [hv]
  refine iteF ⟨_, rfl, ixT (s1 _ _ hp) rfl ⟨_, rfl, ixT (s1 _ _ hp) rfl ⟨z, y, l, ns, rfl, az.mono s1, ay.mono s1, fun H2 s2 => ⟨_, rfl, ?_⟩⟩⟩⟩
  rw [hl2]
  exact iteF (k _ (s1.trans s2))
theorem pure_law (h : sp_law K vs H Q E) : t_law K { nx := fun _ H' => Q .non H', rt := Q } (start N_law vs) H := by
  obtain ⟨a, ns, rfl, hS, hl, k⟩ := h
  refine ⟨_, rfl, a, ns, rfl, hS, hl, fun c D H1 sm nc nD dk => ?_⟩
  refine ⟨_, rfl, c, D, ns, 0, 4, rfl, dk, by decide, by decide, by decide, fun v H2 v0 v1 dk2 fr2 => ⟨rfl, _, rfl, ite2 (fun _ => ?_) (fun _ => ?_)⟩⟩
  · refine ⟨_, rfl, c, D, ns, 0 + 1, 400, rfl, dk2, by decide, by decide, by decide, fun p q r rs b g w n H3 k3 d3 hp hq hr lk b0 b1 g0 g1 w0 w1 hn => ?_⟩
    refine ⟨_, rfl, ixT hp rfl ⟨_, rfl, ixT hp rfl ⟨by show (2 : Nat) ≤ sizeLine; decide, fun s ns' => ?_⟩⟩⟩
    have up : ∀ b o, H3 b = some o → upd H3 s (.tup [.ref q, .ref r]) b = some o := fun b o e => updN (ne_of_none e ns') e
    have hll : (lsL b g w n).length ≤ 2000 := by
      rw [lsL_length]
      omega
    have hvl : (vsL b g n).length ≤ 400 := by
      rw [vsL_length]
      omega
    refine ⟨.ref s, shapeD (vsL b g n) (lsL b g w n), rfl, ?_, shape_of_good (good_long b0 (by omega) (by omega)) hvl hll, fun H4 _ => ⟨_, _, rfl, rfl, ?_⟩⟩
    · exact ShapeAt.at ⟨q, r, rs, updS, up _ _ hq, up _ _ hr, lk.mono fun b xs h => up _ _ h⟩ (by omega) (by omega)
    · exact k _
  · refine ⟨_, rfl, c, D, ns, 0 + 1, 12, rfl, dk2, by decide, by decide, by decide, fun p ws ls H3 k3 d3 sh g hlen hlk => ?_⟩
    have h1 : ws.length ≤ 12 := by
      have : ((ws.length : Nat) : Int) ≤ 12 := hlen
      omega
    have h2 : ls.length ≤ 144 := Nat.le_trans hlk (Nat.mul_le_mul h1 h1)
    refine ⟨.ref p, shapeD ws ls, rfl, sh.at (by omega) (by omega), shape_of_good g (by omega) (by omega), fun H4 _ => ⟨_, _, rfl, rfl, ?_⟩⟩
    exact k _
end
end Fw

set_option Elab.async false
set_option linter.all false
set_option maxRecDepth 100000
set_option maxHeartbeats 4000000
namespace K11
open PySem L2 RZ RT Fw
def top (i : Nat) : Stmt := PySem.Challenge.pw_fewasks_k11_good_shapes.main.body.getD i (.Pass ⟨0, 0, 0, 0⟩)
abbrev FnP (K : PySem.W.Frag) (x : Str) (st : Stmt) (f : Addr) (fd : FuncData) : Prop := FunD K x x (defArgs st) (defBody st) (defScope st) [] [] f fd
abbrev s_is_int : Stmt := top 4
theorem sc_is_int : FnScope N_is_int ["thing"] (defScope s_is_int) := ⟨rfl, rfl, rfl, by decide +kernel, rfl, by decide +kernel, by decide +kernel⟩
abbrev s_is_pair : Stmt := top 5
theorem sc_is_pair : FnScope N_is_pair ["thing"] (defScope s_is_pair) := ⟨rfl, rfl, rfl, by decide +kernel, rfl, by decide +kernel, by decide +kernel⟩
abbrev s_rises : Stmt := top 6
theorem sc_rises : FnScope N_rises ["things"] (defScope s_rises) := ⟨rfl, rfl, rfl, by decide +kernel, rfl, by decide +kernel, by decide +kernel⟩
abbrev s_is_ints : Stmt := top 7
theorem sc_is_ints : FnScope N_is_ints ["thing"] (defScope s_is_ints) := ⟨rfl, rfl, rfl, by decide +kernel, rfl, by decide +kernel, by decide +kernel⟩
abbrev s_is_rising : Stmt := top 8
theorem sc_is_rising : FnScope N_is_rising ["thing"] (defScope s_is_rising) := ⟨rfl, rfl, rfl, by decide +kernel, rfl, by decide +kernel, by decide +kernel⟩
abbrev s_are_versions : Stmt := top 13
theorem sc_are_versions : FnScope N_are_versions ["thing"] (defScope s_are_versions) := ⟨rfl, rfl, rfl, by decide +kernel, rfl, by decide +kernel, by decide +kernel⟩
abbrev s_is_link : Stmt := top 15
theorem sc_is_link : FnScope N_is_link ["thing", "known"] (defScope s_is_link) := ⟨rfl, rfl, rfl, by decide +kernel, rfl, by decide +kernel, by decide +kernel⟩
abbrev s_are_links : Stmt := top 14
theorem sc_are_links : FnScope N_are_links ["thing", "versions"] (defScope s_are_links) := ⟨rfl, rfl, rfl, by decide +kernel, rfl, by decide +kernel, by decide +kernel⟩
abbrev s_check : Stmt := top 12
theorem sc_check : FnScope N_check ["thing"] (defScope s_check) := ⟨rfl, rfl, rfl, by decide +kernel, rfl, by decide +kernel, by decide +kernel⟩
abbrev s_l_deck : Stmt := top 17
theorem sc_l_deck : FnScope N_l_deck ["_law_script"] (defScope s_l_deck) := ⟨rfl, rfl, rfl, by decide +kernel, rfl, by decide +kernel, by decide +kernel⟩
abbrev s_l_mixed : Stmt := top 18
theorem sc_l_mixed : FnScope N_l_mixed ["_law_cell", "_law_turn"] (defScope s_l_mixed) := ⟨rfl, rfl, rfl, by decide +kernel, rfl, by decide +kernel, by decide +kernel⟩
abbrev s_l_draw : Stmt := top 19
theorem sc_l_draw : FnScope N_l_draw ["_law_deck_here", "_law_many"] (defScope s_l_draw) := ⟨rfl, rfl, rfl, by decide +kernel, rfl, by decide +kernel, by decide +kernel⟩
abbrev s_l_shape : Stmt := top 20
theorem sc_l_shape : FnScope N_l_shape ["_law_deck_here", "_law_most"] (defScope s_l_shape) := ⟨rfl, rfl, rfl, by decide +kernel, rfl, by decide +kernel, by decide +kernel⟩
abbrev s_l_long_shape : Stmt := top 21
theorem sc_l_long_shape : FnScope N_l_long_shape ["_law_deck_here", "_law_most"] (defScope s_l_long_shape) := ⟨rfl, rfl, rfl, by decide +kernel, rfl, by decide +kernel, by decide +kernel⟩
abbrev s_law : Stmt := top 22
theorem sc_law : FnScope N_law ["_law_script"] (defScope s_law) := ⟨rfl, rfl, rfl, by decide +kernel, rfl, by decide +kernel, by decide +kernel⟩
structure Tx (K : PySem.W.Frag) (mg : Str → Option Value) : Type where
  fd_is_int : FuncData
  F_is_int : FnP K "is_int" s_is_int (He.fAd K ("is_int", none)) fd_is_int
  g_is_int : mg "is_int" = some (.ref (He.fAd K ("is_int", none)))
  fd_is_pair : FuncData
  F_is_pair : FnP K "is_pair" s_is_pair (He.fAd K ("is_pair", none)) fd_is_pair
  g_is_pair : mg "is_pair" = some (.ref (He.fAd K ("is_pair", none)))
  fd_rises : FuncData
  F_rises : FnP K "rises" s_rises (He.fAd K ("rises", none)) fd_rises
  g_rises : mg "rises" = some (.ref (He.fAd K ("rises", none)))
  fd_is_ints : FuncData
  F_is_ints : FnP K "is_ints" s_is_ints (He.fAd K ("is_ints", none)) fd_is_ints
  g_is_ints : mg "is_ints" = some (.ref (He.fAd K ("is_ints", none)))
  fd_is_rising : FuncData
  F_is_rising : FnP K "is_rising" s_is_rising (He.fAd K ("is_rising", none)) fd_is_rising
  g_is_rising : mg "is_rising" = some (.ref (He.fAd K ("is_rising", none)))
  fd_are_versions : FuncData
  F_are_versions : FnP K "are_versions" s_are_versions (He.fAd K ("are_versions", none)) fd_are_versions
  g_are_versions : mg "are_versions" = some (.ref (He.fAd K ("are_versions", none)))
  fd_is_link : FuncData
  F_is_link : FnP K "is_link" s_is_link (He.fAd K ("is_link", none)) fd_is_link
  g_is_link : mg "is_link" = some (.ref (He.fAd K ("is_link", none)))
  fd_are_links : FuncData
  F_are_links : FnP K "are_links" s_are_links (He.fAd K ("are_links", none)) fd_are_links
  g_are_links : mg "are_links" = some (.ref (He.fAd K ("are_links", none)))
  fd_check : FuncData
  F_check : FnP K "check" s_check (He.fAd K ("check", none)) fd_check
  g_check : mg "check" = some (.ref (He.fAd K ("check", none)))
  fd_l_deck : FuncData
  F_l_deck : FnP K "_law_deck" s_l_deck (He.fAd K ("_law_deck", none)) fd_l_deck
  g_l_deck : mg "_law_deck" = some (.ref (He.fAd K ("_law_deck", none)))
  fd_l_mixed : FuncData
  F_l_mixed : FnP K "_law_mixed" s_l_mixed (He.fAd K ("_law_mixed", none)) fd_l_mixed
  g_l_mixed : mg "_law_mixed" = some (.ref (He.fAd K ("_law_mixed", none)))
  fd_l_draw : FuncData
  F_l_draw : FnP K "_law_draw" s_l_draw (He.fAd K ("_law_draw", none)) fd_l_draw
  g_l_draw : mg "_law_draw" = some (.ref (He.fAd K ("_law_draw", none)))
  fd_l_shape : FuncData
  F_l_shape : FnP K "_law_shape" s_l_shape (He.fAd K ("_law_shape", none)) fd_l_shape
  g_l_shape : mg "_law_shape" = some (.ref (He.fAd K ("_law_shape", none)))
  fd_l_long_shape : FuncData
  F_l_long_shape : FnP K "_law_long_shape" s_l_long_shape (He.fAd K ("_law_long_shape", none)) fd_l_long_shape
  g_l_long_shape : mg "_law_long_shape" = some (.ref (He.fAd K ("_law_long_shape", none)))
  fd_law : FuncData
  F_law : FnP K "law" s_law (He.fAd K ("law", none)) fd_law
  z_all : mg "all" = none
  z_bool : mg "bool" = none
  z_int : mg "int" = none
  z_isinstance : mg "isinstance" = none
  z_len : mg "len" = none
  z_list : mg "list" = none
  z_range : mg "range" = none
  z_tuple : mg "tuple" = none
  z_zip : mg "zip" = none
  c_MOST_LINKS : ∃ t, mg "MOST_LINKS" = some (.int 2000 t)
  c_MOST_VERSIONS : ∃ t, mg "MOST_VERSIONS" = some (.int 400 t)
section
variable {P : Program} {w : World} {K : PySem.W.Frag} {mg : Str → Option Value} {base : Heap}
theorem b_is_int (T : Tx K mg) : Binds K T.fd_is_int ["thing"] [] := T.F_is_int.bindsN fun _ _ _ _ _ _ us hl => match us, hl with | [_], _ => rfl
theorem ok_is_int (T : Tx K mg) : FnOk P w K mg base CX0 1 (He.fAd K ("is_int", none)) T.fd_is_int ["thing"] (sp_is_int K) := by
  refine T.F_is_int.ok sc_is_int (fun vs H Q E h => len_is_int h) (fun cdv A outer s H vs Q E hr h => ⟨t_is_int K, PSs.nox ?_, pure_is_int h⟩)
  exact (pss_one (ps_ret (pe_and (pe_callB call_isi (by rfl) T.z_isinstance (by decide +kernel) (pa_cons (pv 0) (pa_cons (pe_bltn (v := .ty "int") (by rfl) T.z_int (by decide +kernel) rfl) pa_nil))) (pe_one (pe_not (pe_callB call_isi (by rfl) T.z_isinstance (by decide +kernel) (pa_cons (pv 0) (pa_cons (pe_bltn (v := .ty "bool") (by rfl) T.z_bool (by decide +kernel) rfl) pa_nil))))))))
theorem b_is_pair (T : Tx K mg) : Binds K T.fd_is_pair ["thing"] [] := T.F_is_pair.bindsN fun _ _ _ _ _ _ us hl => match us, hl with | [_], _ => rfl
theorem ok_is_pair (T : Tx K mg) : FnOk P w K mg base CX0 1 (He.fAd K ("is_pair", none)) T.fd_is_pair ["thing"] (sp_is_pair K) := by
  refine T.F_is_pair.ok sc_is_pair (fun vs H Q E h => len_is_pair h) (fun cdv A outer s H vs Q E hr h => ⟨t_is_pair K, PSs.nox ?_, pure_is_pair h⟩)
  exact (pss_one (ps_ret (pe_and (pe_callB call_isi (by rfl) T.z_isinstance (by decide +kernel) (pa_cons (pv 0) (pa_cons (pe_bltn (v := .ty "tuple") (by rfl) T.z_tuple (by decide +kernel) rfl) pa_nil))) (pe_one (pe_cmpR op_eq (pe_callB call_len (by rfl) T.z_len PySem.boot_len (pa_cons (pv 0) pa_nil)) pe_int (nomark _))))))
theorem b_rises (T : Tx K mg) : Binds K T.fd_rises ["things"] [] := T.F_rises.bindsN fun _ _ _ _ _ _ us hl => match us, hl with | [_], _ => rfl
theorem ok_rises (T : Tx K mg) : FnOk P w K mg base CX0 1 (He.fAd K ("rises", none)) T.fd_rises ["things"] (sp_rises K) := by
  refine T.F_rises.ok sc_rises (fun vs H Q E h => len_rises h) (fun cdv A outer s H vs Q E hr h => ⟨t_rises K, PSs.nox ?_, pure_rises h⟩)
  exact (pss_one (ps_ret (pe_callB (cr_all rfl) (by rfl) T.z_all (by decide +kernel) (pa_cons (pe_lc (own := [("low", 1), ("high", 2)]) (g := (gTup K 2 (gCons (gName 1) (gCons (gName 2) gNil)))) (tt := tYes) (te := (tOp (fLtA K) (tVar 1) (tVar 2))) rfl sc_rises.nd (pi_zipA (by rfl) T.z_zip (pa_cons (pv 0) (pa_cons (pe_slice sl_tupA (pv 0) (po_some pe_int) po_none) pa_nil))) (blkOk_by (own := [("low", 1), ("high", 2)]) (N := N_rises) (sc := defScope s_rises) (by decide +kernel)) (fun _ _ _ _ _ => (pg_tup rfl (pgs_cons (pg_name (i := 1) sc_rises.nd rfl (Or.inl rfl)) (pgs_cons (pg_name (i := 2) sc_rises.nd rfl (Or.inl rfl)) pgs_nil)))) (fun _ _ _ _ _ => pts_nil) (fun _ _ _ _ _ => (pe_cmpR (OpR.or op_lt (op_ltT hr.units0)) (pv 1) (pv 2) (nomark _)))) pa_nil))))
theorem b_is_ints (T : Tx K mg) : Binds K T.fd_is_ints ["thing"] [] := T.F_is_ints.bindsN fun _ _ _ _ _ _ us hl => match us, hl with | [_], _ => rfl
theorem ok_is_ints (T : Tx K mg) : FnOk P w K mg base CX0 2 (He.fAd K ("is_ints", none)) T.fd_is_ints ["thing"] (sp_is_intsD K) := by
  refine T.F_is_ints.ok sc_is_ints (fun vs H Q E h => len_is_intsD h) (fun cdv A outer s H vs Q E hr h => ⟨t_is_ints K, PSs.nox ?_, pure_is_intsD h⟩)
  exact (pss_one (ps_ret (pe_and (pe_callB call_isi (by rfl) T.z_isinstance (by decide +kernel) (pa_cons (pv 0) (pa_cons (pe_bltn (v := .ty "tuple") (by rfl) T.z_tuple (by decide +kernel) rfl) pa_nil))) (pe_one (pe_callB (cr_all rfl) (by rfl) T.z_all (by decide +kernel) (pa_cons (pe_lc (own := [("part", 1)]) (g := (gName 1)) (tt := tYes) (te := (tCall (sp_is_int K) [] E0 (tCons (tVar 1) tNil))) rfl sc_is_ints.nd (pi_tup (pv 0)) (blkOk_by (own := [("part", 1)]) (N := N_is_ints) (sc := defScope s_is_ints) (by decide +kernel)) (fun _ _ _ _ _ => (pg_name (i := 1) sc_is_ints.nd rfl (Or.inl rfl))) (fun _ _ _ _ _ => pts_nil) (fun _ _ _ _ _ => (pe_call (ok_is_int T) (hr.mono (by decide)) (by rfl) T.g_is_int T.F_is_int.kp (b_is_int T) .nil pass0 (pa_cons (pv 1) pa_nil)))) pa_nil))))))
theorem b_is_rising (T : Tx K mg) : Binds K T.fd_is_rising ["thing"] [] := T.F_is_rising.bindsN fun _ _ _ _ _ _ us hl => match us, hl with | [_], _ => rfl
theorem ok_is_rising (T : Tx K mg) : FnOk P w K mg base CX0 3 (He.fAd K ("is_rising", none)) T.fd_is_rising ["thing"] (sp_is_rising K) := by
  refine T.F_is_rising.ok sc_is_rising (fun vs H Q E h => len_is_rising h) (fun cdv A outer s H vs Q E hr h => ⟨t_is_rising K, PSs.nox ?_, pure_is_rising h⟩)
  exact (pss_one (ps_ret (pe_and (pe_call (ok_is_ints T) (hr.mono (by decide)) (by rfl) T.g_is_ints T.F_is_ints.kp (b_is_ints T) .nil pass0 (pa_cons (pv 0) pa_nil)) (pe_one (pe_call (ok_rises T) (hr.mono (by decide)) (by rfl) T.g_rises T.F_rises.kp (b_rises T) .nil pass0 (pa_cons (pv 0) pa_nil))))))
theorem b_are_versions (T : Tx K mg) : Binds K T.fd_are_versions ["thing"] [] := T.F_are_versions.bindsN fun _ _ _ _ _ _ us hl => match us, hl with | [_], _ => rfl
theorem ok_are_versions (T : Tx K mg) : FnOk P w K mg base CX0 4 (He.fAd K ("are_versions", none)) T.fd_are_versions ["thing"] (sp_are_versions K) := by
  refine T.F_are_versions.ok sc_are_versions (fun vs H Q E h => len_are_versions h) (fun cdv A outer s H vs Q E hr h => ⟨t_are_versions K, PSs.nox ?_, pure_are_versions h⟩)
  exact (pss_one (ps_ret (pe_and (pe_call (ok_is_rising T) (hr.mono (by decide)) (by rfl) T.g_is_rising T.F_is_rising.kp (b_is_rising T) .nil pass0 (pa_cons (pv 0) pa_nil)) (pe_and (pe_cmpR op_le (pe_callB call_len (by rfl) T.z_len PySem.boot_len (pa_cons (pv 0) pa_nil)) (pe_glob (v := .int 400) (by rfl) T.c_MOST_VERSIONS.choose_spec ⟨_, rfl⟩) (nomark _)) (pe_one (pe_callB (cr_all rfl) (by rfl) T.z_all (by decide +kernel) (pa_cons (pe_lc (own := [("version", 1)]) (g := (gName 1)) (tt := tYes) (te := (tOp rGeI (tVar 1) (tC (.int 0)))) rfl sc_are_versions.nd (pi_tup (pv 0)) (blkOk_by (own := [("version", 1)]) (N := N_are_versions) (sc := defScope s_are_versions) (by decide +kernel)) (fun _ _ _ _ _ => (pg_name (i := 1) sc_are_versions.nd rfl (Or.inl rfl))) (fun _ _ _ _ _ => pts_nil) (fun _ _ _ _ _ => (pe_cmpR op_ge (pv 1) pe_int (nomark _)))) pa_nil)))))))
theorem b_is_link (T : Tx K mg) : Binds K T.fd_is_link ["thing", "known"] [] := T.F_is_link.bindsN fun _ _ _ _ _ _ us hl => match us, hl with | [_, _], _ => rfl
theorem ok_is_link (T : Tx K mg) : FnOk P w K mg base CX0 2 (He.fAd K ("is_link", none)) T.fd_is_link ["thing", "known"] (sp_is_link K) := by
  refine T.F_is_link.ok sc_is_link (fun vs H Q E h => len_is_link h) (fun cdv A outer s H vs Q E hr h => ⟨t_is_link K, PSs.nox ?_, pure_is_link h⟩)
  exact (pss_cons (ps_if (PW.pt (pw_or (pt_not (pt_val (pe_call (ok_is_pair T) (hr.mono (by decide)) (by rfl) T.g_is_pair T.F_is_pair.kp (b_is_pair T) .nil pass0 (pa_cons (pv 0) pa_nil)))) (pw_or (pt_not (pt_val (pe_call (ok_is_int T) (hr.mono (by decide)) (by rfl) T.g_is_int T.F_is_int.kp (b_is_int T) .nil pass0 (pa_cons (pe_ix ix_seq (pv 0) pe_int (fun _ _ => rfl)) pa_nil)))) (pw_or1 (pt_not (pt_val (pe_call (ok_is_int T) (hr.mono (by decide)) (by rfl) T.g_is_int T.F_is_int.kp (b_is_int T) .nil pass0 (pa_cons (pe_ix ix_seq (pv 0) pe_int (fun _ _ => rfl)) pa_nil)))))))) (pss_one (ps_ret pe_bl)) pss_nil)
      (pss_one (ps_ret (pe_and (pe_cmp (pc_din (hu_of hr) (pe_ix ix_seq (pv 0) pe_int (fun _ _ => rfl)) (pv 1)) rfl) (pe_and (pe_cmp (pc_din (hu_of hr) (pe_ix ix_seq (pv 0) pe_int (fun _ _ => rfl)) (pv 1)) rfl) (pe_one (pe_cmpR op_lt (pe_ix ix_seq (pv 0) pe_int (fun _ _ => rfl)) (pe_ix ix_seq (pv 0) pe_int (fun _ _ => rfl)) (nomark _))))))))
theorem b_are_links (T : Tx K mg) : Binds K T.fd_are_links ["thing", "versions"] [] := T.F_are_links.bindsN fun _ _ _ _ _ _ us hl => match us, hl with | [_, _], _ => rfl
theorem ok_are_links (T : Tx K mg) : FnOk P w K mg base CX0 3 (He.fAd K ("are_links", none)) T.fd_are_links ["thing", "versions"] (sp_are_links K) := by
  refine T.F_are_links.ok sc_are_links (fun vs H Q E h => len_are_links h) (fun cdv A outer s H vs Q E hr h => ⟨t_are_links K, PSs.nox ?_, pure_are_links h⟩)
  exact (pss_cons (ps_if (PW.pt (pw_or (pt_not (pt_val (pe_callB call_isi (by rfl) T.z_isinstance (by decide +kernel) (pa_cons (pv 0) (pa_cons (pe_bltn (v := .ty "tuple") (by rfl) T.z_tuple (by decide +kernel) rfl) pa_nil))))) (pw_or1 (pt_cmpR op_gt (pe_callB call_len (by rfl) T.z_len PySem.boot_len (pa_cons (pv 0) pa_nil)) (pe_glob (v := .int 2000) (by rfl) T.c_MOST_LINKS.choose_spec ⟨_, rfl⟩) (nomark _))))) (pss_one (ps_ret pe_bl)) pss_nil)
      (pss_cons (ps_set (i := 2) sc_are_links.nd rfl (Or.inr rfl) (pe_dc (own := [("version", 3)]) (g := (gName 3)) (tt := tYes) (tk := (tVar 3)) (tv := (tC (.bl true))) rfl sc_are_links.nd (pi_tup (pv 1)) (blkOk_by (own := [("version", 3)]) (N := N_are_links) (sc := defScope s_are_links) (by decide +kernel)) (fun _ _ _ _ _ => (pg_name (i := 3) sc_are_links.nd rfl (Or.inl rfl))) (fun _ _ _ _ _ => pts_nil) (fun _ _ _ _ _ => (pv 3)) (fun _ _ _ _ _ => pe_bl)))
      (pss_one (ps_ret (pe_and (pe_callB (cr_all rfl) (by rfl) T.z_all (by decide +kernel) (pa_cons (pe_lc (own := [("link", 4)]) (g := (gName 4)) (tt := tYes) (te := (tCall (sp_is_link K) [] E0 (tCons (tVar 4) (tCons (tVar 2) tNil)))) rfl sc_are_links.nd (pi_tup (pv 0)) (blkOk_by (own := [("link", 4)]) (N := N_are_links) (sc := defScope s_are_links) (by decide +kernel)) (fun _ _ _ _ _ => (pg_name (i := 4) sc_are_links.nd rfl (Or.inl rfl))) (fun _ _ _ _ _ => pts_nil) (fun _ _ _ _ _ => (pe_call (ok_is_link T) (hr.mono (by decide)) (by rfl) T.g_is_link T.F_is_link.kp (b_is_link T) .nil pass0 (pa_cons (pv 4) (pa_cons (pv 2) pa_nil))))) pa_nil)) (pe_one (pe_call (ok_rises T) (hr.mono (by decide)) (by rfl) T.g_rises T.F_rises.kp (b_rises T) .nil pass0 (pa_cons (pv 0) pa_nil))))))))
theorem b_check (T : Tx K mg) : Binds K T.fd_check ["thing"] [] := T.F_check.bindsN fun _ _ _ _ _ _ us hl => match us, hl with | [_], _ => rfl
theorem ok_check (T : Tx K mg) : FnOk P w K mg base CX0 5 (He.fAd K ("check", none)) T.fd_check ["thing"] (sp_check K) := by
  refine T.F_check.ok sc_check (fun vs H Q E h => len_check h) (fun cdv A outer s H vs Q E hr h => ⟨t_check K, PSs.nox ?_, pure_check h⟩)
  exact (pss_cons (ps_if (PW.pt (pw_or (pt_not (pt_val (pe_call (ok_is_pair T) (hr.mono (by decide)) (by rfl) T.g_is_pair T.F_is_pair.kp (b_is_pair T) .nil pass0 (pa_cons (pv 0) pa_nil)))) (pw_or (pt_not (pt_val (pe_call (ok_are_versions T) (hr.mono (by decide)) (by rfl) T.g_are_versions T.F_are_versions.kp (b_are_versions T) .nil pass0 (pa_cons (pe_ix ix_seq (pv 0) pe_int (fun _ _ => rfl)) pa_nil)))) (pw_or1 (pt_not (pt_val (pe_call (ok_are_links T) (hr.mono (by decide)) (by rfl) T.g_are_links T.F_are_links.kp (b_are_links T) .nil pass0 (pa_cons (pe_ix ix_seq (pv 0) pe_int (fun _ _ => rfl)) (pa_cons (pe_ix ix_seq (pv 0) pe_int (fun _ _ => rfl)) pa_nil))))))))) (pss_one ps_never) pss_nil)
      (pss_one (ps_ret pe_bl)))
theorem b_l_deck (T : Tx K mg) : Binds K T.fd_l_deck ["_law_script"] [] := T.F_l_deck.bindsN fun _ _ _ _ _ _ us hl => match us, hl with | [_], _ => rfl
theorem ok_l_deck (T : Tx K mg) : FnOk P w K mg base CX0 1 (He.fAd K ("_law_deck", none)) T.fd_l_deck ["_law_script"] (sp_l_deck K) := by
  refine T.F_l_deck.ok sc_l_deck (fun vs H Q E h => len_l_deck h) (fun cdv A outer s H vs Q E hr h => ⟨t_l_deck K, PSs.nox ?_, pure_l_deck h⟩)
  exact (pss_one (ps_ret (pe_lst (pa_cons (pe_callTy call_list_of (by rfl) T.z_list (by decide +kernel) (pa_cons (pv 0) pa_nil)) (pa_cons pe_int (pa_cons pe_int (pa_cons pe_int pa_nil)))))))
theorem b_l_mixed (T : Tx K mg) : Binds K T.fd_l_mixed ["_law_cell", "_law_turn"] [] := T.F_l_mixed.bindsN fun _ _ _ _ _ _ us hl => match us, hl with | [_, _], _ => rfl
theorem ok_l_mixed (T : Tx K mg) : FnOk P w K mg base CX0 1 (He.fAd K ("_law_mixed", none)) T.fd_l_mixed ["_law_cell", "_law_turn"] (sp_l_mixed K) := by
  refine T.F_l_mixed.ok sc_l_mixed (fun vs H Q E h => len_l_mixed h) (fun cdv A outer s H vs Q E hr h => ⟨t_l_mixed K, PSs.nox ?_, pure_l_mixed h⟩)
  exact (pss_one (ps_ret (pe_op op_mod (pe_op op_pow (pe_op op_add (pe_op op_add (pe_op op_mod (pv 0) pe_int) (pe_op op_mul (pv 1) pe_int)) pe_int) pe_int) pe_int)))
theorem b_l_draw (T : Tx K mg) : Binds K T.fd_l_draw ["_law_deck_here", "_law_many"] [] := T.F_l_draw.bindsN fun _ _ _ _ _ _ us hl => match us, hl with | [_, _], _ => rfl
theorem ok_l_draw (T : Tx K mg) : FnOk P w K mg base CX0 2 (He.fAd K ("_law_draw", none)) T.fd_l_draw ["_law_deck_here", "_law_many"] (sp_l_draw K) := by
  refine T.F_l_draw.ok sc_l_draw (fun vs H Q E h => len_l_draw h) (fun cdv A outer s H vs Q E hr h => ⟨t_l_draw K, PSs.nox ?_, pure_l_draw h⟩)
  exact (pss_cons (ps_set (i := 2) sc_l_draw.nd rfl (Or.inl rfl) (pe_ix ix_seq (pv 0) pe_int (fun _ _ => rfl)))
      (pss_cons (ps_asg (pe_op op_add (pe_ix ix_seq (pv 0) pe_int (fun _ _ => rfl)) pe_int) (pg_sub (pv 0) pe_int set_list))
      (pss_cons (ps_if (PW.pt (pw_and (pt_cmpR op_eq (pe_ix ix_seq (pv 0) pe_int (fun _ _ => rfl)) pe_int (nomark _)) (pw_and1 (pt_cmpR op_lt (pe_ix ix_seq (pv 0) pe_int (fun _ _ => rfl)) (pe_callB call_len (by rfl) T.z_len PySem.boot_len (pa_cons (pv 2) pa_nil)) (nomark _))))) (pss_cons (ps_asg (pe_op op_add (pe_ix ix_seq (pv 0) pe_int (fun _ _ => rfl)) pe_int) (pg_sub (pv 0) pe_int set_list))
      (pss_cons (ps_if (pt_cmpR op_lt (pe_ix ix_seq (pv 2) (pe_op op_sub (pe_ix ix_seq (pv 0) pe_int (fun _ _ => rfl)) pe_int) (fun _ _ => rfl)) (pe_op op_pow pe_int pe_int) (nomark _)) (pss_one (ps_ret (pe_op op_mod (pe_call (ok_l_mixed T) (hr.mono (by decide)) (by rfl) T.g_l_mixed T.F_l_mixed.kp (b_l_mixed T) .nil pass0 (pa_cons (pe_ix ix_seq (pv 2) (pe_op op_sub (pe_ix ix_seq (pv 0) pe_int (fun _ _ => rfl)) pe_int) (fun _ _ => rfl)) (pa_cons (pe_ix ix_seq (pv 0) pe_int (fun _ _ => rfl)) pa_nil))) (pv 1)))) pss_nil)
      (pss_one (ps_asg (pe_ix ix_seq (pv 2) (pe_op op_sub (pe_ix ix_seq (pv 0) pe_int (fun _ _ => rfl)) pe_int) (fun _ _ => rfl)) (pg_sub (pv 0) pe_int set_list))))) pss_nil)
      (pss_cons (ps_if (pt_cmpR op_gt (pe_ix ix_seq (pv 0) pe_int (fun _ _ => rfl)) pe_int (nomark _)) (pss_cons (ps_set (i := 3) sc_l_draw.nd rfl (Or.inl rfl) (pe_op op_mod (pe_ix ix_seq (pv 0) pe_int (fun _ _ => rfl)) (pv 1)))
      (pss_cons (ps_asg (pe_op op_fdivW (pe_ix ix_seq (pv 0) pe_int (fun _ _ => rfl)) (pv 1)) (pg_sub (pv 0) pe_int set_list))
      (pss_one (ps_ret (pv 3))))) pss_nil)
      (pss_cons (ps_set (i := 4) sc_l_draw.nd rfl (Or.inl rfl) (pe_op op_mul (pe_ix ix_seq (pv 0) pe_int (fun _ _ => rfl)) pe_int))
      (pss_cons (ps_if (pt_cmpR op_gt (pe_callB call_len (by rfl) T.z_len PySem.boot_len (pa_cons (pv 2) pa_nil)) pe_int (nomark _)) (pss_one (ps_set (i := 4) sc_l_draw.nd rfl (Or.inl rfl) (pe_op op_add (pv 4) (pe_op op_mod (pe_ix ix_seq (pv 2) (pe_op op_mod (pe_op op_mul (pe_ix ix_seq (pv 0) pe_int (fun _ _ => rfl)) pe_int) (pe_callB call_len (by rfl) T.z_len PySem.boot_len (pa_cons (pv 2) pa_nil))) (fun _ _ => rfl)) pe_int)))) pss_nil)
      (pss_one (ps_ret (pe_op op_mod (pe_call (ok_l_mixed T) (hr.mono (by decide)) (by rfl) T.g_l_mixed T.F_l_mixed.kp (b_l_mixed T) .nil pass0 (pa_cons (pv 4) (pa_cons (pe_ix ix_seq (pv 0) pe_int (fun _ _ => rfl)) pa_nil))) (pv 1))))))))))
theorem b_l_shape (T : Tx K mg) : Binds K T.fd_l_shape ["_law_deck_here", "_law_most"] [] := T.F_l_shape.bindsN fun _ _ _ _ _ _ us hl => match us, hl with | [_, _], _ => rfl
theorem ok_l_shape (T : Tx K mg) : FnOk P w K mg base CX0 3 (He.fAd K ("_law_shape", none)) T.fd_l_shape ["_law_deck_here", "_law_most"] (sp_l_shape K) := by
  refine T.F_l_shape.ok sc_l_shape (fun vs H Q E h => len_l_shape h) (fun cdv A outer s H vs Q E hr h => ⟨t_l_shape K, PSs.nox ?_, pure_l_shape h⟩)
  exact (pss_cons (ps_set (i := 2) sc_l_shape.nd rfl (Or.inl rfl) (pe_lst pa_nil))
      (pss_cons (ps_set (i := 3) sc_l_shape.nd rfl (Or.inl rfl) (pe_un un_neg pe_int))
      (pss_cons (ps_set (i := 4) sc_l_shape.nd rfl (Or.inl rfl) (pe_call (ok_l_draw T) (hr.mono (by decide)) (by rfl) T.g_l_draw T.F_l_draw.kp (b_l_draw T) .nil pass0 (pa_cons (pv 0) (pa_cons pe_int pa_nil))))
      (pss_cons (ps_set (i := 5) sc_l_shape.nd rfl (Or.inl rfl) (pe_call (ok_l_draw T) (hr.mono (by decide)) (by rfl) T.g_l_draw T.F_l_draw.kp (b_l_draw T) .nil pass0 (pa_cons (pv 0) (pa_cons pe_int pa_nil))))
      (pss_cons (ps_set (i := 6) sc_l_shape.nd rfl (Or.inl rfl) (pe_lst pa_nil))
      (pss_cons (ps_for PassesOwn.never rfl (pi_range1 (by rfl) T.z_range (pa_cons (pe_call (ok_l_draw T) (hr.mono (by decide)) (by rfl) T.g_l_draw T.F_l_draw.kp (b_l_draw T) .nil pass0 (pa_cons (pv 0) (pa_cons (pe_op op_add (pv 1) pe_int) pa_nil))) pa_nil)) (pg_name (i := 7) sc_l_shape.nd rfl (Or.inl rfl)) (pss_cons (ps_set (i := 3) sc_l_shape.nd rfl (Or.inl rfl) (pe_op op_add (pe_op op_add (pv 3) pe_int) (pe_call (ok_l_draw T) (hr.mono (by decide)) (by rfl) T.g_l_draw T.F_l_draw.kp (b_l_draw T) .nil pass0 (pa_cons (pv 0) (pa_cons pe_int pa_nil)))))
      (pss_cons (ps_if (PW.pt (pw_and (pt_cmpR op_eq (pv 4) pe_int (nomark _)) (pw_and1 (pt_cmpR op_eq (pe_call (ok_l_draw T) (hr.mono (by decide)) (by rfl) T.g_l_draw T.F_l_draw.kp (b_l_draw T) .nil pass0 (pa_cons (pv 0) (pa_cons pe_int pa_nil))) pe_int (nomark _))))) (pss_one (ps_set (i := 3) sc_l_shape.nd rfl (Or.inl rfl) (pe_op op_add (pv 3) (pe_call (ok_l_draw T) (hr.mono (by decide)) (by rfl) T.g_l_draw T.F_l_draw.kp (b_l_draw T) .nil pass0 (pa_cons (pv 0) (pa_cons (pe_op op_pow pe_int pe_int) pa_nil)))))) pss_nil)
      (pss_cons (ps_for PassesOwn.never rfl (pi_range1 (by rfl) T.z_range (pa_cons (pv 7) pa_nil)) (pg_name (i := 8) sc_l_shape.nd rfl (Or.inl rfl)) (pss_cons (ps_set (i := 9) sc_l_shape.nd rfl (Or.inl rfl) (pe_cmpR op_eq (pe_call (ok_l_draw T) (hr.mono (by decide)) (by rfl) T.g_l_draw T.F_l_draw.kp (b_l_draw T) .nil pass0 (pa_cons (pv 0) (pa_cons (pe_ix ix_seq (pe_lst (pa_cons pe_int (pa_cons pe_int (pa_cons pe_int (pa_cons pe_int pa_nil))))) (pv 5) (fun _ _ => rfl)) pa_nil))) pe_int (nomark _)))
      (pss_cons (ps_if (PW.pt (pw_and (pt_cmpR op_eq (pv 5) pe_int (nomark _)) (pw_and1 (pt_cmpR op_gt (pe_op op_sub (pv 7) (pv 8)) pe_int (nomark _))))) (pss_one (ps_set (i := 9) sc_l_shape.nd rfl (Or.inl rfl) pe_bl)) pss_nil)
      (pss_cons (ps_if (PW.pt (pw_and (pt_cmpR op_eq (pv 5) pe_int (nomark _)) (pw_and1 (pt_cmpR op_eq (pv 8) (pe_op op_sub (pv 7) pe_int) (nomark _))))) (pss_one (ps_set (i := 9) sc_l_shape.nd rfl (Or.inl rfl) pe_bl)) pss_nil)
      (pss_one (ps_if (pt_val (pv 9)) (pss_one (ps_expr (pe_bm PySem.F.plainAttrs_list PySem.F.slot_list_append PySem.F.type_list_append mt_append (pv 6) (pa_cons (pe_tup (pa_cons (pv 3) (pa_cons (pe_ix ix_seq (pv 2) (pv 8) (fun _ _ => rfl)) pa_nil))) pa_nil)))) pss_nil))))))
      (pss_one (ps_expr (pe_bm PySem.F.plainAttrs_list PySem.F.slot_list_append PySem.F.type_list_append mt_append (pv 2) (pa_cons (pv 3) pa_nil))))))))
      (pss_one (ps_ret (pe_tup (pa_cons (pe_callTy call_tuple_of (by rfl) T.z_tuple (by decide +kernel) (pa_cons (pv 2) pa_nil)) (pa_cons (pe_callTy call_tuple_of (by rfl) T.z_tuple (by decide +kernel) (pa_cons (pv 6) pa_nil)) pa_nil)))))))))))
theorem b_l_long_shape (T : Tx K mg) : Binds K T.fd_l_long_shape ["_law_deck_here", "_law_most"] [] := T.F_l_long_shape.bindsN fun _ _ _ _ _ _ us hl => match us, hl with | [_, _], _ => rfl
theorem ok_l_long_shape (T : Tx K mg) : FnOk P w K mg base CX0 3 (He.fAd K ("_law_long_shape", none)) T.fd_l_long_shape ["_law_deck_here", "_law_most"] (sp_l_long_shape K) := by
  refine T.F_l_long_shape.ok sc_l_long_shape (fun vs H Q E h => len_l_long_shape h) (fun cdv A outer s H vs Q E hr h => ⟨t_l_long_shape K, PSs.nox ?_, pure_l_long_shape h⟩)
  exact (pss_cons (ps_set (i := 2) sc_l_long_shape.nd rfl (Or.inr rfl) (pe_call (ok_l_draw T) (hr.mono (by decide)) (by rfl) T.g_l_draw T.F_l_draw.kp (b_l_draw T) .nil pass0 (pa_cons (pv 0) (pa_cons (pe_op op_pow pe_int pe_int) pa_nil))))
      (pss_cons (ps_set (i := 3) sc_l_long_shape.nd rfl (Or.inr rfl) (pe_op op_add pe_int (pe_call (ok_l_draw T) (hr.mono (by decide)) (by rfl) T.g_l_draw T.F_l_draw.kp (b_l_draw T) .nil pass0 (pa_cons (pv 0) (pa_cons pe_int pa_nil)))))
      (pss_cons (ps_set (i := 4) sc_l_long_shape.nd rfl (Or.inr rfl) (pe_op op_add pe_int (pe_call (ok_l_draw T) (hr.mono (by decide)) (by rfl) T.g_l_draw T.F_l_draw.kp (b_l_draw T) .nil pass0 (pa_cons (pv 0) (pa_cons pe_int pa_nil)))))
      (pss_cons (ps_set (i := 5) sc_l_long_shape.nd rfl (Or.inl rfl) (pe_call (ok_l_draw T) (hr.mono (by decide)) (by rfl) T.g_l_draw T.F_l_draw.kp (b_l_draw T) .nil pass0 (pa_cons (pv 0) (pa_cons (pe_op op_add (pv 1) pe_int) pa_nil))))
      (pss_cons (ps_set (i := 6) sc_l_long_shape.nd rfl (Or.inr rfl) (pe_lc (own := [("_law_k", 7)]) (g := (gName 7)) (tt := tYes) (te := (tOp rAddI (tVar 2) (tOp rMulI (tVar 3) (tVar 7)))) rfl sc_l_long_shape.nd (pi_range1 (by rfl) T.z_range (pa_cons (pv 5) pa_nil)) (blkOk_by (own := [("_law_k", 7)]) (N := N_l_long_shape) (sc := defScope s_l_long_shape) (by decide +kernel)) (fun _ _ _ _ _ => (pg_name (i := 7) sc_l_long_shape.nd rfl (Or.inl rfl))) (fun _ _ _ _ _ => pts_nil) (fun _ _ _ _ _ => (pe_op op_add (pv 2) (pe_op op_mul (pv 3) (pv 7))))))
      (pss_cons (ps_setLc (i := 8) (own := [("_law_k", 7)]) (g := (gName 7)) (tt := tYes) (te := (tTup (tCons (tOp (rIx K) (tVar 6) (tVar 7)) (tCons (tOp (rIx K) (tVar 6) (tOp rSubI (tVar 7) (tVar 4))) tNil)))) rfl sc_l_long_shape.nd rfl rfl (sw_true rfl rfl rfl (by decide +kernel)) (pi_range2 (by rfl) T.z_range (pa_cons (pv 4) (pa_cons (pv 5) pa_nil))) (blkOk_by (own := [("_law_k", 7)]) (N := N_l_long_shape) (sc := defScope s_l_long_shape) (by decide +kernel)) (fun _ _ _ _ _ => (pg_name (i := 7) sc_l_long_shape.nd rfl (Or.inl rfl))) (fun _ _ _ _ _ => pts_nil) (fun _ _ _ _ _ => (pe_tup (pa_cons (pe_ix ix_seq (pv 6) (pv 7) (fun _ _ => rfl)) (pa_cons (pe_ix ix_seq (pv 6) (pe_op op_sub (pv 7) (pv 4)) (fun _ _ => rfl)) pa_nil)))))
      (pss_one (ps_ret (pe_tup (pa_cons (pe_callTy call_tuple_of (by rfl) T.z_tuple (by decide +kernel) (pa_cons (pv 6) pa_nil)) (pa_cons (pe_callTy call_tuple_of (by rfl) T.z_tuple (by decide +kernel) (pa_cons (pv 8) pa_nil)) (pa_cons (pv 4) pa_nil))))))))))))
theorem b_law (T : Tx K mg) : Binds K T.fd_law ["_law_script"] [] := T.F_law.bindsN fun _ _ _ _ _ _ us hl => match us, hl with | [_], _ => rfl
theorem ok_law (T : Tx K mg) : FnOk P w K mg base CX0 6 (He.fAd K ("law", none)) T.fd_law ["_law_script"] (sp_law K) := by
  refine T.F_law.ok sc_law (fun vs H Q E h => len_law h) (fun cdv A outer s H vs Q E hr h => ⟨t_law K, PSs.nox ?_, pure_law h⟩)
  exact (pss_cons (ps_set (i := 1) sc_law.nd rfl (Or.inl rfl) (pe_call (ok_l_deck T) (hr.mono (by decide)) (by rfl) T.g_l_deck T.F_l_deck.kp (b_l_deck T) .nil pass0 (pa_cons (pv 0) pa_nil)))
      (pss_cons (ps_if (pt_cmpR op_eq (pe_call (ok_l_draw T) (hr.mono (by decide)) (by rfl) T.g_l_draw T.F_l_draw.kp (b_l_draw T) .nil pass0 (pa_cons (pv 1) (pa_cons pe_int pa_nil))) pe_int (nomark _)) (pss_cons (ps_set (i := 2) sc_law.nd rfl (Or.inl rfl) (pe_call (ok_l_long_shape T) (hr.mono (by decide)) (by rfl) T.g_l_long_shape T.F_l_long_shape.kp (b_l_long_shape T) .nil pass0 (pa_cons (pv 1) (pa_cons pe_int pa_nil))))
      (pss_one (ps_ret (pe_cmpR op_isBl (pe_call (ok_check T) (hr.mono (by decide)) (by rfl) T.g_check T.F_check.kp (b_check T) .nil pass0 (pa_cons (pe_tup (pa_cons (pe_ix ix_seq (pv 2) pe_int (fun _ _ => rfl)) (pa_cons (pe_ix ix_seq (pv 2) pe_int (fun _ _ => rfl)) pa_nil))) pa_nil)) pe_bl (nomark _))))) pss_nil)
      (pss_one (ps_ret (pe_cmpR op_isBl (pe_call (ok_check T) (hr.mono (by decide)) (by rfl) T.g_check T.F_check.kp (b_check T) .nil pass0 (pa_cons (pe_call (ok_l_shape T) (hr.mono (by decide)) (by rfl) T.g_l_shape T.F_l_shape.kp (b_l_shape T) .nil pass0 (pa_cons (pv 1) (pa_cons pe_int pa_nil))) pa_nil)) pe_bl (nomark _))))))
end
def d_is_int : He.DefD := ⟨("is_int", none), "is_int", "is_int", defArgs s_is_int, defBody s_is_int, defScope s_is_int, [], []⟩
def d_is_pair : He.DefD := ⟨("is_pair", none), "is_pair", "is_pair", defArgs s_is_pair, defBody s_is_pair, defScope s_is_pair, [], []⟩
def d_rises : He.DefD := ⟨("rises", none), "rises", "rises", defArgs s_rises, defBody s_rises, defScope s_rises, [], []⟩
def d_is_ints : He.DefD := ⟨("is_ints", none), "is_ints", "is_ints", defArgs s_is_ints, defBody s_is_ints, defScope s_is_ints, [], []⟩
def d_is_rising : He.DefD := ⟨("is_rising", none), "is_rising", "is_rising", defArgs s_is_rising, defBody s_is_rising, defScope s_is_rising, [], []⟩
def d_are_versions : He.DefD := ⟨("are_versions", none), "are_versions", "are_versions", defArgs s_are_versions, defBody s_are_versions, defScope s_are_versions, [], []⟩
def d_is_link : He.DefD := ⟨("is_link", none), "is_link", "is_link", defArgs s_is_link, defBody s_is_link, defScope s_is_link, [], []⟩
def d_are_links : He.DefD := ⟨("are_links", none), "are_links", "are_links", defArgs s_are_links, defBody s_are_links, defScope s_are_links, [], []⟩
def d_check : He.DefD := ⟨("check", none), "check", "check", defArgs s_check, defBody s_check, defScope s_check, [], []⟩
def d_l_deck : He.DefD := ⟨("_law_deck", none), "_law_deck", "_law_deck", defArgs s_l_deck, defBody s_l_deck, defScope s_l_deck, [], []⟩
def d_l_mixed : He.DefD := ⟨("_law_mixed", none), "_law_mixed", "_law_mixed", defArgs s_l_mixed, defBody s_l_mixed, defScope s_l_mixed, [], []⟩
def d_l_draw : He.DefD := ⟨("_law_draw", none), "_law_draw", "_law_draw", defArgs s_l_draw, defBody s_l_draw, defScope s_l_draw, [], []⟩
def d_l_shape : He.DefD := ⟨("_law_shape", none), "_law_shape", "_law_shape", defArgs s_l_shape, defBody s_l_shape, defScope s_l_shape, [], []⟩
def d_l_long_shape : He.DefD := ⟨("_law_long_shape", none), "_law_long_shape", "_law_long_shape", defArgs s_l_long_shape, defBody s_l_long_shape, defScope s_l_long_shape, [], []⟩
def d_law : He.DefD := ⟨("law", none), "law", "law", defArgs s_law, defBody s_law, defScope s_law, [], []⟩
def fn : List He.DefD := [d_is_int, d_is_pair, d_rises, d_is_ints, d_is_rising, d_are_versions, d_is_link, d_are_links, d_check, d_l_deck, d_l_mixed, d_l_draw, d_l_shape, d_l_long_shape, d_law]
def fa : List He.Fa := [.glo "is_int", .glo "is_pair", .glo "rises", .glo "is_ints", .glo "is_rising", .glo "are_versions", .glo "is_link", .glo "are_links", .glo "check", .glo "_law_deck", .glo "_law_mixed", .glo "_law_draw", .glo "_law_shape", .glo "_law_long_shape", .glo "law", .free "all", .free "bool", .free "int", .free "isinstance", .free "len", .free "list", .free "range", .free "tuple", .free "zip", .int "MOST_LINKS" 2000, .int "MOST_VERSIONS" 400]
abbrev R : PySem.W.OpenRow := PySem.W.OpenLaw.row PySem.Challenge.rw_fewasks_k11_good_shapes
abbrev hk : PySem.W.Hook := He.hookD 4 fa fn
def ob (s : PySem.W.SharedT) : He.AlD := He.obsDG 4 fa fn (HandSHeadRun.getT s)
theorem ob_eq (s : PySem.W.SharedT) : ob s = hk.obs s.abs := He.obsDG_eq (HandSHeadRun.getT_eq s)
def loose : List Str := [("HouseError" : Str), ("NoShape" : Str), ("is_int" : Str), ("is_pair" : Str), ("rises" : Str), ("is_ints" : Str), ("is_rising" : Str), ("check" : Str), ("are_versions" : Str), ("are_links" : Str), ("is_link" : Str), ("_law_deck" : Str), ("_law_mixed" : Str), ("_law_draw" : Str), ("_law_shape" : Str), ("_law_long_shape" : Str), ("MOST_LINKS" : Str), ("MOST_VERSIONS" : Str)]
theorem run (w : World) : HandSHeadRun.RunEq R (PySem.W.view R.prog [22]) hk ob 4000 loose w := by
  intro os
  kernel_rfl
theorem facts {P : Program} {w : World} {K : PySem.W.Frag} {h : Heap} {mg : Str → Option Value} {f : Addr} (X : K.In h) (G : h.Ns mainGlobals mg) (hfa : mg ("law" : Str) = some (.ref f)) (c : He.SaysD fa fn K) :
    ∃ fd : FuncData, (∀ (s : Shared) (v : Value), BindsTo s fd ⟨[v], []⟩ [("_law_script", v)]) ∧ ∀ base : Heap, K.In base → base.Ns mainGlobals mg → FnOk P w K mg base CX0 6 f fd ["_law_script"] (sp_law K) := by
  obtain ⟨fd0, F0⟩ := c.def_ 0 (d := d_is_int) rfl
  obtain ⟨fd1, F1⟩ := c.def_ 1 (d := d_is_pair) rfl
  obtain ⟨fd2, F2⟩ := c.def_ 2 (d := d_rises) rfl
  obtain ⟨fd3, F3⟩ := c.def_ 3 (d := d_is_ints) rfl
  obtain ⟨fd4, F4⟩ := c.def_ 4 (d := d_is_rising) rfl
  obtain ⟨fd5, F5⟩ := c.def_ 5 (d := d_are_versions) rfl
  obtain ⟨fd6, F6⟩ := c.def_ 6 (d := d_is_link) rfl
  obtain ⟨fd7, F7⟩ := c.def_ 7 (d := d_are_links) rfl
  obtain ⟨fd8, F8⟩ := c.def_ 8 (d := d_check) rfl
  obtain ⟨fd9, F9⟩ := c.def_ 9 (d := d_l_deck) rfl
  obtain ⟨fd10, F10⟩ := c.def_ 10 (d := d_l_mixed) rfl
  obtain ⟨fd11, F11⟩ := c.def_ 11 (d := d_l_draw) rfl
  obtain ⟨fd12, F12⟩ := c.def_ 12 (d := d_l_shape) rfl
  obtain ⟨fd13, F13⟩ := c.def_ 13 (d := d_l_long_shape) rfl
  obtain ⟨fd14, F14⟩ := c.def_ 14 (d := d_law) rfl
  have e := hfa.symm.trans (He.glo_ok X G (c.fact 14 (f := .glo "law") rfl))
  cases e
  have b := FunD.bindsA (ps := ["_law_script"]) F14 fun _ _ _ _ _ _ us hl => match us, hl with | [_], _ => rfl
  exact ⟨fd14, fun s v => b s [v] rfl, fun base _ _ => ok_law (⟨fd0, F0, (He.glo_ok X G (c.fact 0 (f := .glo "is_int") rfl)), fd1, F1, (He.glo_ok X G (c.fact 1 (f := .glo "is_pair") rfl)), fd2, F2, (He.glo_ok X G (c.fact 2 (f := .glo "rises") rfl)), fd3, F3, (He.glo_ok X G (c.fact 3 (f := .glo "is_ints") rfl)), fd4, F4, (He.glo_ok X G (c.fact 4 (f := .glo "is_rising") rfl)), fd5, F5, (He.glo_ok X G (c.fact 5 (f := .glo "are_versions") rfl)), fd6, F6, (He.glo_ok X G (c.fact 6 (f := .glo "is_link") rfl)), fd7, F7, (He.glo_ok X G (c.fact 7 (f := .glo "are_links") rfl)), fd8, F8, (He.glo_ok X G (c.fact 8 (f := .glo "check") rfl)), fd9, F9, (He.glo_ok X G (c.fact 9 (f := .glo "_law_deck") rfl)), fd10, F10, (He.glo_ok X G (c.fact 10 (f := .glo "_law_mixed") rfl)), fd11, F11, (He.glo_ok X G (c.fact 11 (f := .glo "_law_draw") rfl)), fd12, F12, (He.glo_ok X G (c.fact 12 (f := .glo "_law_shape") rfl)), fd13, F13, (He.glo_ok X G (c.fact 13 (f := .glo "_law_long_shape") rfl)), fd14, F14, (He.free_ok X G (c.fact 15 (f := .free "all") rfl)), (He.free_ok X G (c.fact 16 (f := .free "bool") rfl)), (He.free_ok X G (c.fact 17 (f := .free "int") rfl)), (He.free_ok X G (c.fact 18 (f := .free "isinstance") rfl)), (He.free_ok X G (c.fact 19 (f := .free "len") rfl)), (He.free_ok X G (c.fact 20 (f := .free "list") rfl)), (He.free_ok X G (c.fact 21 (f := .free "range") rfl)), (He.free_ok X G (c.fact 22 (f := .free "tuple") rfl)), (He.free_ok X G (c.fact 23 (f := .free "zip") rfl)), (He.int_ok X G (c.fact 24 (f := .int "MOST_LINKS" 2000) rfl)), (He.int_ok X G (c.fact 25 (f := .int "MOST_VERSIONS" 400) rfl))⟩ : Tx K mg)⟩
end K11
open PySem PySem.W PySem.Calls PyProof.Rows
set_option maxRecDepth 100000 in
set_option maxHeartbeats 0 in
theorem PySem.Challenge.cw_fewasks_k11_good_shapes_holds : PySem.Challenge.rw_fewasks_k11_good_shapes.Holds := by
  w_on; o_law
  refine HandSHeadRun.head_any (r := OpenLaw.row PySem.Challenge.rw_fewasks_k11_good_shapes) (q := view (OpenLaw.row PySem.Challenge.rw_fewasks_k11_good_shapes).prog [22]) (H := K11.hk) (ob := K11.ob) (M := 4000) (loose := K11.loose) (d := HandSHeadRun.topDef (OpenLaw.row PySem.Challenge.rw_fewasks_k11_good_shapes).prog 22) (kwd := []) K11.ob_eq
    (by kernel_rfl) (fun s => by kernel_rfl) K11.run (by kernel_rfl) (by kernel_rfl) (by kernel_rfl) (by rfl) (by first | assumption | decide +kernel) (by decide +kernel) ⟨rfl, rfl, rfl, rfl, rfl, by decide +kernel⟩ ?hw ?hc
  case hw => w_witness2
  case hc =>
    refine L2.walk_ofE (l := PySem.Challenge.rw_fewasks_k11_good_shapes) (n := 63) (k := 6) (x := "_law_script") (CX := L2.CX0) rfl (by decide) (by kernel_rfl) ⟨rfl, by decide, by decide⟩ ?F (fun _ _ _ _ z => z)
    intro w mg fa h Y G hmg0
    obtain ⟨K, KX, c⟩ := Y
    have hmg : mg ("law" : PySem.Str) = some (.ref fa) := by
      have e : (HandSHeadRun.topDef (OpenLaw.row PySem.Challenge.rw_fewasks_k11_good_shapes).prog 22).name = ("law" : PySem.Str) := by kernel_rfl
      rw [← e]
      exact hmg0
    obtain ⟨fd, hb, hF⟩ := K11.facts (P := (PySem.Challenge.rw_fewasks_k11_good_shapes).prog) (w := w) KX G hmg c
    exact ⟨K, fd, Fw.sp_law K, KX, hb, fun H a ns hl _ hS => ⟨a, ns, rfl, hS, hl, fun _ => rfl⟩, hF⟩
