import PyProof.Rows.All
import Wide.All
import OpenK.AllK
import Wide.FinOn
import KE.KStateDown
import HandS.ForMost
import HandS.IsInst
import HandS.Conv
import HandS.Wide
import HandS.WideBits
import HandS.SortInts
import HandS.DictComp
import HandS.Zip
import HandS.Rev
import HandS.Flow
import HandS.Steps
import HandS.Defaults
import HandS.Head0
import HandS.Head1
import HandS.Head2
import HandS.HeadEnd
import HandS.HeadHook1
import HandS.HeadHook2
import HandS.TupAny
import HandS.TupLe
import HandS.Style
import HandS.Exc
import HandS.ExcOwn
import HandS.WordsExc
import HandS.ExcIs
import PySem.Challenge.RW_fewasks_k12_no_shape
set_option Elab.async false
set_option linter.all false
set_option maxRecDepth 100000
set_option maxHeartbeats 4000000
namespace Fw
open PySem L2 RZ RT
/-! ### readings by name -/
abbrev rAddI : R2 := rI0 fun i j => .int (i + j)
abbrev rSubI : R2 := rI0 fun i j => .int (i - j)
abbrev rMulI : R2 := rI CMul fun i j => .int (i * j)
abbrev rDivI : R2 := rI CDivW fun i j => .int (i / j)
abbrev rModI : R2 := rI (fun _ j => 0 < j) fun i j => .int (i % j)
abbrev rPowI : R2 := rI CPow fun i j => .int (i ^ j.toNat)
abbrev rLtI : R2 := rI0 fun i j => .bl (decide (i < j))
abbrev rLeI : R2 := rI0 fun i j => .bl (decide (i ≤ j))
abbrev rGtI : R2 := rI0 fun i j => .bl (decide (j < i))
abbrev rGeI : R2 := rI0 fun i j => .bl (decide (j ≤ i))
abbrev rNegI : V → Hp → VK → Prop := rU fun i => .int (-i)
abbrev fIsN : R2 := fun x y H Q => y = .non ∧ Q (.bl (decide (x = .non))) H
abbrev fNotN : R2 := fun x y H Q => y = .non ∧ Q (.bl (!decide (x = .non))) H
def fLen (K : PySem.W.Frag) : List V → Hp → VK → Prop := fun xs H Q => ∃ x n, xs = [x] ∧ LenV K x H n ∧ Q (.int n) H
def fListOf (K : PySem.W.Frag) : List V → Hp → VK → Prop := fun xs H Q => ∃ p ys, xs = [.ref p] ∧ (SqL K H p ys ∨ SqT K H p ys) ∧ ∀ l, H l = none → Q (.ref l) (upd H l (.lst ys))
def fTupleOf (K : PySem.W.Frag) : List V → Hp → VK → Prop := fun xs H Q => ∃ p ys, xs = [.ref p] ∧ ((SqL K H p ys ∧ ∀ l, H l = none → Q (.ref l) (upd H l (.tup ys))) ∨ (SqT K H p ys ∧ Q (.ref p) H))
def fMin2 : List V → Hp → VK → Prop := fun xs H Q => ∃ i j, xs = [.int i, .int j] ∧ Q (.int (if j < i then j else i)) H
def fMax2 : List V → Hp → VK → Prop := fun xs H Q => ∃ i j, xs = [.int i, .int j] ∧ Q (.int (if j > i then j else i)) H
/-! ### steps -/
section
variable {K : PySem.W.Frag} {H : Hp} {p : Addr} {xs : List V} {i : Int} {v : V} {Q : VK}
theorem ixL (h : H p = some (.lst xs)) (ha : atI xs i = some v) (q : Q v H) : rIx K (.ref p) (.int i) H Q := .inl ⟨p, xs, i, v, rfl, rfl, .inl (.inl h), ha, q⟩
theorem ixT (h : H p = some (.tup xs)) (ha : atI xs i = some v) (q : Q v H) : rIx K (.ref p) (.int i) H Q := .inr (.inl ⟨p, xs, i, v, rfl, rfl, .inl (.inl h), ha, q⟩)
theorem lenL {σ : L2.St} (h : H p = some (.lst xs)) (q : Q (.int xs.length) H) : tNil σ H fun ys H2 => fLen K (.ref p :: ys) H2 Q := ⟨_, _, rfl, .inl ⟨xs, .inl (.inl h), rfl⟩, q⟩
theorem lenT {σ : L2.St} (h : H p = some (.tup xs)) (q : Q (.int xs.length) H) : tNil σ H fun ys H2 => fLen K (.ref p :: ys) H2 Q := ⟨_, _, rfl, .inr ⟨xs, .inl (.inl h), rfl⟩, q⟩
theorem sqL (h : H p = some (.lst xs)) : SqL K H p xs := .inl (.inl h)
theorem sqT (h : H p = some (.tup xs)) : SqT K H p xs := .inl (.inl h)
end
theorem updS {H : Hp} {a : Addr} {o : HO} : upd H a o a = some o := upd_same
theorem updN {H : Hp} {a b : Addr} {o : HO} {r : Option HO} (n : b ≠ a) (h : H b = r) : upd H a o b = r := by rw [upd_ne n]; exact h
theorem small100 {m : Int} (h : m.natAbs ≤ 1000000000000000000) : m.natAbs < 2 ^ 100 := Nat.lt_of_le_of_lt h (by decide)
/-- the number in a slot, as a measure -/
def slotN (k : Nat) (σ : L2.St) : Nat := match σ[k]? with
  | some (some (V.int n)) => n.toNat
  | _ => 0
theorem getLastD_of {l : List V} (h : l ≠ []) : l.getLastD .non = l.getLast h := by
  rw [List.getLastD_eq_getLast?, List.getLast?_eq_getLast h]
  rfl
theorem pow18 : (10 : Int) ^ (18 : Int).toNat = 1000000000000000000 := by decide
/-! ### the deck of a law -/
/-- the deck at D: the cells at c, the turn at most t -/
def Dk (c D : Addr) (ns : List Int) (t : Nat) (H : Hp) : Prop := c ≠ D ∧ H c = some (.lst (ns.map V.int)) ∧ ns.length ≤ 63 ∧
  ∃ i n u : Int, H D = some (.lst [.ref c, .int i, .int n, .int u]) ∧ 0 ≤ i ∧ i ≤ ns.length ∧ 0 ≤ n ∧ 0 ≤ u ∧ u ≤ t
def sp_l_deck (K : PySem.W.Frag) : Sp := fun vs H Q _ => ∃ (a : Addr) (ns : List Int), vs = [.ref a] ∧ SqL K H a (ns.map V.int) ∧ ns.length ≤ 63 ∧
  ∀ c D H', Same H H' → H c = none → H D = none → Dk c D ns 0 H' → Q (.ref D) H'
def sp_l_mixed (_ : PySem.W.Frag) : Sp := fun vs H Q _ => ∃ (c t : Int), vs = [.int c, .int t] ∧ 0 ≤ t ∧ t ≤ 1000000000 ∧ ∀ v : Int, Q (.int v) H
def sp_l_draw (_ : PySem.W.Frag) : Sp := fun vs H Q _ => ∃ (c D : Addr) (ns : List Int) (t : Nat) (m : Int), vs = [.ref D, .int m] ∧ Dk c D ns t H ∧ t < 1000000000 ∧ 0 < m ∧ m.natAbs < 2 ^ 100 ∧
  ∀ (v : Int) (H' : Hp), 0 ≤ v → v < m → Dk c D ns (t + 1) H' → (∀ b, b ≠ D → H' b = H b) → Q (.int v) H'
def sp_l_int (_ : PySem.W.Frag) : Sp := fun vs H Q _ => ∃ i : Int, vs = [.int i] ∧ Q (.bl true) H
abbrev N_l_deck : List Str := ["_law_script"]
def t_l_deck (K : PySem.W.Frag) : TS := (tRet (tLst (tCons (tCB (fListOf K) (tCons (tVar 0) tNil)) (tCons (tC (.int 0)) (tCons (tC (.int 0)) (tCons (tC (.int 0)) tNil))))))
abbrev N_l_mixed : List Str := ["_law_cell", "_law_turn"]
def t_l_mixed (K : PySem.W.Frag) : TS := (tRet (tOp rModI (tOp rPowI (tOp rAddI (tOp rAddI (tOp rModI (tVar 0) (tC (.int 2147483629))) (tOp rMulI (tVar 1) (tC (.int 1000003)))) (tC (.int 17))) (tC (.int 5))) (tC (.int 2147483647))))
abbrev N_l_draw : List Str := ["_law_deck_here", "_law_many", "_law_cells", "_law_found", "_law_number"]
def t_l_draw_in (K : PySem.W.Frag) : TS := (tSeq (tIfS (tTest (tOp rLtI (tOp (rIx K) (tVar 2) (tOp rSubI (tOp (rIx K) (tVar 0) (tC (.int 1))) (tC (.int 1)))) (tOp rPowI (tC (.int 10)) (tC (.int 18))))) (tRet (tOp rModI (tCall (sp_l_mixed K) [] E0 (tCons (tOp (rIx K) (tVar 2) (tOp rSubI (tOp (rIx K) (tVar 0) (tC (.int 1))) (tC (.int 1)))) (tCons (tOp (rIx K) (tVar 0) (tC (.int 3))) tNil))) (tVar 1))) tNext)
    (tAsg (tOp (rIx K) (tVar 2) (tOp rSubI (tOp (rIx K) (tVar 0) (tC (.int 1))) (tC (.int 1)))) (gSub (tVar 0) (tC (.int 2)) rSetL)))
def t_l_draw_last (K : PySem.W.Frag) : TS := (tRet (tOp rModI (tCall (sp_l_mixed K) [] E0 (tCons (tVar 4) (tCons (tOp (rIx K) (tVar 0) (tC (.int 3))) tNil))) (tVar 1)))
def t_l_draw_rest (K : PySem.W.Frag) : TS := (tSeq (tIfS (tTest (tOp rGtI (tOp (rIx K) (tVar 0) (tC (.int 2))) (tC (.int 0)))) (tSeq (tAsg (tOp rModI (tOp (rIx K) (tVar 0) (tC (.int 2))) (tVar 1)) (gName 3))
    (tSeq (tAsg (tOp rDivI (tOp (rIx K) (tVar 0) (tC (.int 2))) (tVar 1)) (gSub (tVar 0) (tC (.int 2)) rSetL))
    (tRet (tVar 3)))) tNext)
    (tSeq (tAsg (tOp rMulI (tOp (rIx K) (tVar 0) (tC (.int 3))) (tC (.int 48271))) (gName 4))
    (tSeq (tIfS (tTest (tOp rGtI (tCB (fLen K) (tCons (tVar 2) tNil)) (tC (.int 0)))) (tAsg (tOp rAddI (tVar 4) (tOp rModI (tOp (rIx K) (tVar 2) (tOp rModI (tOp rMulI (tOp (rIx K) (tVar 0) (tC (.int 3))) (tC (.int 7))) (tCB (fLen K) (tCons (tVar 2) tNil)))) (tC (.int 2147483629)))) (gName 4)) tNext)
    (t_l_draw_last K))))
def t_l_draw_mid (K : PySem.W.Frag) : TS := (tSeq (tIfS (tAnd (tTest (tOp rEq (tOp (rIx K) (tVar 0) (tC (.int 2))) (tC (.int 0)))) (tTest (tOp rLtI (tOp (rIx K) (tVar 0) (tC (.int 1))) (tCB (fLen K) (tCons (tVar 2) tNil))))) (tSeq (tAsg (tOp rAddI (tOp (rIx K) (tVar 0) (tC (.int 1))) (tC (.int 1))) (gSub (tVar 0) (tC (.int 1)) rSetL))
    (t_l_draw_in K)) tNext)
    (t_l_draw_rest K))
def t_l_draw (K : PySem.W.Frag) : TS := (tSeq (tAsg (tOp (rIx K) (tVar 0) (tC (.int 0))) (gName 2))
    (tSeq (tAsg (tOp rAddI (tOp (rIx K) (tVar 0) (tC (.int 3))) (tC (.int 1))) (gSub (tVar 0) (tC (.int 3)) rSetL))
    (t_l_draw_mid K)))
abbrev N_l_int : List Str := ["_law_thing"]
def t_l_int (K : PySem.W.Frag) : TS := (tRet (tAndV (tCB (rIsi K) (tCons (tVar 0) (tCons (tC (.ty "int")) tNil))) (tNotV (tCB (rIsi K) (tCons (tVar 0) (tCons (tC (.ty "bool")) tNil))))))
theorem pure_l_deck {K : PySem.W.Frag} {vs : List V} {H : Hp} {Q : VK} {E : XK} (h : sp_l_deck K vs H Q E) : t_l_deck K { nx := fun _ H' => Q .non H', rt := Q } (start N_l_deck vs) H := by
  obtain ⟨a, ns, rfl, hS, hl, k⟩ := h
  refine ⟨_, rfl, a, _, rfl, .inl hS, fun c nc => ⟨by show (4 : Nat) ≤ sizeLine; decide, fun D nD => ?_⟩⟩
  have ncD : c ≠ D := fun e => by rw [← e, updS] at nD; cases nD
  have nD0 : H D = none := by rw [upd_ne ncD.symm] at nD; exact nD
  refine k c D _ (fun b o e => updN (ne_of_none e nD0) (updN (ne_of_none e nc) e)) nc nD0 ⟨ncD, updN ncD updS, hl, 0, 0, 0, updS, Int.le_refl _, by omega, Int.le_refl _, Int.le_refl _, Int.le_refl _⟩
theorem pure_l_mixed {K : PySem.W.Frag} {vs : List V} {H : Hp} {Q : VK} {E : XK} (h : sp_l_mixed K vs H Q E) : t_l_mixed K { nx := fun _ H' => Q .non H', rt := Q } (start N_l_mixed vs) H := by
  obtain ⟨c, t, rfl, h0, h1, k⟩ := h
  refine ⟨_, rfl, _, _, rfl, rfl, (by show (0 : Int) < 2147483629; decide), _, rfl, _, _, rfl, rfl, .inr ⟨by decide, by decide⟩, _, _, rfl, rfl, _, _, rfl, rfl, _, _, rfl, rfl, ⟨by decide, by decide, ?_⟩, _, _, rfl, rfl, (by show (0 : Int) < 2147483647; decide), k _⟩
  have := Int.emod_nonneg c (show (2147483629 : Int) ≠ 0 by decide)
  have := Int.emod_lt_of_pos c (show (0 : Int) < 2147483629 by decide)
  omega
theorem pure_l_int {K : PySem.W.Frag} {vs : List V} {H : Hp} {Q : VK} {E : XK} (h : sp_l_int K vs H Q E) : t_l_int K { nx := fun _ H' => Q .non H', rt := Q } (start N_l_int vs) H := by
  obtain ⟨i, rfl, k⟩ := h
  refine ⟨_, rfl, _, _, _, _, true, rfl, .ty _, .base (.int i), kit_ty (by decide +kernel), _, rfl, iteT ?_⟩
  refine ⟨_, rfl, _, _, _, _, false, rfl, .ty _, .base (.int i), kit_ty (by decide +kernel), _, rfl, k⟩
theorem pure_l_draw {K : PySem.W.Frag} {vs : List V} {H : Hp} {Q : VK} {E : XK} (h : sp_l_draw K vs H Q E) : t_l_draw K { nx := fun _ H' => Q .non H', rt := Q } (start N_l_draw vs) H := by
  obtain ⟨c, D, ns, t, m, rfl, ⟨ncD, hc, hl, i, n, u, hD, i0, i1, n0, u0, u1⟩, ht, m0, m1, k⟩ := h
  have cells : ∀ {j : Int}, 0 ≤ j → j < ns.length → ∃ z : Int, atI (ns.map V.int) j = some (.int z) := fun {j} h0 h1 => by
    obtain ⟨q, rfl⟩ := Int.eq_ofNat_of_zero_le h0
    have hq : q < ns.length := by omega
    exact ⟨ns[q], atI_nat (by rw [List.getElem?_map, List.getElem?_eq_getElem hq]; rfl)⟩
  -- the rest, from any i and n
  have rest : ∀ (i n : Int) (H2 : Hp) (z3 z4 : Option V), 0 ≤ i → i ≤ ns.length → 0 ≤ n → H2 D = some (.lst [.ref c, .int i, .int n, .int (u + 1)]) → H2 c = some (.lst (ns.map V.int)) → (∀ b, b ≠ D → H2 b = H b) →
      t_l_draw_rest K { nx := fun _ H' => Q .non H', rt := Q } [some (.ref D), some (.int m), some (.ref c), z3, z4] H2 := by
    intro i n H2 z3 z4 i0 i1 n0 hD2 hc2 fr2
    have mod0 : ∀ x : Int, 0 ≤ x % m := fun x => Int.emod_nonneg x (by omega)
    have mod1 : ∀ x : Int, x % m < m := fun x => Int.emod_lt_of_pos x m0
    refine ⟨_, rfl, ixL hD2 rfl ⟨_, _, rfl, rfl, _, rfl, ite2 (fun e => ?_) (fun e => ?_)⟩⟩
    · have hn : 0 < n := of_decide_eq_true e
      refine ⟨_, rfl, ixL hD2 rfl ⟨_, rfl, _, _, rfl, rfl, m0, ?_⟩⟩
      refine ⟨_, rfl, ixL hD2 rfl ⟨_, rfl, _, _, rfl, rfl, wide_div m0 m1 (by decide) (by decide), _, rfl, D, _, _, 2, rfl, rfl, hD2, rfl, ?_⟩⟩
      refine ⟨_, rfl, k _ _ (mod0 n) (mod1 n) ⟨ncD, updN ncD hc2, hl, i, n / m, u + 1, updS, i0, i1, Int.ediv_nonneg n0 (by omega), by omega, by omega⟩ fun b nb => (upd_ne nb).trans (fr2 b nb)⟩
    · refine ⟨_, rfl, ixL hD2 rfl ⟨_, _, rfl, rfl, .inr ⟨by decide, by decide⟩, ?_⟩⟩
      have last : ∀ (y : Int), t_l_draw_last K { nx := fun _ H' => Q .non H', rt := Q } [some (.ref D), some (.int m), some (.ref c), z3, some (.int y)] H2 := fun y => by
        refine ⟨_, rfl, _, rfl, ixL hD2 rfl ⟨y, u + 1, rfl, by omega, by omega, fun v => ?_⟩⟩
        refine ⟨_, rfl, _, _, rfl, rfl, m0, k _ _ (mod0 v) (mod1 v) ⟨ncD, hc2, hl, i, n, u + 1, hD2, i0, i1, n0, by omega, by omega⟩ fr2⟩
      refine ⟨_, rfl, lenL hc2 ⟨_, _, rfl, rfl, _, rfl, ite2 (fun e => ?_) (fun e => ?_)⟩⟩
      · have hn : 0 < ns.length := by
          have q : (0 : Int) < (ns.map V.int).length := of_decide_eq_true e
          rw [List.length_map] at q
          omega
        have hlen : ((ns.map V.int).length : Int) = ns.length := by rw [List.length_map]
        obtain ⟨z, hz⟩ := cells (j := (u + 1) * 7 % ((ns.map V.int).length : Int)) (Int.emod_nonneg _ (by omega)) (by rw [hlen]; exact Int.emod_lt_of_pos _ (by omega))
        refine ⟨_, rfl, _, rfl, _, rfl, ixL hD2 rfl ⟨_, _, rfl, rfl, .inr ⟨by decide, by decide⟩, _, rfl, lenL hc2 ⟨_, _, rfl, rfl, (by show (0 : Int) < ((ns.map V.int).length : Int); omega), ixL hc2 hz ⟨_, _, rfl, rfl, (by show (0 : Int) < 2147483629; decide), _, _, rfl, rfl, ?_⟩⟩⟩⟩
        exact last _
      · exact last _
  have mid : ∀ (H1 : Hp) (z3 z4 : Option V), H1 D = some (.lst [.ref c, .int i, .int n, .int (u + 1)]) → H1 c = some (.lst (ns.map V.int)) → (∀ b, b ≠ D → H1 b = H b) →
      t_l_draw_mid K { nx := fun _ H' => Q .non H', rt := Q } [some (.ref D), some (.int m), some (.ref c), z3, z4] H1 := by
    intro H1 z3 z4 hD1 hc1 fr1
    refine ⟨_, rfl, ixL hD1 rfl ⟨rfl, _, rfl, ?_⟩⟩
    refine ite2 (fun e => ?_) (fun e => iteF (rest i n H1 _ _ i0 i1 n0 hD1 hc1 fr1))
    refine ⟨_, rfl, ixL hD1 rfl ⟨_, rfl, lenL hc1 ⟨_, _, rfl, rfl, _, rfl, ite2 (fun e2 => ?_) (fun e2 => rest i n H1 _ _ i0 i1 n0 hD1 hc1 fr1)⟩⟩⟩
    have hi : i < ns.length := by
      have q : i < ((ns.map V.int).length : Int) := of_decide_eq_true e2
      rw [List.length_map] at q
      exact q
    obtain ⟨z, hz⟩ := cells i0 hi
    have ei : i + 1 - 1 = i := by omega
    have inn : ∀ (H2 : Hp), H2 D = some (.lst [.ref c, .int (i + 1), .int n, .int (u + 1)]) → H2 c = some (.lst (ns.map V.int)) → (∀ b, b ≠ D → H2 b = H b) →
        t_l_draw_in K { nx := t_l_draw_rest K { nx := fun _ H' => Q .non H', rt := Q }, rt := Q } [some (.ref D), some (.int m), some (.ref c), z3, z4] H2 := by
      intro H2 hD2 hc2 fr2
      refine ⟨_, rfl, _, rfl, ixL hD2 rfl ⟨_, _, rfl, rfl, ixL hc2 (by rw [ei]; exact hz) ⟨_, _, rfl, rfl, ⟨by decide, by decide, by decide⟩, _, _, rfl, rfl, _, rfl, ite2 (fun e3 => ?_) (fun e3 => ?_)⟩⟩⟩
      · refine ⟨_, rfl, _, rfl, ixL hD2 rfl ⟨_, _, rfl, rfl, ixL hc2 (by rw [ei]; exact hz) ⟨_, rfl, ixL hD2 rfl ⟨z, u + 1, rfl, by omega, by omega, fun v => ?_⟩⟩⟩⟩
        refine ⟨_, rfl, _, _, rfl, rfl, m0, k _ _ (Int.emod_nonneg v (by omega)) (Int.emod_lt_of_pos v m0) ⟨ncD, hc2, hl, i + 1, n, u + 1, hD2, by omega, by omega, n0, by omega, by omega⟩ fr2⟩
      · have hz0 : ¬ z < 1000000000000000000 := fun q => e3 (decide_eq_true (by rw [pow18]; exact q))
        refine ⟨_, rfl, _, rfl, ixL hD2 rfl ⟨_, _, rfl, rfl, ixL hc2 (by rw [ei]; exact hz) ⟨_, rfl, D, _, _, 2, rfl, rfl, hD2, rfl, ?_⟩⟩⟩
        exact rest (i + 1) z _ _ _ (by omega) (by omega) (by omega) updS (updN ncD hc2) fun b nb => updN nb (fr2 b nb)
    refine ⟨_, rfl, ixL hD1 rfl ⟨_, _, rfl, rfl, _, rfl, D, _, _, 1, rfl, rfl, hD1, rfl, ?_⟩⟩
    exact inn _ updS (updN ncD hc1) fun b nb => updN nb (fr1 b nb)
  -- cells = deck[0]; deck[3] = deck[3] + 1
  refine ⟨_, rfl, ixL hD rfl ?_⟩
  refine ⟨_, rfl, ixL hD rfl ⟨_, _, rfl, rfl, _, rfl, D, _, _, 3, rfl, rfl, hD, rfl, ?_⟩⟩
  exact mid _ _ _ updS (updN ncD hc) fun b nb => upd_ne nb
/-! ### the same data, kind for kind -/
/-- two values of the same data, at most n deep -/
def SameV (H : Hp) : Nat → V → V → Prop
  | 0, _, _ => False
  | n + 1, x, y => (x = y ∧ (x = .non ∨ (∃ i, x = .int i) ∨ (∃ b, x = .bl b) ∨ ∃ z, x = .str z)) ∨
    ∃ p q xs ys, x = .ref p ∧ y = .ref q ∧ ((H p = some (.lst xs) ∧ H q = some (.lst ys)) ∨ (H p = some (.tup xs) ∧ H q = some (.tup ys))) ∧ xs.length = ys.length ∧ xs.length ≤ 100000 ∧
      ∀ (i : Nat) (a b : V), xs[i]? = some a → ys[i]? = some b → SameV H n a b
theorem SameV.int {H : Hp} {n : Nat} {i j : Int} (e : i = j) : SameV H (n + 1) (.int i) (.int j) := Or.inl ⟨by rw [e], .inr (.inl ⟨i, rfl⟩)⟩
theorem SameV.bl {H : Hp} {n : Nat} {i j : Bool} (e : i = j) : SameV H (n + 1) (.bl i) (.bl j) := Or.inl ⟨by rw [e], .inr (.inr (.inl ⟨i, rfl⟩))⟩
theorem SameV.tup {H : Hp} {n : Nat} {p q : Addr} {xs ys : List V} (h1 : H p = some (.tup xs)) (h2 : H q = some (.tup ys)) (hl : xs.length = ys.length) (hz : xs.length ≤ 100000) (h : ∀ (i : Nat) (a b : V), xs[i]? = some a → ys[i]? = some b → SameV H n a b) : SameV H (n + 1) (.ref p) (.ref q) :=
  Or.inr ⟨p, q, xs, ys, rfl, rfl, .inr ⟨h1, h2⟩, hl, hz, h⟩
theorem SameV.lst {H : Hp} {n : Nat} {p q : Addr} {xs ys : List V} (h1 : H p = some (.lst xs)) (h2 : H q = some (.lst ys)) (hl : xs.length = ys.length) (hz : xs.length ≤ 100000) (h : ∀ (i : Nat) (a b : V), xs[i]? = some a → ys[i]? = some b → SameV H n a b) : SameV H (n + 1) (.ref p) (.ref q) :=
  Or.inr ⟨p, q, xs, ys, rfl, rfl, .inl ⟨h1, h2⟩, hl, hz, h⟩
theorem SameV.ints {H : Hp} {n : Nat} {ns : List Int} : ∀ (i : Nat) (a b : V), (ns.map V.int)[i]? = some a → (ns.map V.int)[i]? = some b → SameV H (n + 1) a b := fun i a b h1 h2 => by
  have e : a = b := Option.some.inj (h1.symm.trans h2)
  rw [List.getElem?_map] at h1
  cases q : ns[i]? with
  | none => rw [q] at h1; cases h1
  | some z => rw [q] at h1; exact Or.inl ⟨e, .inr (.inl ⟨z, (Option.some.inj h1).symm⟩)⟩
def sp_sameN (_ : PySem.W.Frag) (n : Nat) : Sp := fun vs H Q _ => ∃ x y, vs = [x, y] ∧ SameV H n x y ∧ Q (.bl true) H
abbrev sp_l_same (K : PySem.W.Frag) : Sp := sp_sameN K 6
abbrev N_l_same : List Str := ["_law_found", "_law_due", "_law_k"]
def t_l_same_loop (K : PySem.W.Frag) (n : Nat) : TS := (tSeq (tIfS (tTest (tOp rNe (tCB (fLen K) (tCons (tVar 0) tNil)) (tCB (fLen K) (tCons (tVar 1) tNil)))) (tRet (tC (.bl false))) tNext)
    (tSeq (tFor (iRng1 (tCons (tCB (fLen K) (tCons (tVar 1) tNil)) tNil)) (gName 2) (tIfS (tNot (tB (tCall (sp_sameN K n) [] E0 (tCons (tOp (rIx K) (tVar 0) (tVar 2)) (tCons (tOp (rIx K) (tVar 1) (tVar 2)) tNil))))) (tRet (tC (.bl false))) tNext))
    (tRet (tC (.bl true)))))
def t_l_same_tail (K : PySem.W.Frag) (n : Nat) : TS := (tSeq (tIfS (tB (tCB (rIsi K) (tCons (tVar 1) (tCons (tC (.ty "bool")) tNil)))) (tRet (tAndV (tCB (rIsi K) (tCons (tVar 0) (tCons (tC (.ty "bool")) tNil))) (tOp rEq (tVar 0) (tVar 1)))) tNext)
    (tSeq (tIfS (tB (tCB (rIsi K) (tCons (tVar 1) (tCons (tC (.ty "int")) tNil)))) (tRet (tAndV (tCall (sp_l_int K) [] E0 (tCons (tVar 0) tNil)) (tOp rEq (tVar 0) (tVar 1)))) tNext)
    (tSeq (tIfS (tB (tCB (rIsi K) (tCons (tVar 1) (tCons (tC (.ty "str")) tNil)))) (tRet (tAndV (tCB (rIsi K) (tCons (tVar 0) (tCons (tC (.ty "str")) tNil))) (tOp rEq (tVar 0) (tVar 1)))) tNext)
    (tRet (tAndV (tOp fIsN (tVar 1) (tC .non)) (tOp fIsN (tVar 0) (tC .non)))))))
def t_l_same (K : PySem.W.Frag) (n : Nat) : TS := (tSeq (tIfS (tOr (tB (tCB (rIsi K) (tCons (tVar 1) (tCons (tC (.ty "tuple")) tNil)))) (tB (tCB (rIsi K) (tCons (tVar 1) (tCons (tC (.ty "list")) tNil))))) (tSeq (tIfS (tOr (tTest (tOp rNe (tCB (rIsi K) (tCons (tVar 1) (tCons (tC (.ty "tuple")) tNil))) (tCB (rIsi K) (tCons (tVar 0) (tCons (tC (.ty "tuple")) tNil))))) (tTest (tOp rNe (tCB (rIsi K) (tCons (tVar 1) (tCons (tC (.ty "list")) tNil))) (tCB (rIsi K) (tCons (tVar 0) (tCons (tC (.ty "list")) tNil)))))) (tRet (tC (.bl false))) tNext)
    (t_l_same_loop K n)) tNext)
    (t_l_same_tail K n))
section
variable {K : PySem.W.Frag} {H : Hp} {x : V} {Q : VK} {σ : L2.St} {c t : String} {b : Bool}
theorem isi (ty : TyX K H x (.type t)) (k : kitB t c = some b) (q : Q (.bl b) H) : tCons (tC (.ty c)) tNil σ H fun ys H2 => rIsi K (x :: ys) H2 Q := ⟨_, _, _, _, b, rfl, .ty _, ty, kit_ty k, q⟩
end
theorem k_it : kitB "int" "tuple" = some false := by decide +kernel
theorem k_il : kitB "int" "list" = some false := by decide +kernel
theorem k_ib : kitB "int" "bool" = some false := by decide +kernel
theorem k_ii : kitB "int" "int" = some true := by decide +kernel
theorem k_bt : kitB "bool" "tuple" = some false := by decide +kernel
theorem k_bl : kitB "bool" "list" = some false := by decide +kernel
theorem k_bb : kitB "bool" "bool" = some true := by decide +kernel
theorem k_bi : kitB "bool" "int" = some true := by decide +kernel
theorem k_st : kitB "str" "tuple" = some false := by decide +kernel
theorem k_sl : kitB "str" "list" = some false := by decide +kernel
theorem k_sb : kitB "str" "bool" = some false := by decide +kernel
theorem k_si : kitB "str" "int" = some false := by decide +kernel
theorem k_ss : kitB "str" "str" = some true := by decide +kernel
theorem k_nt : kitB "NoneType" "tuple" = some false := by decide +kernel
theorem k_nl : kitB "NoneType" "list" = some false := by decide +kernel
theorem k_nb : kitB "NoneType" "bool" = some false := by decide +kernel
theorem k_ni : kitB "NoneType" "int" = some false := by decide +kernel
theorem k_ns : kitB "NoneType" "str" = some false := by decide +kernel
theorem k_tt : kitB "tuple" "tuple" = some true := by decide +kernel
theorem k_tl : kitB "tuple" "list" = some false := by decide +kernel
theorem k_ti : kitB "tuple" "int" = some false := by decide +kernel
theorem k_tb : kitB "tuple" "bool" = some false := by decide +kernel
theorem k_lt : kitB "list" "tuple" = some false := by decide +kernel
theorem k_ll : kitB "list" "list" = some true := by decide +kernel
theorem k_li : kitB "list" "int" = some false := by decide +kernel
theorem k_lb : kitB "list" "bool" = some false := by decide +kernel
theorem len_le {n : Nat} (h : n ≤ 100000) : -(2 ^ 62 : Int) ≤ (n : Int) ∧ (n : Int) < 2 ^ 62 := by
  have e : (2 : Int) ^ 62 = 4611686018427387904 := by decide
  rw [e]
  omega
theorem pure_l_same {K : PySem.W.Frag} {n : Nat} {vs : List V} {H : Hp} {Q : VK} {E : XK} (h : sp_sameN K (n + 1) vs H Q E) : t_l_same K n { nx := fun _ H' => Q .non H', rt := Q } (start N_l_same vs) H := by
  obtain ⟨x, y, rfl, h, k⟩ := h
  rcases h with ⟨rfl, h⟩ | ⟨p, q, xs, ys, rfl, rfl, h, hl, hz, hs⟩
  · rcases h with rfl | ⟨i, rfl⟩ | ⟨b, rfl⟩ | ⟨z, rfl⟩
    · refine ⟨_, rfl, isi (.base .non) k_nt ⟨_, rfl, iteF ⟨_, rfl, isi (.base .non) k_nl ⟨_, rfl, iteF ?_⟩⟩⟩⟩
      refine ⟨_, rfl, isi (.base .non) k_nb ⟨_, rfl, iteF ?_⟩⟩
      refine ⟨_, rfl, isi (.base .non) k_ni ⟨_, rfl, iteF ?_⟩⟩
      refine ⟨_, rfl, isi (.base .non) k_ns ⟨_, rfl, iteF ?_⟩⟩
      exact ⟨_, rfl, rfl, _, rfl, iteT ⟨_, rfl, rfl, k⟩⟩
    · refine ⟨_, rfl, isi (.base (.int i)) k_it ⟨_, rfl, iteF ⟨_, rfl, isi (.base (.int i)) k_il ⟨_, rfl, iteF ?_⟩⟩⟩⟩
      refine ⟨_, rfl, isi (.base (.int i)) k_ib ⟨_, rfl, iteF ?_⟩⟩
      refine ⟨_, rfl, isi (.base (.int i)) k_ii ⟨_, rfl, iteT ?_⟩⟩
      refine ⟨_, rfl, i, rfl, _, rfl, iteT ⟨_, rfl, _, rfl, rfl, ?_⟩⟩
      rw [decide_eq_true rfl]
      exact k
    · refine ⟨_, rfl, isi (.base (.bl b)) k_bt ⟨_, rfl, iteF ⟨_, rfl, isi (.base (.bl b)) k_bl ⟨_, rfl, iteF ?_⟩⟩⟩⟩
      refine ⟨_, rfl, isi (.base (.bl b)) k_bb ⟨_, rfl, iteT ?_⟩⟩
      refine ⟨_, rfl, isi (.base (.bl b)) k_bb ⟨_, rfl, iteT ⟨_, rfl, _, rfl, rfl, ?_⟩⟩⟩
      rw [decide_eq_true rfl]
      exact k
    · refine ⟨_, rfl, isi (.base (.str z)) k_st ⟨_, rfl, iteF ⟨_, rfl, isi (.base (.str z)) k_sl ⟨_, rfl, iteF ?_⟩⟩⟩⟩
      refine ⟨_, rfl, isi (.base (.str z)) k_sb ⟨_, rfl, iteF ?_⟩⟩
      refine ⟨_, rfl, isi (.base (.str z)) k_si ⟨_, rfl, iteF ?_⟩⟩
      refine ⟨_, rfl, isi (.base (.str z)) k_ss ⟨_, rfl, iteT ?_⟩⟩
      refine ⟨_, rfl, isi (.base (.str z)) k_ss ⟨_, rfl, iteT ⟨_, rfl, _, rfl, rfl, ?_⟩⟩⟩
      rw [decide_eq_true rfl]
      exact k
  · -- the loop over both
    have loop : (∃ o, (H p = some o ∧ (o = .lst xs ∨ o = .tup xs))) → (∃ o, (H q = some o ∧ (o = .lst ys ∨ o = .tup ys))) → ∀ z2 : Option V,
        t_l_same_loop K n { nx := t_l_same_tail K n { nx := fun _ H' => Q .non H', rt := Q }, rt := Q } [some (.ref p), some (.ref q), z2] H := by
      intro hp hq z2
      have hlen : ∀ {r : Addr} {zs : List V} {R : VK} {σ : L2.St}, (∃ o, (H r = some o ∧ (o = .lst zs ∨ o = .tup zs))) → R (.int zs.length) H → tNil σ H fun ws H2 => fLen K (.ref r :: ws) H2 R := by
        rintro r zs R σ ⟨o, h1, rfl | rfl⟩ h2
        · exact lenL h1 h2
        · exact lenT h1 h2
      have hix : ∀ {r : Addr} {zs : List V} {R : VK} {i : Int} {v : V}, (∃ o, (H r = some o ∧ (o = .lst zs ∨ o = .tup zs))) → atI zs i = some v → R v H → rIx K (.ref r) (.int i) H R := by
        rintro r zs R i v ⟨o, h1, rfl | rfl⟩ h2 h3
        · exact ixL h1 h2 h3
        · exact ixT h1 h2 h3
      refine ⟨_, rfl, hlen hp ⟨_, rfl, hlen hq ⟨rfl, _, rfl, ?_⟩⟩⟩
      rw [decide_eq_true (show V.int (xs.length : Int) = V.int (ys.length : Int) by rw [hl])]
      refine iteF ?_
      refine ⟨_, rfl, hlen hq ⟨_, rfl, (len_le (by omega)).1, (len_le (by omega)).2, for_range (lo := 0) (n := ((ys.length : Int)).toNat) (fun i σ H' => H' = H ∧ ∃ z, σ = [some (.ref p), some (.ref q), z]) ⟨rfl, _, rfl⟩ ?_ ?_⟩⟩
      · rintro i σ H' hi ⟨rfl, z, rfl⟩
        have hi1 : i < ys.length := by omega
        have hi2 : i < xs.length := by omega
        have e1 : atI xs (0 + (i : Int)) = some xs[i] := by rw [Int.zero_add]; exact atI_nat (List.getElem?_eq_getElem hi2)
        have e2 : atI ys (0 + (i : Int)) = some ys[i] := by rw [Int.zero_add]; exact atI_nat (List.getElem?_eq_getElem hi1)
        refine ⟨_, rfl, _, rfl, hix hp e1 ⟨_, rfl, _, rfl, hix hq e2 ⟨_, _, rfl, hs i _ _ (List.getElem?_eq_getElem hi2) (List.getElem?_eq_getElem hi1), _, rfl, iteF ?_⟩⟩⟩
        exact ⟨rfl, _, rfl⟩
      · rintro σ H' ⟨rfl, z, rfl⟩
        exact k
    rcases h with ⟨h1, h2⟩ | ⟨h1, h2⟩
    · have t1 : TyX K H (.ref p) (.type "list") := .base (.lst h1)
      have t2 : TyX K H (.ref q) (.type "list") := .base (.lst h2)
      refine ⟨_, rfl, isi t2 k_lt ⟨_, rfl, iteF ⟨_, rfl, isi t2 k_ll ⟨_, rfl, iteT ?_⟩⟩⟩⟩
      refine ⟨_, rfl, isi t2 k_lt ⟨_, rfl, isi t1 k_lt ⟨rfl, _, rfl, iteF ⟨_, rfl, isi t2 k_ll ⟨_, rfl, isi t1 k_ll ⟨rfl, _, rfl, iteF ?_⟩⟩⟩⟩⟩⟩
      exact loop ⟨_, h1, .inl rfl⟩ ⟨_, h2, .inl rfl⟩ _
    · have t1 : TyX K H (.ref p) (.type "tuple") := .base (.tup h1)
      have t2 : TyX K H (.ref q) (.type "tuple") := .base (.tup h2)
      refine ⟨_, rfl, isi t2 k_tt ⟨_, rfl, iteT ?_⟩⟩
      refine ⟨_, rfl, isi t2 k_tt ⟨_, rfl, isi t1 k_tt ⟨rfl, _, rfl, iteF ⟨_, rfl, isi t2 k_tl ⟨_, rfl, isi t1 k_tl ⟨rfl, _, rfl, iteF ?_⟩⟩⟩⟩⟩⟩
      exact loop ⟨_, h1, .inr rfl⟩ ⟨_, h2, .inr rfl⟩ _
def sp_law (K : PySem.W.Frag) : Sp := fun vs H Q _ => ∃ (a : Addr) (ns : List Int), vs = [.ref a] ∧ SqL K H a (ns.map V.int) ∧ ns.length ≤ 63 ∧ ∀ H', Q (.bl true) H'
section
variable {K : PySem.W.Frag} {vs : List V} {H : Hp} {Q : VK} {E : XK}
theorem len_law (h : sp_law K vs H Q E) : vs.length = 1 := by
  obtain ⟨_, _, rfl, _⟩ := h
  rfl
theorem len_l_deck (h : sp_l_deck K vs H Q E) : vs.length = 1 := by
  obtain ⟨_, _, rfl, _⟩ := h
  rfl
theorem len_l_mixed (h : sp_l_mixed K vs H Q E) : vs.length = 2 := by
  obtain ⟨_, _, rfl, _⟩ := h
  rfl
theorem len_l_draw (h : sp_l_draw K vs H Q E) : vs.length = 2 := by
  obtain ⟨_, _, _, _, _, rfl, _⟩ := h
  rfl
theorem len_l_int (h : sp_l_int K vs H Q E) : vs.length = 1 := by
  obtain ⟨_, rfl, _⟩ := h
  rfl
theorem len_sameN {n : Nat} (h : sp_sameN K n vs H Q E) : vs.length = 2 := by
  obtain ⟨_, _, rfl, _⟩ := h
  rfl
end
/-! ### comprehensions whose elements change nothing -/
section
variable {K : PySem.W.Frag} {a : Addr} {xs ys : List V} {g : TG} {tt : TT} {te : TE} {vs : List Nat} {σ : L2.St} {H1 : Hp} {D : Addr} {Qd : Hp → Prop}
/-- [e for x in xs], xs a tuple, ys the values in order -/
theorem lc_mapT (hq : ∀ acc, SqT K (upd H1 D (.lst acc)) a xs) (hl : ys.length = xs.length) (hz : xs.length ≤ 100000)
    (hs : ∀ (i : Nat) (x y : V) (acc : List V) (R : VK), xs[i]? = some x → ys[i]? = some y → R y (upd H1 D (.lst acc)) → g x (wipe σ vs) (upd H1 D (.lst acc)) fun σ2 H2 => wipe σ2 vs = wipe σ vs ∧ tt σ2 H2 fun b H3 => if b = true then te σ2 H3 R else False)
    (hd : Qd (upd H1 D (.lst ys))) (mt : ∀ σ H P P', (∀ b H1, P b H1 → P' b H1) → tt σ H P → tt σ H P') (mg : ∀ v σ H P P', (∀ σ1 H1, P σ1 H1 → P' σ1 H1) → g v σ H P → g v σ H P') :
    ∃ W : Nat → Nat → Hp → Prop, (∃ m, W 0 m (upd H1 D (.lst []))) ∧ ∀ i m H, W i m H →
      ((Itt K a).stop i H ∧ Qd H) ∨ ((Itt K a).go i H ∧ ∃ Nx : Hp → Prop, (∀ H', Nx H' → ∃ m', m' < m ∧ W (i + 1) m' H') ∧ ∀ x H', (Itt K a).yld i H x H' → g x (wipe σ vs) H' fun σ2 H2 => wipe σ2 vs = wipe σ vs ∧ tt σ2 H2 fun b H3 =>
        if b = true then te σ2 H3 fun y H4 => ∃ acc, H4 D = some (.lst acc) ∧ acc.length < sizeLine ∧ Nx (upd H4 D (.lst (acc ++ [y]))) else Nx H3) := by
  refine lc_tup (K := K) (a := a) (xs := xs) (fun i H => H = upd H1 D (.lst (ys.take i))) (by rw [List.take_zero]) (fun i H _ e => by rw [e]; exact hq _) (fun i x H hx e => ?_) (fun H e => by
    rw [e, List.take_of_length_le (by omega)]
    exact hd)
  subst e
  have hi : i < ys.length := by
    have := (List.getElem?_eq_some_iff.mp hx).1
    omega
  refine mg _ _ _ _ _ (fun σ1 H2 q => ⟨q.1, mt _ _ _ _ (fun b H3 q2 => ?_) q.2⟩) (hs i x ys[i] (ys.take i) (fun y H4 => ∃ acc, H4 D = some (.lst acc) ∧ acc.length < sizeLine ∧ upd H4 D (.lst (acc ++ [y])) = upd H1 D (.lst (ys.take (i + 1)))) hx (List.getElem?_eq_getElem hi) ⟨ys.take i, upd_same, Nat.lt_of_le_of_lt (by rw [List.length_take]; omega : (ys.take i).length ≤ 100000) (by decide), by rw [upd_upd, List.take_add_one, List.getElem?_eq_getElem hi]; rfl⟩)
  cases b with
  | true => exact q2
  | false => exact q2.elim
theorem lc_mapL (hq : ∀ acc, SqL K (upd H1 D (.lst acc)) a xs) (hl : ys.length = xs.length) (hz : xs.length ≤ 100000)
    (hs : ∀ (i : Nat) (x y : V) (acc : List V) (R : VK), xs[i]? = some x → ys[i]? = some y → R y (upd H1 D (.lst acc)) → g x (wipe σ vs) (upd H1 D (.lst acc)) fun σ2 H2 => wipe σ2 vs = wipe σ vs ∧ tt σ2 H2 fun b H3 => if b = true then te σ2 H3 R else False)
    (hd : Qd (upd H1 D (.lst ys))) (mt : ∀ σ H P P', (∀ b H1, P b H1 → P' b H1) → tt σ H P → tt σ H P') (mg : ∀ v σ H P P', (∀ σ1 H1, P σ1 H1 → P' σ1 H1) → g v σ H P → g v σ H P') :
    ∃ W : Nat → Nat → Hp → Prop, (∃ m, W 0 m (upd H1 D (.lst []))) ∧ ∀ i m H, W i m H →
      ((Itl K a).stop i H ∧ Qd H) ∨ ((Itl K a).go i H ∧ ∃ Nx : Hp → Prop, (∀ H', Nx H' → ∃ m', m' < m ∧ W (i + 1) m' H') ∧ ∀ x H', (Itl K a).yld i H x H' → g x (wipe σ vs) H' fun σ2 H2 => wipe σ2 vs = wipe σ vs ∧ tt σ2 H2 fun b H3 =>
        if b = true then te σ2 H3 fun y H4 => ∃ acc, H4 D = some (.lst acc) ∧ acc.length < sizeLine ∧ Nx (upd H4 D (.lst (acc ++ [y]))) else Nx H3) := by
  refine lc_list (K := K) (a := a) (xs := xs) (fun i H => H = upd H1 D (.lst (ys.take i))) (by rw [List.take_zero]) (fun i H _ e => by rw [e]; exact hq _) (fun i x H hx e => ?_) (fun H e => by
    rw [e, List.take_of_length_le (by omega)]
    exact hd)
  subst e
  have hi : i < ys.length := by
    have := (List.getElem?_eq_some_iff.mp hx).1
    omega
  refine mg _ _ _ _ _ (fun σ1 H2 q => ⟨q.1, mt _ _ _ _ (fun b H3 q2 => ?_) q.2⟩) (hs i x ys[i] (ys.take i) (fun y H4 => ∃ acc, H4 D = some (.lst acc) ∧ acc.length < sizeLine ∧ upd H4 D (.lst (acc ++ [y])) = upd H1 D (.lst (ys.take (i + 1)))) hx (List.getElem?_eq_getElem hi) ⟨ys.take i, upd_same, Nat.lt_of_le_of_lt (by rw [List.length_take]; omega : (ys.take i).length ≤ 100000) (by decide), by rw [upd_upd, List.take_add_one, List.getElem?_eq_getElem hi]; rfl⟩)
  cases b with
  | true => exact q2
  | false => exact q2.elim
theorem mono_yes : ∀ (σ : L2.St) (H : Hp) (P P' : Bool → Hp → Prop), (∀ b H1, P b H1 → P' b H1) → tYes σ H P → tYes σ H P' := fun _ _ _ _ f h => f _ _ h
theorem mono_gName {k : Nat} : ∀ (v : V) (σ : L2.St) (H : Hp) (P P' : L2.St → Hp → Prop), (∀ σ1 H1, P σ1 H1 → P' σ1 H1) → gName k v σ H P → gName k v σ H P' := fun _ _ _ _ _ f h => f _ _ h
end
end Fw

set_option Elab.async false
set_option linter.all false
set_option maxRecDepth 100000
set_option maxHeartbeats 4000000
namespace Fw
open PySem PySem.Spec PyProof.Rows L2
section
variable {X : Cx}
/-- a dict comprehension that is given to a name of its own, on one row -/
theorem sw_dict {kx vx : Expr} {gens : List Comprehension} {sc : Scope} {dpos npos : Pos} {nm : Str} {ln : Nat} {en : Env} (h1 : en.scope.kind = .function) (h2 : en.scope.names.lookup nm = some .local) (h3 : (npos.line == dpos.line) = true)
    (h4 : (sc.names.any fun (z, k) => z == nm && (k == .local || k == .cell)) = false) : swapsWith (.DictComp kx vx gens sc dpos) (some (.Name nm npos)) ln en = pure true := by
  have e1 : en.kindOf nm = some .local := h2
  have e2 : en.blockKind = .function := by
    unfold Env.blockKind
    rw [h1]
    rfl
  unfold swapsWith
  simp only [e2, e1, h4, Expr.pos, h3]
  rfl
theorem ps_setDc {i : Nat} {nm : Str} {npos : Pos} {kx vx tgt it : Expr} {tests : List Expr} {sc : Scope} {own : List (Str × Nat)} {dpos apos : Pos} {wi : TI} {g : TG} {tt : TT} {tk tv : TE} (calm : X.calm = true) (nd : X.N.Nodup) (at_ : X.N[i]? = some nm) (loc : X.env.scope.names.lookup nm = some .local)
    (sw : swapsWith (.DictComp kx vx [⟨tgt, it, tests, 0⟩] sc dpos) (some (.Name nm npos)) apos.line X.env = pure true) (walk : PI X tgt it wi) (blk : BlkOk X.N X.env.scope sc own)
    (pg : ∀ (z : Shared) (Hz : Hp) (cz : Addr) (clz : List (Str × Addr)) (fz : List Addr), PG (X.blk z Hz sc (compEnvC sc clz cz X.env) fz) tgt g)
    (pt : ∀ (z : Shared) (Hz : Hp) (cz : Addr) (clz : List (Str × Addr)) (fz : List Addr), PTs (X.blk z Hz sc (compEnvC sc clz cz X.env) fz) tests tt)
    (pk : ∀ (z : Shared) (Hz : Hp) (cz : Addr) (clz : List (Str × Addr)) (fz : List Addr), PE (X.blk z Hz sc (compEnvC sc clz cz X.env) fz) kx tk)
    (pv : ∀ (z : Shared) (Hz : Hp) (cz : Addr) (clz : List (Str × Addr)) (fz : List Addr), PE (X.blk z Hz sc (compEnvC sc clz cz X.env) fz) vx tv)
    (fold : ∀ z, foldedSetIterable it X.env z = pure z := by intro _; rfl) :
    PS X (.Assign [.Name nm npos] (.DictComp kx vx [⟨tgt, it, tests, 0⟩] sc dpos) apos) (tAsg (tDc wi g tt tk tv (own.map (·.2))) (gName i)) := by
  refine ⟨fun pins s σ H D inv rd => ?_⟩
  rw [exec_Assign_Name_used _ _ _ _ sw]
  refine wpAny_bind (wpAny_standAt ?_)
  refine wpAny_bind ?_
  show wpAny _ X.A (do let _ ← comprehension (.DictComp kx vx [⟨tgt, it, tests, 0⟩] sc dpos) sc X.env (firstIterPos [⟨tgt, it, tests, 0⟩] dpos) newDict false (eval it X.env) (some (assign (.Name nm npos) X.env))) _ _ s
  have rd2 : tDc wi g tt tk tv (own.map (·.2)) σ H (fun x Hx => gName i x σ Hx D.nx) := rd
  refine wpAny_bind (thn (dc_core (Qf := fun _ s1 => SP X pins D .next s1) calm nd inv walk blk pg pt pk pv fold rd2 fun F C s1 m H1 inv1 q ns fp => ?_) fun _ s1 z => wpAny_pure (wpAny_pure z))
  show wpAny _ _ (assign (.Name nm npos) X.env (.ref F)) _ _ _
  obtain ⟨p0, p1, _, p3, p4, p5⟩ := fp
  refine wpAny_assign_Name (store_ok2 (v := V.ref F) inv1 nd at_ (.inl loc) rfl (fun s2 inv2 ⟨b, same, hb⟩ => ?_) (.inr loc))
  have ne : C ≠ b := hb.elim (fun z => by rw [z]; exact p1) fun z e => p4 nm b z e.symm
  refine ⟨m, ns.sameBut same ne, fun h3 same3 => ⟨_, H1, ?_, q⟩⟩
  exact inv2.turned (t' := s2.toks) (fun x o nx e => (same3.2 x nx).trans e) p0 p1 p3 p4 p5
end
end Fw

set_option Elab.async false
set_option linter.all false
set_option maxRecDepth 100000
set_option maxHeartbeats 4000000
namespace Fw
open PySem L2 RZ RT
/-! ### data -/
inductive Dt where
  | non | bl (b : Bool) | int (i : Int) | str (z : Str) | tup (xs : List Dt) | lst (xs : List Dt) | dct
/-- the value x is the data d, as H stands -/
inductive At (H : Hp) : V → Dt → Prop where
  | non : At H .non .non
  | bl (b : Bool) : At H (.bl b) (.bl b)
  | int (i : Int) : At H (.int i) (.int i)
  | str (z : Str) : At H (.str z) (.str z)
  | tup {p : Addr} {xs : List V} {ds : List Dt} (h : H p = some (.tup xs)) (hz : xs.length ≤ 100000) (hl : xs.length = ds.length) (ha : ∀ (i : Nat) (x : V) (d : Dt), xs[i]? = some x → ds[i]? = some d → At H x d) : At H (.ref p) (.tup ds)
  | lst {p : Addr} {xs : List V} {ds : List Dt} (h : H p = some (.lst xs)) (hz : xs.length ≤ 100000) (hl : xs.length = ds.length) (ha : ∀ (i : Nat) (x : V) (d : Dt), xs[i]? = some x → ds[i]? = some d → At H x d) : At H (.ref p) (.lst ds)
  | dct {p : Addr} {kvs : List (Key × V)} (h : H p = some (.dK kvs)) : At H (.ref p) .dct
theorem At.mono {H H' : Hp} (s : Same H H') {x : V} {d : Dt} (a : At H x d) : At H' x d := by
  induction a with
  | non => exact .non
  | bl b => exact .bl b
  | int i => exact .int i
  | str z => exact .str z
  | tup h hz hl _ ih => exact .tup (s _ _ h) hz hl ih
  | lst h hz hl _ ih => exact .lst (s _ _ h) hz hl ih
  | dct h => exact .dct (s _ _ h)
def Dt.ty : Dt → String
  | .non => "NoneType"
  | .bl _ => "bool"
  | .int _ => "int"
  | .str _ => "str"
  | .tup _ => "tuple"
  | .lst _ => "list"
  | .dct => "dict"
theorem At.tyX {K : PySem.W.Frag} {H : Hp} {x : V} {d : Dt} (a : At H x d) : TyX K H x (.type d.ty) := by
  cases a with
  | non => exact .base .non
  | bl b => exact .base (.bl b)
  | int i => exact .base (.int i)
  | str z => exact .base (.str z)
  | tup h => exact .base (.tup h)
  | lst h => exact .base (.lst h)
  | dct h => exact .base (.dK h)
def isIntD : Dt → Bool
  | .int _ => true
  | _ => false
def isTupD : Dt → Bool
  | .tup _ => true
  | _ => false
def isPairD : Dt → Bool
  | .tup ds => decide (ds.length = 2)
  | _ => false
theorem k_dt : kitB "dict" "tuple" = some false := by decide +kernel
theorem k_di : kitB "dict" "int" = some false := by decide +kernel
theorem k_db : kitB "dict" "bool" = some false := by decide +kernel
theorem kit_tup (d : Dt) : kitB d.ty "tuple" = some (isTupD d) := by
  cases d with
  | non => exact k_nt
  | bl b => exact k_bt
  | int i => exact k_it
  | str z => exact k_st
  | tup xs => exact k_tt
  | lst xs => exact k_lt
  | dct => exact k_dt
/-- isinstance(x, tuple) of data -/
theorem isiTup {K : PySem.W.Frag} {H : Hp} {x : V} {d : Dt} {Q : VK} {σ : L2.St} (a : At H x d) (q : Q (.bl (isTupD d)) H) : tCons (tC (.ty "tuple")) tNil σ H fun ys H2 => rIsi K (x :: ys) H2 Q := isi a.tyX (kit_tup d) q
/-! ### inversions -/
theorem At.int_inv {H : Hp} {x : V} {i : Int} (a : At H x (.int i)) : x = .int i := by
  cases a
  rfl
theorem At.tup_inv {H : Hp} {x : V} {ds : List Dt} (a : At H x (.tup ds)) : ∃ (p : Addr) (xs : List V), x = .ref p ∧ H p = some (.tup xs) ∧ xs.length = ds.length ∧ xs.length ≤ 100000 ∧ ∀ (i : Nat) (x : V) (d : Dt), xs[i]? = some x → ds[i]? = some d → At H x d := by
  cases a with
  | tup h hz hl ha => exact ⟨_, _, rfl, h, hl, hz, ha⟩
theorem At.pair_inv {H : Hp} {x : V} {d e : Dt} (a : At H x (.tup [d, e])) : ∃ (p : Addr) (y z : V), x = .ref p ∧ H p = some (.tup [y, z]) ∧ At H y d ∧ At H z e := by
  obtain ⟨p, xs, rfl, h, hl, _, ha⟩ := a.tup_inv
  match xs, hl with
  | [y, z], _ => exact ⟨p, y, z, rfl, h, ha 0 _ _ rfl rfl, ha 1 _ _ rfl rfl⟩
theorem At.ints {H : Hp} {xs : List V} : ∀ {ns : List Int}, xs.length = ns.length → (∀ (i : Nat) (x : V) (d : Dt), xs[i]? = some x → (ns.map Dt.int)[i]? = some d → At H x d) → xs = ns.map V.int := by
  induction xs with
  | nil =>
    intro ns hl _
    cases ns with
    | nil => rfl
    | cons n r => cases hl
  | cons x r ih =>
    intro ns hl h
    cases ns with
    | nil => cases hl
    | cons n m =>
      rw [List.map_cons, (h 0 x (.int n) rfl rfl).int_inv, ih (ns := m) (Nat.succ.inj hl) fun i y d h1 h2 => h (i + 1) y d h1 h2]
/-- a tuple of ints -/
theorem At.of_ints {H : Hp} {p : Addr} {ns : List Int} (h : H p = some (.tup (ns.map V.int))) (hz : ns.length ≤ 100000) : At H (.ref p) (.tup (ns.map Dt.int)) := by
  refine .tup h (by rw [List.length_map]; exact hz) (by simp) fun i x d h1 h2 => ?_
  rw [List.getElem?_map] at h1 h2
  cases e : ns[i]? with
  | none => rw [e] at h1; cases h1
  | some n =>
    rw [e] at h1 h2
    cases Option.some.inj h1
    cases Option.some.inj h2
    exact .int n
theorem At.to_ints {H : Hp} {x : V} {ns : List Int} (a : At H x (.tup (ns.map Dt.int))) : ∃ p, x = .ref p ∧ H p = some (.tup (ns.map V.int)) ∧ ns.length ≤ 100000 := by
  obtain ⟨p, xs, rfl, h, hl, hz, ha⟩ := a.tup_inv
  rw [List.length_map] at hl
  have e := At.ints hl ha
  subst e
  exact ⟨p, rfl, h, by rw [List.length_map] at hz; exact hz⟩
/-! ### order -/
def adjL {α : Type} (r : α → α → Bool) (l : List α) : List Bool := List.zipWith r l (l.drop 1)
def adj {α : Type} (r : α → α → Bool) (l : List α) : Bool := (adjL r l).all id
theorem adjL_length {α : Type} (r : α → α → Bool) (l : List α) : (adjL r l).length = l.length - 1 := by
  unfold adjL
  rw [List.length_zipWith, List.length_drop]
  omega
theorem adjL_get {α : Type} {r : α → α → Bool} {l : List α} {i : Nat} {x y : α} {b : Bool} (hx : l[i]? = some x) (hy : l[i + 1]? = some y) (hb : (adjL r l)[i]? = some b) : b = r x y := by
  unfold adjL at hb
  rw [List.getElem?_zipWith, hx, List.getElem?_drop, Nat.add_comm 1 i, hy] at hb
  exact (Option.some.inj hb).symm
theorem adj_of {α : Type} {r : α → α → Bool} {l : List α} (h : ∀ (i : Nat) (x y : α), l[i]? = some x → l[i + 1]? = some y → r x y = true) : adj r l = true := by
  refine List.all_eq_true.mpr fun b hb => ?_
  obtain ⟨i, hi, e⟩ := List.getElem_of_mem hb
  have hl := adjL_length r l
  have h1 : i < l.length := by omega
  have h2 : i + 1 < l.length := by omega
  have := adjL_get (List.getElem?_eq_getElem h1) (List.getElem?_eq_getElem h2) (List.getElem?_eq_some_iff.mpr ⟨hi, e⟩)
  rw [this]
  exact h i _ _ (List.getElem?_eq_getElem h1) (List.getElem?_eq_getElem h2)
def ints1 : List Dt → List Int
  | .int i :: r => i :: ints1 r
  | _ :: r => ints1 r
  | [] => []
theorem ints1_map : ∀ ns : List Int, ints1 (ns.map Dt.int) = ns
  | [] => rfl
  | n :: r => by
    show n :: ints1 (r.map Dt.int) = n :: r
    rw [ints1_map r]
theorem allInt : ∀ {ds : List Dt}, ds.all isIntD = true → ds = (ints1 ds).map Dt.int
  | [], _ => rfl
  | .int i :: r, h => by
    have h2 : r.all isIntD = true := h
    show Dt.int i :: r = Dt.int i :: (ints1 r).map Dt.int
    rw [← allInt h2]
  | .non :: _, h => by cases h
  | .bl _ :: _, h => by cases h
  | .str _ :: _, h => by cases h
  | .tup _ :: _, h => by cases h
  | .lst _ :: _, h => by cases h
  | .dct :: _, h => by cases h
def ltD : Dt → Dt → Bool
  | .int i, .int j => decide (i < j)
  | .tup a, .tup b => HT.lexLt (ints1 a) (ints1 b)
  | _, _ => false
/-- what < of two values says -/
def Cmp (H : Hp) (x y : V) (b : Bool) : Prop := (∃ i j, x = .int i ∧ y = .int j ∧ b = decide (i < j)) ∨ (∃ p q ns ms, x = .ref p ∧ y = .ref q ∧ H p = some (.tup (ns.map V.int)) ∧ H q = some (.tup (ms.map V.int)) ∧ b = HT.lexLt ns ms)
theorem Cmp.mono {H H' : Hp} (s : Same H H') {x y : V} {b : Bool} (c : Cmp H x y b) : Cmp H' x y b := by
  rcases c with c | ⟨p, q, ns, ms, h1, h2, h3, h4, h5⟩
  · exact .inl c
  · exact .inr ⟨p, q, ns, ms, h1, h2, s _ _ h3, s _ _ h4, h5⟩
abbrev fLtA (K : PySem.W.Frag) : R2 := fun x y H Q => rLtI x y H Q ∨ rLtT K x y H Q
theorem Cmp.run {K : PySem.W.Frag} {H : Hp} {x y : V} {b : Bool} {Q : VK} (c : Cmp H x y b) (q : Q (.bl b) H) : fLtA K x y H Q := by
  rcases c with ⟨i, j, rfl, rfl, rfl⟩ | ⟨p, r, ns, ms, rfl, rfl, h3, h4, rfl⟩
  · exact .inl ⟨_, _, rfl, rfl, q⟩
  · exact .inr ⟨_, _, _, _, rfl, rfl, sqT h3, sqT h4, q⟩
/-! ### the comprehension over zip of two tuples -/
theorem lc_zipT {K : PySem.W.Frag} {a b : Addr} {xs ys : List V} {g : TG} {tt : TT} {te : TE} {vs : List Nat} {σ : L2.St} {H1 : Hp} {D : Addr} {Qd : Hp → Prop} (n : Nat) (hn : n = min xs.length ys.length) (Pv : Nat → Hp → Prop) (h0 : Pv 0 (upd H1 D (.lst [])))
    (hl : ∀ i H, Pv i H → SqT K H a xs ∧ SqT K H b ys)
    (hs : ∀ (i : Nat) (x y : V) (T : Addr) (H : Hp), xs[i]? = some x → ys[i]? = some y → Pv i H → H T = none → g (.ref T) (wipe σ vs) (upd H T (.tup [x, y])) fun σ2 H2 => wipe σ2 vs = wipe σ vs ∧ tt σ2 H2 fun b H3 =>
      if b = true then te σ2 H3 fun y H4 => ∃ acc, H4 D = some (.lst acc) ∧ acc.length < sizeLine ∧ Pv (i + 1) (upd H4 D (.lst (acc ++ [y]))) else Pv (i + 1) H3) (hd : ∀ H, Pv n H → Qd H) :
    ∃ W : Nat → Nat → Hp → Prop, (∃ m, W 0 m (upd H1 D (.lst []))) ∧ ∀ i m H, W i m H →
      ((ItzT K a b).stop i H ∧ Qd H) ∨ ((ItzT K a b).go i H ∧ ∃ Nx : Hp → Prop, (∀ H', Nx H' → ∃ m', m' < m ∧ W (i + 1) m' H') ∧ ∀ x H', (ItzT K a b).yld i H x H' → g x (wipe σ vs) H' fun σ2 H2 => wipe σ2 vs = wipe σ vs ∧ tt σ2 H2 fun b H3 =>
        if b = true then te σ2 H3 fun y H4 => ∃ acc, H4 D = some (.lst acc) ∧ acc.length < sizeLine ∧ Nx (upd H4 D (.lst (acc ++ [y]))) else Nx H3) := by
  refine ⟨fun i m H => m = n - i ∧ i ≤ n ∧ Pv i H, ⟨n, by simp, Nat.zero_le _, h0⟩, ?_⟩
  rintro i m H ⟨rfl, hi, p⟩
  obtain ⟨qa, qb⟩ := hl i H p
  by_cases hlt : i < n
  · have l1 : i < xs.length := by omega
    have l2 : i < ys.length := by omega
    refine .inr ⟨⟨xs, ys, xs[i], ys[i], qa, qb, List.getElem?_eq_getElem l1, List.getElem?_eq_getElem l2⟩, Pv (i + 1), fun H' p' => ⟨n - (i + 1), by omega, rfl, hlt, p'⟩, fun x H' y => ?_⟩
    obtain ⟨T, x1, x2, rfl, nT, rfl, f1, f2⟩ := y
    exact hs i x1 x2 T H (f1 _ qa) (f2 _ qb) p nT
  · have e : i = n := by omega
    subst e
    exact .inl ⟨⟨xs, ys, qa, qb, by omega⟩, hd H p⟩
/-! ### promises -/
def sp_is_int (_ : PySem.W.Frag) : Sp := fun vs H Q _ => ∃ (x : V) (d : Dt), vs = [x] ∧ At H x d ∧ Q (.bl (isIntD d)) H
def sp_is_pair (_ : PySem.W.Frag) : Sp := fun vs H Q _ => ∃ (x : V) (d : Dt), vs = [x] ∧ At H x d ∧ Q (.bl (isPairD d)) H
def sp_rises (_ : PySem.W.Frag) : Sp := fun vs H Q _ => ∃ (p : Addr) (xs : List V) (bs : List Bool), vs = [.ref p] ∧ H p = some (.tup xs) ∧ xs.length ≤ 100000 ∧ bs.length = xs.length - 1 ∧
  (∀ (i : Nat) (x y : V) (b : Bool), xs[i]? = some x → xs[i + 1]? = some y → bs[i]? = some b → Cmp H x y b) ∧ ∀ H', Same H H' → Q (.bl (bs.all id)) H'
abbrev N_is_int : List Str := ["thing"]
def t_is_int (K : PySem.W.Frag) : TS := (tRet (tAndV (tCB (rIsi K) (tCons (tVar 0) (tCons (tC (.ty "int")) tNil))) (tNotV (tCB (rIsi K) (tCons (tVar 0) (tCons (tC (.ty "bool")) tNil))))))
abbrev N_is_pair : List Str := ["thing"]
def t_is_pair (K : PySem.W.Frag) : TS := (tRet (tAndV (tCB (rIsi K) (tCons (tVar 0) (tCons (tC (.ty "tuple")) tNil))) (tOp rEq (tCB (fLen K) (tCons (tVar 0) tNil)) (tC (.int 2)))))
abbrev N_rises : List Str := ["things", "low", "high"]
def t_rises (K : PySem.W.Frag) : TS := (tRet (tCB (rAll K) (tCons (tLc (iZipA K (tCons (tVar 0) (tCons (tSl (rSlA K) (tVar 0) (tPart (tC (.int 1))) tNoPart) tNil))) (gTup K 2 (gCons (gName 1) (gCons (gName 2) gNil))) tYes (tOp (fLtA K) (tVar 1) (tVar 2)) [1, 2]) tNil)))
section
variable {K : PySem.W.Frag} {vs : List V} {H : Hp} {Q : VK} {E : XK}
theorem len_is_int (h : sp_is_int K vs H Q E) : vs.length = 1 := by
  obtain ⟨_, _, rfl, _⟩ := h
  rfl
theorem len_is_pair (h : sp_is_pair K vs H Q E) : vs.length = 1 := by
  obtain ⟨_, _, rfl, _⟩ := h
  rfl
theorem len_rises (h : sp_rises K vs H Q E) : vs.length = 1 := by
  obtain ⟨_, _, _, rfl, _⟩ := h
  rfl
theorem k_lI (d : Dt) : kitB d.ty "int" = some (match d with | .bl _ => true | .int _ => true | _ => false) := by
  cases d with
  | non => exact k_ni
  | bl b => exact k_bi
  | int i => exact k_ii
  | str z => exact k_si
  | tup xs => exact k_ti
  | lst xs => exact k_li
  | dct => exact k_di
theorem pure_is_int (h : sp_is_int K vs H Q E) : t_is_int K { nx := fun _ H' => Q .non H', rt := Q } (start N_is_int vs) H := by
  obtain ⟨x, d, rfl, a, k⟩ := h
  refine ⟨_, rfl, isi a.tyX (k_lI d) ⟨_, rfl, ?_⟩⟩
  cases d with
  | bl b => exact iteT ⟨_, rfl, isi a.tyX k_bb ⟨_, rfl, k⟩⟩
  | int i => exact iteT ⟨_, rfl, isi a.tyX k_ib ⟨_, rfl, k⟩⟩
  | _ => exact iteF k
theorem pure_is_pair (h : sp_is_pair K vs H Q E) : t_is_pair K { nx := fun _ H' => Q .non H', rt := Q } (start N_is_pair vs) H := by
  obtain ⟨x, d, rfl, a, k⟩ := h
  refine ⟨_, rfl, isiTup a ⟨_, rfl, ?_⟩⟩
  cases a with
  | @tup p xs ds hp hz hl ha =>
    refine iteT ⟨_, rfl, lenT hp ⟨rfl, ?_⟩⟩
    have e : decide (V.int (xs.length : Int) = V.int 2) = isPairD (.tup ds) := by
      show _ = decide (ds.length = 2)
      rw [← hl]
      by_cases h2 : xs.length = 2
      · rw [decide_eq_true h2, h2]
        rfl
      · rw [decide_eq_false h2]
        exact decide_eq_false fun z => h2 (by have := V.int.inj z; omega)
    rw [e]
    exact k
  | _ => exact iteF k
theorem cut1 (xs : List V) : cutV xs (some 1) none = xs.drop 1 := by
  unfold cutV
  rw [show HT.sIx xs.length 0 (some 1) = min 1 xs.length from HT.sIx_nat xs.length 0 1, HT.sIx_none]
  cases xs with
  | nil => rfl
  | cons x r =>
    rw [show min 1 (x :: r).length = 1 by
      rw [List.length_cons]
      omega]
    show (List.take ((x :: r).length - 1) r) = r
    rw [List.length_cons, Nat.add_sub_cancel]
    exact List.take_length
theorem pure_rises (h : sp_rises K vs H Q E) : t_rises K { nx := fun _ H' => Q .non H', rt := Q } (start N_rises vs) H := by
  obtain ⟨p, xs, bs, rfl, hp, hz, hb, hc, k⟩ := h
  -- zip(things, things[1:]), the second one at any place
  have main : ∀ (q : Addr) (H1 : Hp), Same H H1 → H1 q = some (.tup (xs.drop 1)) → ∀ D, H1 D = none → ∃ W : Nat → Nat → Hp → Prop, (∃ m, W 0 m (upd H1 D (.lst []))) ∧ ∀ i m H, W i m H →
      ((ItzT K p q).stop i H ∧ tNil (start N_rises [V.ref p]) H fun ys H2 => rAll K (.ref D :: ys) H2 Q) ∨ ((ItzT K p q).go i H ∧ ∃ Nx : Hp → Prop, (∀ H', Nx H' → ∃ m', m' < m ∧ W (i + 1) m' H') ∧ ∀ x H', (ItzT K p q).yld i H x H' → gTup K 2 (gCons (gName 1) (gCons (gName 2) gNil)) x (wipe (start N_rises [V.ref p]) [1, 2]) H' fun σ2 H2 => wipe σ2 [1, 2] = wipe (start N_rises [V.ref p]) [1, 2] ∧ tYes σ2 H2 fun b H3 =>
        if b = true then tOp (fLtA K) (tVar 1) (tVar 2) σ2 H3 fun y H4 => ∃ acc, H4 D = some (.lst acc) ∧ acc.length < sizeLine ∧ Nx (upd H4 D (.lst (acc ++ [y]))) else Nx H3) := by
    intro q H1 sm hq D nD
    refine lc_zipT (K := K) (a := p) (b := q) (xs := xs) (ys := xs.drop 1) (xs.length - 1) (by rw [List.length_drop]; omega) (fun i H2 => Same H1 H2 ∧ H2 D = some (.lst ((bs.take i).map V.bl))) ⟨fun b o e => updN (ne_of_none e nD) e, updS⟩ (fun i H2 s2 => ⟨sqT (s2.1 _ _ (sm _ _ hp)), sqT (s2.1 _ _ hq)⟩) (fun i x y T H2 hx hy s2 nT => ?_) (fun H2 s2 => ?_)
    · rw [List.getElem?_drop, Nat.add_comm] at hy
      have hi : i < bs.length := by
        have := (List.getElem?_eq_some_iff.mp hy).1
        omega
      have nTD : D ≠ T := ne_of_none s2.2 nT
      have sT : Same H1 (upd H2 T (.tup [x, y])) := fun b o e => updN (ne_of_none (s2.1 _ _ e) nT) (s2.1 _ _ e)
      refine ⟨T, [x, y], rfl, sqT updS, rfl, x, [y], rfl, y, [], rfl, rfl, rfl, ?_⟩
      refine ⟨_, rfl, _, rfl, Cmp.run ((hc i x y bs[i] hx hy (List.getElem?_eq_getElem hi)).mono (sm.trans sT)) ⟨(bs.take i).map V.bl, updN nTD s2.2, ?_, ?_⟩⟩
      · refine Nat.lt_of_le_of_lt (?_ : _ ≤ 100000) (by decide)
        rw [List.length_map, List.length_take]
        omega
      · refine ⟨fun b o e => updN (ne_of_none e nD) (sT _ _ e), ?_⟩
        rw [updS, List.take_add_one, List.getElem?_eq_getElem hi, List.map_append]
        rfl
    · refine ⟨D, bs, rfl, sqL ?_, k _ (sm.trans s2.1)⟩
      rw [s2.2, List.take_of_length_le (by omega)]
  refine ⟨_, rfl, _, rfl, _, rfl, p, xs, rfl, sqT hp, fun e => ?_, fun e q nq => ?_⟩
  · have e0 : xs.drop 1 = xs := by
      have e1 := e.1
      rw [show HT.sIx xs.length 0 (some 1) = min 1 xs.length from HT.sIx_nat xs.length 0 1] at e1
      have : xs.length = 0 := by omega
      rw [List.eq_nil_of_length_eq_zero this]
      rfl
    exact ⟨p, p, xs, xs, rfl, .inr ⟨sqT hp, sqT hp, main p H (Same.refl H) (by rw [e0]; exact hp)⟩⟩
  · have s1 : Same H (upd H q (.tup (cutV xs (some 1) none))) := fun b o e => updN (ne_of_none e nq) e
    refine ⟨p, q, xs, _, rfl, .inr ⟨sqT (s1 _ _ hp), sqT updS, main q _ s1 ?_⟩⟩
    rw [updS, cut1]
end
/-! ### sets of ints as dicts -/
def setOf (ns : List Int) : List (Key × V) := ns.foldl (fun acc n => putK acc (.inl n) (.bl true)) []
theorem setOf_snoc (ns : List Int) (n : Int) : setOf (ns ++ [n]) = putK (setOf ns) (.inl n) (.bl true) := by
  unfold setOf
  rw [List.foldl_append]
  rfl
theorem setOf_length (ns : List Int) : (setOf ns).length ≤ ns.length := by
  have : ∀ (ns : List Int) (acc : List (Key × V)), (ns.foldl (fun acc n => putK acc (.inl n) (.bl true)) acc).length ≤ acc.length + ns.length := by
    intro ns
    induction ns with
    | nil => intro acc; exact Nat.le_refl _
    | cons n r ih =>
      intro acc
      refine Nat.le_trans (ih (putK acc (.inl n) (.bl true))) ?_
      have := length_putK acc (.inl n : Key) (.bl true)
      rw [List.length_cons]
      omega
  have h := this ns []
  rw [List.length_nil, Nat.zero_add] at h
  exact h
theorem setOf_has (ns : List Int) (j : Int) : (valV (setOf ns) (.inl j)).isSome = ns.contains j := by
  have : ∀ (ns : List Int) (acc : List (Key × V)), (valV (ns.foldl (fun acc n => putK acc (.inl n) (.bl true)) acc) (.inl j)).isSome = ((valV acc (.inl j)).isSome || ns.contains j) := by
    intro ns
    induction ns with
    | nil => intro acc; simp
    | cons n r ih =>
      intro acc
      show (valV (r.foldl (fun acc n => putK acc (.inl n) (.bl true)) (putK acc (.inl n) (.bl true))) (.inl j)).isSome = _
      rw [ih, valV_put, List.contains_cons]
      by_cases e : j = n
      · subst e
        simp
      · have e2 : ¬ (Sum.inl j : Key) = Sum.inl n := fun z => e (Sum.inl.inj z)
        rw [if_neg e2, show (j == n) = false from beq_eq_false_iff_ne.mpr e, Bool.false_or]
  have h := this ns []
  rw [valV_nil] at h
  unfold setOf
  simpa using h
theorem take_snoc {α : Type} {l : List α} {i : Nat} {x : α} (h : l[i]? = some x) : l.take (i + 1) = l.take i ++ [x] := by
  rw [List.take_add_one, h]
  rfl
/-! ### rising, versions, links -/
def isRisingD : Dt → Bool
  | .tup ds => ds.all isIntD && adj ltD ds
  | _ => false
def geZ : Dt → Bool
  | .int i => decide (0 ≤ i)
  | _ => false
def areVersionsD : Dt → Bool
  | .tup ds => (ds.all isIntD && adj ltD ds) && (decide (ds.length ≤ 400) && ds.all geZ)
  | _ => false
def isLinkD (ns : List Int) : Dt → Bool
  | .tup [.int a, .int b] => ns.contains a && (ns.contains b && decide (b < a))
  | _ => false
def areLinksD (ns : List Int) : Dt → Bool
  | .tup ds => decide (ds.length ≤ 2000) && (ds.all (isLinkD ns) && adj ltD ds)
  | _ => false
def isShapeD : Dt → Bool
  | .tup [v, l] => areVersionsD v && areLinksD (match v with | .tup ds => ints1 ds | _ => []) l
  | _ => false
theorem isLinkD_two (ns : List Int) (a b : Int) : isLinkD ns (.tup [.int a, .int b]) = (ns.contains a && (ns.contains b && decide (b < a))) := rfl
theorem isRisingD_tup (ds : List Dt) : isRisingD (.tup ds) = (ds.all isIntD && adj ltD ds) := rfl
theorem areVersionsD_tup (ds : List Dt) : areVersionsD (.tup ds) = ((ds.all isIntD && adj ltD ds) && (decide (ds.length ≤ 400) && ds.all geZ)) := rfl
theorem areLinksD_tup (ns : List Int) (ds : List Dt) : areLinksD ns (.tup ds) = (decide (ds.length ≤ 2000) && (ds.all (isLinkD ns) && adj ltD ds)) := rfl
def isIntsD : Dt → Bool
  | .tup ds => ds.all isIntD
  | _ => false
def sp_is_intsD (_ : PySem.W.Frag) : Sp := fun vs H Q _ => ∃ (x : V) (d : Dt), vs = [x] ∧ At H x d ∧ ∀ H', Same H H' → Q (.bl (isIntsD d)) H'
theorem len_is_intsD {K : PySem.W.Frag} {vs : List V} {H : Hp} {Q : VK} {E : XK} (h : sp_is_intsD K vs H Q E) : vs.length = 1 := by
  obtain ⟨_, _, rfl, _⟩ := h
  rfl
def sp_is_rising (_ : PySem.W.Frag) : Sp := fun vs H Q _ => ∃ (x : V) (d : Dt), vs = [x] ∧ At H x d ∧ ∀ H', Same H H' → Q (.bl (isRisingD d)) H'
def sp_are_versions (_ : PySem.W.Frag) : Sp := fun vs H Q _ => ∃ (x : V) (d : Dt), vs = [x] ∧ At H x d ∧ ∀ H', Same H H' → Q (.bl (areVersionsD d)) H'
def sp_is_link (_ : PySem.W.Frag) : Sp := fun vs H Q _ => ∃ (x : V) (d : Dt) (k : Addr) (kvs : List (Key × V)) (ns : List Int), vs = [x, .ref k] ∧ At H x d ∧ H k = some (.dK kvs) ∧ (∀ i : Int, (valV kvs (.inl i)).isSome = ns.contains i) ∧ Q (.bl (isLinkD ns d)) H
def sp_are_links (_ : PySem.W.Frag) : Sp := fun vs H Q _ => ∃ (x y : V) (d : Dt) (ns : List Int), vs = [x, y] ∧ At H x d ∧ At H y (.tup (ns.map Dt.int)) ∧ ∀ H', Same H H' → Q (.bl (areLinksD ns d)) H'
abbrev N_is_ints : List Str := ["thing", "part"]
def t_is_ints (K : PySem.W.Frag) : TS := (tRet (tAndV (tCB (rIsi K) (tCons (tVar 0) (tCons (tC (.ty "tuple")) tNil))) (tCB (rAll K) (tCons (tLc (iTup K (tVar 0)) (gName 1) tYes (tCall (sp_is_int K) [] E0 (tCons (tVar 1) tNil)) [1]) tNil))))
abbrev N_is_rising : List Str := ["thing"]
def t_is_rising (K : PySem.W.Frag) : TS := (tRet (tAndV (tCall (sp_is_intsD K) [] E0 (tCons (tVar 0) tNil)) (tCall (sp_rises K) [] E0 (tCons (tVar 0) tNil))))
abbrev N_are_versions : List Str := ["thing", "version"]
def t_are_versions (K : PySem.W.Frag) : TS := (tRet (tAndV (tCall (sp_is_rising K) [] E0 (tCons (tVar 0) tNil)) (tAndV (tOp rLeI (tCB (fLen K) (tCons (tVar 0) tNil)) (tC (.int 400))) (tCB (rAll K) (tCons (tLc (iTup K (tVar 0)) (gName 1) tYes (tOp rGeI (tVar 1) (tC (.int 0))) [1]) tNil)))))
abbrev N_is_link : List Str := ["thing", "known"]
def t_is_link (K : PySem.W.Frag) : TS := (tSeq (tIfS (tOr (tNot (tB (tCall (sp_is_pair K) [] E0 (tCons (tVar 0) tNil)))) (tOr (tNot (tB (tCall (sp_is_int K) [] E0 (tCons (tOp (rIx K) (tVar 0) (tC (.int 0))) tNil)))) (tNot (tB (tCall (sp_is_int K) [] E0 (tCons (tOp (rIx K) (tVar 0) (tC (.int 1))) tNil)))))) (tRet (tC (.bl false))) tNext)
    (tRet (tAndV (tDIn (tOp (rIx K) (tVar 0) (tC (.int 0))) (tVar 1)) (tAndV (tDIn (tOp (rIx K) (tVar 0) (tC (.int 1))) (tVar 1)) (tOp rLtI (tOp (rIx K) (tVar 0) (tC (.int 1))) (tOp (rIx K) (tVar 0) (tC (.int 0))))))))
abbrev N_are_links : List Str := ["thing", "versions", "known", "version", "link"]
def t_are_links (K : PySem.W.Frag) : TS := (tSeq (tIfS (tOr (tNot (tB (tCB (rIsi K) (tCons (tVar 0) (tCons (tC (.ty "tuple")) tNil))))) (tTest (tOp rGtI (tCB (fLen K) (tCons (tVar 0) tNil)) (tC (.int 2000))))) (tRet (tC (.bl false))) tNext)
    (tSeq (tAsg (tDc (iTup K (tVar 1)) (gName 3) tYes (tVar 3) (tC (.bl true)) [3]) (gName 2))
    (tRet (tAndV (tCB (rAll K) (tCons (tLc (iTup K (tVar 0)) (gName 4) tYes (tCall (sp_is_link K) [] E0 (tCons (tVar 4) (tCons (tVar 2) tNil))) [4]) tNil)) (tCall (sp_rises K) [] E0 (tCons (tVar 0) tNil))))))
theorem cmp_of {H : Hp} {x y : V} {d e : Dt} (ax : At H x d) (ay : At H y e) (h : (∃ i j, d = .int i ∧ e = .int j) ∨ (∃ a b c f, d = .tup [.int a, .int b] ∧ e = .tup [.int c, .int f])) : Cmp H x y (ltD d e) := by
  rcases h with ⟨i, j, rfl, rfl⟩ | ⟨a, b, c, f, rfl, rfl⟩
  · exact .inl ⟨i, j, ax.int_inv, ay.int_inv, rfl⟩
  · obtain ⟨p, u, v, rfl, hp, a1, a2⟩ := ax.pair_inv
    obtain ⟨q, s, t, rfl, hq, b1, b2⟩ := ay.pair_inv
    rw [a1.int_inv, a2.int_inv] at hp
    rw [b1.int_inv, b2.int_inv] at hq
    exact .inr ⟨p, q, [a, b], [c, f], rfl, rfl, hp, hq, rfl⟩
section
variable {K : PySem.W.Frag} {vs : List V} {H : Hp} {Q : VK} {E : XK}
theorem len_is_rising (h : sp_is_rising K vs H Q E) : vs.length = 1 := by
  obtain ⟨_, _, rfl, _⟩ := h
  rfl
theorem len_are_versions (h : sp_are_versions K vs H Q E) : vs.length = 1 := by
  obtain ⟨_, _, rfl, _⟩ := h
  rfl
theorem len_is_link (h : sp_is_link K vs H Q E) : vs.length = 2 := by
  obtain ⟨_, _, _, _, _, rfl, _⟩ := h
  rfl
theorem len_are_links (h : sp_are_links K vs H Q E) : vs.length = 2 := by
  obtain ⟨_, _, _, _, rfl, _⟩ := h
  rfl
theorem map_all {α : Type} (f : α → Bool) (l : List α) : (l.map f).all id = l.all f := by
  rw [List.all_map]
  rfl
/-- rises of a tuple that is data of which all are ints, or all pairs of ints -/
theorem rises_at {p : Addr} {xs : List V} {ds : List Dt} {R : VK} (hp : H p = some (.tup xs)) (hz : xs.length ≤ 100000) (hl : xs.length = ds.length) (ha : ∀ (i : Nat) (x : V) (d : Dt), xs[i]? = some x → ds[i]? = some d → At H x d)
    (hd : (∀ d ∈ ds, ∃ i, d = .int i) ∨ ∀ d ∈ ds, ∃ a b, d = .tup [.int a, .int b]) (k : ∀ H', Same H H' → R (.bl (adj ltD ds)) H') : sp_rises K [.ref p] H R E := by
  refine ⟨p, xs, adjL ltD ds, rfl, hp, hz, by rw [adjL_length, hl], fun i x y b hx hy hb => ?_, k⟩
  have h1 : i < ds.length := by
    rw [← hl]
    exact (List.getElem?_eq_some_iff.mp hx).1
  have h2 : i + 1 < ds.length := by
    rw [← hl]
    exact (List.getElem?_eq_some_iff.mp hy).1
  have e1 := List.getElem?_eq_getElem h1
  have e2 := List.getElem?_eq_getElem h2
  rw [adjL_get e1 e2 hb]
  refine cmp_of (ha i x _ hx e1) (ha (i + 1) y _ hy e2) ?_
  rcases hd with hd | hd
  · obtain ⟨a, ea⟩ := hd _ (List.getElem_mem h1)
    obtain ⟨b, eb⟩ := hd _ (List.getElem_mem h2)
    exact .inl ⟨a, b, ea, eb⟩
  · obtain ⟨a, b, ea⟩ := hd _ (List.getElem_mem h1)
    obtain ⟨c, f, eb⟩ := hd _ (List.getElem_mem h2)
    exact .inr ⟨a, b, c, f, ea, eb⟩
theorem mem_int {ds : List Dt} (h : ds.all isIntD = true) : ∀ d ∈ ds, ∃ i, d = .int i := fun d hd => by
  have := List.all_eq_true.mp h d hd
  cases d with
  | int i => exact ⟨i, rfl⟩
  | _ => cases this
theorem pure_is_intsD (h : sp_is_intsD K vs H Q E) : t_is_ints K { nx := fun _ H' => Q .non H', rt := Q } (start N_is_ints vs) H := by
  obtain ⟨x, d, rfl, a, k⟩ := h
  refine ⟨_, rfl, isiTup a ⟨_, rfl, ?_⟩⟩
  cases a with
  | @tup p xs ds hp hz hl ha =>
    refine iteT ⟨_, rfl, p, rfl, ⟨_, sqT hp⟩, fun D nD => ?_⟩
    have up : ∀ acc, Same H (upd H D (.lst acc)) := fun acc b o e => updN (ne_of_none e nD) e
    refine lc_mapT (K := K) (a := p) (xs := xs) (ys := (ds.map isIntD).map V.bl) (fun acc => sqT (up acc _ _ hp)) (by simp [hl]) hz (fun i x y acc R hx hy r => ?_) ?_ mono_yes mono_gName
    · rw [List.getElem?_map, List.getElem?_map] at hy
      cases e : ds[i]? with
      | none => rw [e] at hy; cases hy
      | some d =>
        rw [e] at hy
        cases Option.some.inj hy
        exact ⟨rfl, ⟨_, rfl, x, d, rfl, (ha i x d hx e).mono (up acc), r⟩⟩
    · refine ⟨D, _, rfl, sqL updS, ?_⟩
      rw [map_all]
      exact k _ (up _)
  | _ => exact iteF (k _ (Same.refl H))
theorem pure_is_rising (h : sp_is_rising K vs H Q E) : t_is_rising K { nx := fun _ H' => Q .non H', rt := Q } (start N_is_rising vs) H := by
  obtain ⟨x, d, rfl, a, k⟩ := h
  refine ⟨_, rfl, x, d, rfl, a, fun H1 s1 => ⟨_, rfl, ?_⟩⟩
  cases a with
  | @tup p xs ds hp hz hl ha =>
    show if ds.all isIntD = true then _ else _
    refine ite2 (fun e => ?_) (fun e => ?_)
    · refine ⟨_, rfl, rises_at (K := K) (E := E0) (ds := ds) (s1 _ _ hp) hz hl (fun i x d h1 h2 => (ha i x d h1 h2).mono s1) (.inl (mem_int e)) fun H' s => ?_⟩
      have := k H' (s1.trans s)
      rw [isRisingD_tup, e, Bool.true_and] at this
      exact this
    · have e2 : ds.all isIntD = false := by
        cases q : ds.all isIntD with
        | true => exact absurd q e
        | false => rfl
      have := k _ s1
      rw [isRisingD_tup, e2, Bool.false_and] at this
      exact this
  | _ => exact iteF (k _ s1)
theorem pure_are_versions (h : sp_are_versions K vs H Q E) : t_are_versions K { nx := fun _ H' => Q .non H', rt := Q } (start N_are_versions vs) H := by
  obtain ⟨x, d, rfl, a, k⟩ := h
  refine ⟨_, rfl, x, d, rfl, a, fun H1 s1 => ⟨_, rfl, ?_⟩⟩
  have k1 : ∀ H', Same H1 H' → Q (.bl (areVersionsD d)) H' := fun H' s => k H' (s1.trans s)
  have a1 := a.mono s1
  cases a1 with
  | @tup p xs ds hp hz hl ha =>
    show if (ds.all isIntD && adj ltD ds) = true then _ else _
    refine ite2 (fun e => ?_) (fun e => ?_)
    · refine ⟨_, rfl, lenT hp ⟨_, _, rfl, rfl, _, rfl, ite2 (fun e2 => ?_) (fun e2 => ?_)⟩⟩
      · have e3 : decide (ds.length ≤ 400) = true := by
          have : (xs.length : Int) ≤ 400 := of_decide_eq_true e2
          exact decide_eq_true (by omega)
        refine ⟨_, rfl, p, rfl, ⟨_, sqT hp⟩, fun D nD => ?_⟩
        have up : ∀ acc, Same H1 (upd H1 D (.lst acc)) := fun acc b o e => updN (ne_of_none e nD) e
        refine lc_mapT (K := K) (a := p) (xs := xs) (ys := (ds.map geZ).map V.bl) (fun acc => sqT (up acc _ _ hp)) (by simp [hl]) hz (fun i x y acc R hx hy r => ?_) ?_ mono_yes mono_gName
        · rw [List.getElem?_map, List.getElem?_map] at hy
          cases ee : ds[i]? with
          | none => rw [ee] at hy; cases hy
          | some d =>
            rw [ee] at hy
            cases Option.some.inj hy
            rw [Bool.and_eq_true] at e
            obtain ⟨z, rfl⟩ := mem_int e.1 d (List.mem_of_getElem? ee)
            have := (ha i x _ hx ee).int_inv
            subst this
            exact ⟨rfl, ⟨_, rfl, _, _, rfl, rfl, r⟩⟩
        · refine ⟨D, _, rfl, sqL updS, ?_⟩
          rw [map_all]
          have := k1 _ (up ((ds.map geZ).map V.bl))
          rw [areVersionsD_tup, e, e3, Bool.true_and, Bool.true_and] at this
          exact this
      · have e3 : decide (ds.length ≤ 400) = false := decide_eq_false fun z => e2 (decide_eq_true (by omega))
        have := k1 _ (Same.refl H1)
        rw [areVersionsD_tup, e, e3, Bool.true_and, Bool.false_and] at this
        exact this
    · have e2 : (ds.all isIntD && adj ltD ds) = false := by
        cases q : (ds.all isIntD && adj ltD ds) with
        | true => exact absurd q e
        | false => rfl
      have := k1 _ (Same.refl H1)
      rw [areVersionsD_tup, e2, Bool.false_and] at this
      exact this
  | _ => exact iteF (k1 _ (Same.refl H1))
theorem link_no {ns : List Int} {e f : Dt} (h : ¬ (isIntD e = true ∧ isIntD f = true)) : isLinkD ns (.tup [e, f]) = false := by
  cases e <;> cases f <;> first | rfl | exact absurd ⟨rfl, rfl⟩ h
theorem pure_is_link (h : sp_is_link K vs H Q E) : t_is_link K { nx := fun _ H' => Q .non H', rt := Q } (start N_is_link vs) H := by
  obtain ⟨x, d, kk, kvs, ns, rfl, a, hk, hh, k⟩ := h
  refine ⟨_, rfl, x, d, rfl, a, _, rfl, ?_⟩
  by_cases hp : isPairD d = true
  · rw [hp]
    refine iteF ?_
    cases d with
    | tup ds =>
      have h2 : ds.length = 2 := of_decide_eq_true hp
      match ds, h2 with
      | [e, f], _ =>
        obtain ⟨p, y, z, rfl, hpp, ay, az⟩ := a.pair_inv
        refine ⟨_, rfl, ixT hpp rfl ⟨y, e, rfl, ay, _, rfl, ?_⟩⟩
        by_cases he : isIntD e = true
        · rw [he]
          refine iteF ⟨_, rfl, ixT hpp rfl ⟨z, f, rfl, az, _, rfl, ?_⟩⟩
          by_cases hf : isIntD f = true
          · rw [hf]
            refine iteF ?_
            cases e with
            | int i =>
              cases f with
              | int j =>
                have ey := ay.int_inv
                have ez := az.int_inv
                subst ey ez
                refine ⟨_, rfl, ixT hpp rfl ⟨_, rfl, kk, _, rfl, DGet.k (k := Sum.inl i) hk, _, rfl, ?_⟩⟩
                rw [hh]
                refine ite2 (fun e1 => ?_) (fun e1 => ?_)
                · refine ⟨_, rfl, ixT hpp rfl ⟨_, rfl, kk, _, rfl, DGet.k (k := Sum.inl j) hk, _, rfl, ?_⟩⟩
                  rw [hh]
                  refine ite2 (fun e2 => ?_) (fun e2 => ?_)
                  · refine ⟨_, rfl, ixT hpp rfl ⟨_, rfl, ixT hpp rfl ⟨_, _, rfl, rfl, ?_⟩⟩⟩
                    rw [isLinkD_two, e1, e2, Bool.true_and, Bool.true_and] at k
                    exact k
                  · rw [isLinkD_two, e1, Bool.eq_false_iff.mpr e2, Bool.true_and, Bool.false_and] at k
                    exact k
                · rw [isLinkD_two, Bool.eq_false_iff.mpr e1, Bool.false_and] at k
                  exact k
              | _ => cases hf
            | _ => cases he
          · rw [Bool.eq_false_iff.mpr hf]
            refine iteT ?_
            rw [link_no (fun q => hf q.2)] at k
            exact k
        · rw [Bool.eq_false_iff.mpr he]
          refine iteT ?_
          rw [link_no (fun q => he q.1)] at k
          exact k
    | _ => cases hp
  · rw [Bool.eq_false_iff.mpr hp]
    refine iteT ?_
    have e : isLinkD ns d = false := by
      cases d with
      | tup ds =>
        match ds, hp with
        | [], _ => rfl
        | [x], _ => cases x <;> rfl
        | [x, y], hp => exact absurd rfl hp
        | x :: y :: z :: r, _ => cases x <;> first | rfl | (cases y <;> rfl)
      | _ => rfl
    rw [e] at k
    exact k
theorem mem_link {ns : List Int} {ds : List Dt} (h : ds.all (isLinkD ns) = true) : ∀ d ∈ ds, ∃ a b, d = .tup [.int a, .int b] := fun d hd => by
  have := List.all_eq_true.mp h d hd
  unfold isLinkD at this
  split at this
  · exact ⟨_, _, rfl⟩
  · cases this
theorem pure_are_links (h : sp_are_links K vs H Q E) : t_are_links K { nx := fun _ H' => Q .non H', rt := Q } (start N_are_links vs) H := by
  obtain ⟨x, y, d, ns, rfl, a, ay, k⟩ := h
  refine ⟨_, rfl, isiTup a ⟨_, rfl, ?_⟩⟩
  cases a with
  | @tup p xs ds hp hz hl ha =>
    refine iteF ⟨_, rfl, lenT hp ⟨_, _, rfl, rfl, _, rfl, ite2 (fun e => ?_) (fun e => ?_)⟩⟩
    · have e2 : decide (ds.length ≤ 2000) = false := decide_eq_false fun z => by
        have : (2000 : Int) < xs.length := of_decide_eq_true e
        omega
      have := k _ (Same.refl H)
      rw [areLinksD_tup, e2, Bool.false_and] at this
      exact this
    · have e2 : decide (ds.length ≤ 2000) = true := by
        refine decide_eq_true ?_
        have : ¬ (2000 : Int) < xs.length := fun z => e (decide_eq_true z)
        omega
      obtain ⟨q, rfl, hq, hnz⟩ := ay.to_ints
      -- known = {version: True for version in versions}
      refine ⟨_, rfl, q, rfl, ⟨_, sqT hq⟩, fun D nD => ?_⟩
      have up : ∀ kvs, Same H (upd H D (.dK kvs)) := fun kvs b o e => updN (ne_of_none e nD) e
      refine dc_tup (K := K) (a := q) (xs := ns.map V.int) (fun i H2 => H2 = upd H D (.dK (setOf (ns.take i)))) (by rw [List.take_zero]; rfl) (fun i H2 _ e => by rw [e]; exact sqT (up _ _ _ hq)) (fun i x H2 hx e => ?_) (fun H2 e => ?_)
      · subst e
        rw [List.getElem?_map] at hx
        cases en : ns[i]? with
        | none => rw [en] at hx; cases hx
        | some n =>
          rw [en] at hx
          cases Option.some.inj hx
          refine ⟨rfl, ⟨_, rfl, setOf (ns.take i), Sum.inl n, rfl, updS, ?_, ?_⟩⟩
          · refine Nat.lt_of_le_of_lt (Nat.le_trans (setOf_length _) ?_ : _ ≤ 100000) (by decide)
            rw [List.length_take]
            omega
          · rw [upd_upd, take_snoc en, setOf_snoc]
      · subst e
        rw [List.length_map, List.take_length]
        -- all([is_link(link, known) for link in thing])
        refine ⟨_, rfl, p, rfl, ⟨_, sqT (up _ _ _ hp)⟩, fun M nM => ?_⟩
        have nMD : M ≠ D := fun z => by rw [z, updS] at nM; cases nM
        have s2 : ∀ acc, Same (upd H D (.dK (setOf ns))) (upd (upd H D (.dK (setOf ns))) M (.lst acc)) := fun acc b o e => updN (ne_of_none e nM) e
        refine lc_mapT (K := K) (a := p) (xs := xs) (ys := (ds.map (isLinkD ns)).map V.bl) (fun acc => sqT (s2 acc _ _ (up _ _ _ hp))) (by simp [hl]) hz (fun i x y acc R hx hy r => ?_) ?_ mono_yes mono_gName
        · rw [List.getElem?_map, List.getElem?_map] at hy
          cases ee : ds[i]? with
          | none => rw [ee] at hy; cases hy
          | some d =>
            rw [ee] at hy
            cases Option.some.inj hy
            exact ⟨rfl, ⟨_, rfl, _, rfl, x, d, D, setOf ns, ns, rfl, (ha i x d hx ee).mono ((up _).trans (s2 acc)), updN nMD.symm updS, setOf_has ns, r⟩⟩
        · refine ⟨M, _, rfl, sqL updS, _, rfl, ?_⟩
          rw [map_all]
          show if ds.all (isLinkD ns) = true then _ else _
          have kk : ∀ H', Same (upd (upd H D (.dK (setOf ns))) M (.lst ((ds.map (isLinkD ns)).map V.bl))) H' → Q (.bl (areLinksD ns (.tup ds))) H' := fun H' s => k H' (((up _).trans (s2 _)).trans s)
          refine ite2 (fun e3 => ?_) (fun e3 => ?_)
          · refine ⟨_, rfl, rises_at (K := K) (E := E0) (ds := ds) (s2 _ _ _ (up _ _ _ hp)) hz hl (fun i x d h1 h2 => (ha i x d h1 h2).mono ((up _).trans (s2 _))) (.inr (mem_link e3)) fun H' s => ?_⟩
            have := kk H' s
            rw [areLinksD_tup, e2, e3, Bool.true_and, Bool.true_and] at this
            exact this
          · have := kk _ (Same.refl _)
            rw [areLinksD_tup, e2, Bool.eq_false_iff.mpr e3, Bool.true_and, Bool.false_and] at this
            exact this
  | _ => exact iteT (k _ (Same.refl H))
end
end Fw

set_option Elab.async false
set_option linter.all false
set_option maxRecDepth 100000
set_option maxHeartbeats 4000000
namespace Fw
open PySem L2 RZ RT
/-! ### good shapes -/
def lkLt (a b : Int × Int) : Prop := a.1 < b.1 ∨ (a.1 = b.1 ∧ a.2 < b.2)
structure Good (vs : List Int) (ls : List (Int × Int)) : Prop where
  inc : vs.Pairwise (· < ·)
  nn : ∀ v ∈ vs, 0 ≤ v
  mem : ∀ l ∈ ls, l.1 ∈ vs ∧ l.2 ∈ vs ∧ l.2 < l.1
  lex : ls.Pairwise lkLt
theorem good_nil : Good [] [] := ⟨.nil, (fun _ h => by cases h), (fun _ h => by cases h), .nil⟩
/-- the links at these addresses -/
def LkAt (H : Hp) (rs : List Addr) (ls : List (Int × Int)) : Prop := rs.length = ls.length ∧ ∀ (i : Nat) (a : Addr) (l : Int × Int), rs[i]? = some a → ls[i]? = some l → H a = some (.tup [.int l.1, .int l.2])
def ShapeAt (H : Hp) (p : Addr) (vs : List Int) (ls : List (Int × Int)) : Prop := ∃ (q r : Addr) (rs : List Addr), H p = some (.tup [.ref q, .ref r]) ∧ H q = some (.tup (vs.map V.int)) ∧ H r = some (.tup (rs.map V.ref)) ∧ LkAt H rs ls
theorem LkAt.mono {H H' : Hp} {rs : List Addr} {ls : List (Int × Int)} (h : LkAt H rs ls) (s : ∀ (a : Addr) (xs : List V), H a = some (.tup xs) → H' a = some (.tup xs)) : LkAt H' rs ls := ⟨h.1, fun i a l h1 h2 => s _ _ (h.2 i a l h1 h2)⟩
theorem ShapeAt.mono {H H' : Hp} {p : Addr} {vs : List Int} {ls : List (Int × Int)} (h : ShapeAt H p vs ls) (s : ∀ (a : Addr) (xs : List V), H a = some (.tup xs) → H' a = some (.tup xs)) : ShapeAt H' p vs ls := by
  obtain ⟨q, r, rs, h1, h2, h3, h4⟩ := h
  exact ⟨q, r, rs, s _ _ h1, s _ _ h2, s _ _ h3, h4.mono s⟩
theorem LkAt.snoc {H : Hp} {rs : List Addr} {ls : List (Int × Int)} {T : Addr} {l : Int × Int} (h : LkAt H rs ls) (hT : H T = some (.tup [.int l.1, .int l.2])) : LkAt H (rs ++ [T]) (ls ++ [l]) := by
  refine ⟨by rw [List.length_append, List.length_append, h.1]; rfl, fun i a m h1 h2 => ?_⟩
  by_cases hi : i < rs.length
  · rw [List.getElem?_append_left hi] at h1
    rw [List.getElem?_append_left (by rw [← h.1]; exact hi)] at h2
    exact h.2 i a m h1 h2
  · have hi2 : i < (rs ++ [T]).length := (List.getElem?_eq_some_iff.mp h1).1
    rw [List.length_append, List.length_singleton] at hi2
    have e : i = rs.length := by omega
    rw [List.getElem?_append_right (by omega), e, Nat.sub_self] at h1
    rw [List.getElem?_append_right (by rw [← h.1]; omega), e, h.1, Nat.sub_self] at h2
    cases Option.some.inj h1
    cases Option.some.inj h2
    exact hT
theorem Dk.upd {c D q : Addr} {ns : List Int} {t : Nat} {H : Hp} {o : HO} (d : Dk c D ns t H) (h1 : q ≠ c) (h2 : q ≠ D) : Dk c D ns t (L2.upd H q o) := by
  obtain ⟨a, b, e, i, n, u, h, r⟩ := d
  exact ⟨a, updN h1.symm b, e, i, n, u, updN h2.symm h, r⟩
theorem Dk.le {c D : Addr} {ns : List Int} {t t' : Nat} {H : Hp} (d : Dk c D ns t H) (h : t ≤ t') : Dk c D ns t' H := by
  obtain ⟨a, b, e, i, n, u, hh, r1, r2, r3, r4, r5⟩ := d
  exact ⟨a, b, e, i, n, u, hh, r1, r2, r3, r4, by omega⟩
theorem Dk.someD {c D : Addr} {ns : List Int} {t : Nat} {H : Hp} (d : Dk c D ns t H) : ∃ xs, H D = some (.lst xs) := by
  obtain ⟨_, _, _, _, _, _, h, _⟩ := d
  exact ⟨_, h⟩
theorem Dk.someC {c D : Addr} {ns : List Int} {t : Nat} {H : Hp} (d : Dk c D ns t H) : ∃ xs, H c = some (.lst xs) := ⟨_, d.2.1⟩
theorem Dk.neD {c D q : Addr} {ns : List Int} {t : Nat} {H : Hp} (d : Dk c D ns t H) (h : H q = none) : q ≠ D := by
  obtain ⟨xs, e⟩ := d.someD
  exact (ne_of_none e h).symm
theorem Dk.neC {c D q : Addr} {ns : List Int} {t : Nat} {H : Hp} (d : Dk c D ns t H) (h : H q = none) : q ≠ c := by
  obtain ⟨xs, e⟩ := d.someC
  exact (ne_of_none e h).symm
/-- all but the deck stands -/
def Kp (D : Addr) (H H' : Hp) : Prop := ∀ b o, H b = some o → b ≠ D → H' b = some o
theorem Kp.refl (D : Addr) (H : Hp) : Kp D H H := fun _ _ e _ => e
theorem Kp.trans {D : Addr} {H H1 H2 : Hp} (a : Kp D H H1) (b : Kp D H1 H2) : Kp D H H2 := fun x o e n => b x o (a x o e n) n
theorem Kp.fr {D : Addr} {H H' : Hp} (f : ∀ b, b ≠ D → H' b = H b) : Kp D H H' := fun b o e n => by rw [f b n]; exact e
theorem Kp.new {D q : Addr} {H : Hp} {o : HO} (n : H q = none) : Kp D H (L2.upd H q o) := fun b u e _ => updN (ne_of_none e n) e
theorem Kp.of_same {D : Addr} {H H' : Hp} (s : Same H H') : Kp D H H' := fun b o e _ => s b o e
theorem Kp.tup {D : Addr} {H H' : Hp} {c : Addr} {ns : List Int} {t : Nat} (k : Kp D H H') (d : Dk c D ns t H) (a : Addr) (xs : List V) (h : H a = some (.tup xs)) : H' a = some (.tup xs) := by
  obtain ⟨ys, e⟩ := d.someD
  exact k a _ h (ne_of h e (by intro z; cases z))
/-- what was free at first, behind what keeps -/
theorem Kp.free {D q : Addr} {H H' : Hp} (k : Kp D H H') (h : H' q = none) (n : q ≠ D) : H q = none := by
  cases e : H q with
  | none => rfl
  | some o => rw [k q o e n] at h; cases h
/-- where two lists of one's own grow: versions and links -/
structure SI (H0 : Hp) (c D LV LL : Addr) (ns : List Int) (t : Nat) (vs : List Int) (rs : List Addr) (ls : List (Int × Int)) (H : Hp) : Prop where
  dk : Dk c D ns t H
  keep : Kp D H0 H
  hv : H LV = some (.lst (vs.map V.int))
  hl : H LL = some (.lst (rs.map V.ref))
  pr : LkAt H rs ls
  d0 : ∃ t0, Dk c D ns t0 H0
  v0 : H0 LV = none
  l0 : H0 LL = none
  ne : LV ≠ LL
section
variable {H0 H H' : Hp} {c D LV LL q : Addr} {ns : List Int} {t t' : Nat} {vs : List Int} {rs : List Addr} {ls : List (Int × Int)} {o : HO}
theorem SI.vD (s : SI H0 c D LV LL ns t vs rs ls H) : LV ≠ D := s.d0.choose_spec.neD s.v0
theorem SI.vC (s : SI H0 c D LV LL ns t vs rs ls H) : LV ≠ c := s.d0.choose_spec.neC s.v0
theorem SI.lD (s : SI H0 c D LV LL ns t vs rs ls H) : LL ≠ D := s.d0.choose_spec.neD s.l0
theorem SI.lC (s : SI H0 c D LV LL ns t vs rs ls H) : LL ≠ c := s.d0.choose_spec.neC s.l0
theorem SI.draw (s : SI H0 c D LV LL ns t vs rs ls H) (d : Dk c D ns t' H') (f : ∀ b, b ≠ D → H' b = H b) : SI H0 c D LV LL ns t' vs rs ls H' :=
  ⟨d, s.keep.trans (.fr f), by rw [f _ s.vD]; exact s.hv, by rw [f _ s.lD]; exact s.hl, s.pr.mono fun a xs h => (Kp.fr f).tup s.dk a xs h, s.d0, s.v0, s.l0, s.ne⟩
theorem SI.new (s : SI H0 c D LV LL ns t vs rs ls H) (n : H q = none) : SI H0 c D LV LL ns t vs rs ls (upd H q o) :=
  ⟨s.dk.upd (s.dk.neC n) (s.dk.neD n), s.keep.trans (.new n), updN (ne_of_none s.hv n) s.hv, updN (ne_of_none s.hl n) s.hl, s.pr.mono fun a xs h => updN (ne_of_none h n) h, s.d0, s.v0, s.l0, s.ne⟩
theorem SI.addV (s : SI H0 c D LV LL ns t vs rs ls H) (x : Int) : SI H0 c D LV LL ns t (vs ++ [x]) rs ls (upd H LV (.lst (vs.map V.int ++ [.int x]))) :=
  ⟨s.dk.upd s.vC s.vD, fun b u e n => updN (ne_of_none e s.v0) (s.keep b u e n), by rw [updS, List.map_append]; rfl, updN s.ne.symm s.hl, s.pr.mono fun a xs h => updN (ne_of h s.hv (by intro z; cases z)) h, s.d0, s.v0, s.l0, s.ne⟩
theorem SI.addL (s : SI H0 c D LV LL ns t vs rs ls H) {T : Addr} {l : Int × Int} (hT : H T = some (.tup [.int l.1, .int l.2])) : SI H0 c D LV LL ns t vs (rs ++ [T]) (ls ++ [l]) (upd H LL (.lst (rs.map V.ref ++ [.ref T]))) :=
  ⟨s.dk.upd s.lC s.lD, fun b u e n => updN (ne_of_none e s.l0) (s.keep b u e n), updN s.ne s.hv, by rw [updS, List.map_append]; rfl, (s.pr.snoc hT).mono fun a xs h => updN (ne_of h s.hl (by intro z; cases z)) h, s.d0, s.v0, s.l0, s.ne⟩
theorem SI.le (s : SI H0 c D LV LL ns t vs rs ls H) (h : t ≤ t') : SI H0 c D LV LL ns t' vs rs ls H := ⟨s.dk.le h, s.keep, s.hv, s.hl, s.pr, s.d0, s.v0, s.l0, s.ne⟩
end
/-- what a maker of shapes promises: a good shape, new -/
def sp_mkshape (most0 lim : Nat) (len : Int → Nat → Prop) (lks : List Int → List (Int × Int) → Prop) : Sp := fun vs H Q _ => ∃ (c D : Addr) (ns : List Int) (t : Nat) (most : Int), vs = [.ref D, .int most] ∧ Dk c D ns t H ∧ 0 ≤ most ∧ most ≤ most0 ∧ t + lim < 1000000000 ∧
  ∀ (p : Addr) (ws : List Int) (ls : List (Int × Int)) (H' : Hp), Kp D H H' → Dk c D ns (t + lim) H' → ShapeAt H' p ws ls → Good ws ls → len most ws.length → lks ws ls → Q (.ref p) H'
abbrev sp_l_shape (_ : PySem.W.Frag) : Sp := sp_mkshape 60 4000 (fun most n => (n : Int) ≤ most) (fun ws ls => ls.length ≤ ws.length * ws.length)
theorem len_mkshape {a b : Nat} {l : Int → Nat → Prop} {lk : List Int → List (Int × Int) → Prop} {vs : List V} {H : Hp} {Q : VK} {E : XK} (h : sp_mkshape a b l lk vs H Q E) : vs.length = 2 := by
  obtain ⟨_, _, _, _, _, rfl, _⟩ := h
  rfl
theorem len_l_shape {K : PySem.W.Frag} {vs : List V} {H : Hp} {Q : VK} {E : XK} (h : sp_l_shape K vs H Q E) : vs.length = 2 := len_mkshape h
abbrev N_l_shape : List Str := ["_law_deck_here", "_law_most", "_law_versions", "_law_last", "_law_far", "_law_road", "_law_links", "_law_k", "_law_j", "_law_hit"]
def t_l_shape_h3 (K : PySem.W.Frag) : TS := (tIfS (tB (tVar 9)) (tDrop (tBM K "list" rAppend (tVar 6) (tCons (tTup (tCons (tVar 3) (tCons (tOp (rIx K) (tVar 2) (tVar 8)) tNil))) tNil))) tNext)
def t_l_shape_h2 (K : PySem.W.Frag) : TS := (tSeq (tIfS (tAnd (tTest (tOp rEq (tVar 5) (tC (.int 2)))) (tTest (tOp rEq (tVar 8) (tOp rSubI (tVar 7) (tC (.int 1)))))) (tAsg (tC (.bl true)) (gName 9)) tNext)
    (t_l_shape_h3 K))
def t_l_shape_h1 (K : PySem.W.Frag) : TS := (tSeq (tIfS (tAnd (tTest (tOp rEq (tVar 5) (tC (.int 1)))) (tTest (tOp rGtI (tOp rSubI (tVar 7) (tVar 8)) (tC (.int 2))))) (tAsg (tC (.bl false)) (gName 9)) tNext)
    (t_l_shape_h2 K))
def t_l_shape_app (K : PySem.W.Frag) : TS := (tDrop (tBM K "list" rAppend (tVar 2) (tCons (tVar 3) tNil)))
def t_l_shape_inner (K : PySem.W.Frag) : TS := (tSeq (tFor (iRng1 (tCons (tVar 7) tNil)) (gName 8) (tSeq (tAsg (tOp rEq (tCall (sp_l_draw K) [] E0 (tCons (tVar 0) (tCons (tOp (rIx K) (tLst (tCons (tC (.int 3)) (tCons (tC (.int 2)) (tCons (tC (.int 6)) (tCons (tC (.int 9)) tNil))))) (tVar 5)) tNil))) (tC (.int 0))) (gName 9))
    (t_l_shape_h1 K)))
    (t_l_shape_app K))
def t_l_shape_end (K : PySem.W.Frag) : TS := (tRet (tTup (tCons (tCB (fTupleOf K) (tCons (tVar 2) tNil)) (tCons (tCB (fTupleOf K) (tCons (tVar 6) tNil)) tNil))))
def t_l_shape (K : PySem.W.Frag) : TS := (tSeq (tAsg (tLst tNil) (gName 2))
    (tSeq (tAsg (tUn rNegI (tC (.int 1))) (gName 3))
    (tSeq (tAsg (tCall (sp_l_draw K) [] E0 (tCons (tVar 0) (tCons (tC (.int 4)) tNil))) (gName 4))
    (tSeq (tAsg (tCall (sp_l_draw K) [] E0 (tCons (tVar 0) (tCons (tC (.int 4)) tNil))) (gName 5))
    (tSeq (tAsg (tLst tNil) (gName 6))
    (tSeq (tFor (iRng1 (tCons (tCall (sp_l_draw K) [] E0 (tCons (tVar 0) (tCons (tOp rAddI (tVar 1) (tC (.int 1))) tNil))) tNil)) (gName 7) (tSeq (tAsg (tOp rAddI (tOp rAddI (tVar 3) (tC (.int 1))) (tCall (sp_l_draw K) [] E0 (tCons (tVar 0) (tCons (tC (.int 3)) tNil)))) (gName 3))
    (tSeq (tIfS (tAnd (tTest (tOp rEq (tVar 4) (tC (.int 0)))) (tTest (tOp rEq (tCall (sp_l_draw K) [] E0 (tCons (tVar 0) (tCons (tC (.int 4)) tNil))) (tC (.int 0))))) (tAsg (tOp rAddI (tVar 3) (tCall (sp_l_draw K) [] E0 (tCons (tVar 0) (tCons (tOp rPowI (tC (.int 10)) (tC (.int 18))) tNil)))) (gName 3)) tNext)
    (t_l_shape_inner K))))
    (t_l_shape_end K)))))))
theorem pick4 {w : Int} (h0 : 0 ≤ w) (h1 : w < 4) : ∃ m : Int, atI [V.int 3, .int 2, .int 6, .int 9] w = some (.int m) ∧ 0 < m ∧ m ≤ 9 := by
  have : w = 0 ∨ w = 1 ∨ w = 2 ∨ w = 3 := by omega
  rcases this with rfl | rfl | rfl | rfl
  · exact ⟨3, rfl, by decide, by decide⟩
  · exact ⟨2, rfl, by decide, by decide⟩
  · exact ⟨6, rfl, by decide, by decide⟩
  · exact ⟨9, rfl, by decide, by decide⟩
/-- the links while those of one version are drawn: last is above all of vs -/
structure GI (vs : List Int) (ls : List (Int × Int)) (last : Int) (j : Nat) : Prop where
  inc : vs.Pairwise (· < ·)
  nn : ∀ v ∈ vs, 0 ≤ v
  top : ∀ v ∈ vs, v < last
  lz : 0 ≤ last
  mem : ∀ l ∈ ls, (l.1 ∈ vs ∨ l.1 = last) ∧ l.2 ∈ vs ∧ l.2 < l.1
  lex : ls.Pairwise lkLt
  new : ∀ l ∈ ls, l.1 < last ∨ (l.1 = last ∧ ∀ (i : Nat) (w : Int), j ≤ i → vs[i]? = some w → l.2 < w)
theorem GI.skip {vs : List Int} {ls : List (Int × Int)} {last : Int} {j : Nat} (g : GI vs ls last j) : GI vs ls last (j + 1) :=
  ⟨g.inc, g.nn, g.top, g.lz, g.mem, g.lex, fun l hl => (g.new l hl).imp id fun h => ⟨h.1, fun i w hi => h.2 i w (by omega)⟩⟩
theorem GI.hit {vs : List Int} {ls : List (Int × Int)} {last w : Int} {j : Nat} (g : GI vs ls last j) (hw : vs[j]? = some w) : GI vs (ls ++ [(last, w)]) last (j + 1) := by
  have hm : w ∈ vs := List.mem_of_getElem? hw
  refine ⟨g.inc, g.nn, g.top, g.lz, fun l hl => ?_, ?_, fun l hl => ?_⟩
  · rcases List.mem_append.mp hl with hl | hl
    · exact g.mem l hl
    · cases List.mem_singleton.mp hl
      exact ⟨.inr rfl, hm, g.top w hm⟩
  · refine List.pairwise_append.mpr ⟨g.lex, List.pairwise_singleton _ _, fun l hl m hm2 => ?_⟩
    cases List.mem_singleton.mp hm2
    rcases g.new l hl with h | h
    · exact .inl h
    · exact .inr ⟨h.1, h.2 j w (Nat.le_refl _) hw⟩
  · rcases List.mem_append.mp hl with hl | hl
    · exact g.skip.new l hl
    · cases List.mem_singleton.mp hl
      refine .inr ⟨rfl, fun i u hi hu => ?_⟩
      have h1 := (List.getElem?_eq_some_iff.mp hw)
      have h2 := (List.getElem?_eq_some_iff.mp hu)
      obtain ⟨l1, e1⟩ := h1
      obtain ⟨l2, e2⟩ := h2
      have := List.pairwise_iff_getElem.mp g.inc j i l1 l2 (by omega)
      show w < u
      rw [← e1, ← e2]
      exact this
theorem GI.close {vs : List Int} {ls : List (Int × Int)} {last : Int} {j : Nat} (g : GI vs ls last j) : Good (vs ++ [last]) ls := by
  refine ⟨List.pairwise_append.mpr ⟨g.inc, List.pairwise_singleton _ _, fun a ha b hb => ?_⟩, fun v hv => ?_, fun l hl => ?_, g.lex⟩
  · cases List.mem_singleton.mp hb
    exact g.top a ha
  · rcases List.mem_append.mp hv with hv | hv
    · exact g.nn v hv
    · cases List.mem_singleton.mp hv
      exact g.lz
  · obtain ⟨h1, h2, h3⟩ := g.mem l hl
    refine ⟨?_, List.mem_append_left _ h2, h3⟩
    rcases h1 with h1 | h1
    · exact List.mem_append_left _ h1
    · exact List.mem_append_right _ (by rw [h1]; exact List.mem_singleton.mpr rfl)
theorem GI.open {vs : List Int} {ls : List (Int × Int)} {last : Int} (g : Good vs ls) (h : ∀ v ∈ vs, v < last) (h0 : 0 ≤ last) : GI vs ls last 0 :=
  ⟨g.inc, g.nn, h, h0, fun l hl => ⟨.inl (g.mem l hl).1, (g.mem l hl).2⟩, g.lex, fun l hl => .inl (h _ (g.mem l hl).1)⟩
theorem shape_end {K : PySem.W.Frag} {H0 H : Hp} {c D LV LL : Addr} {ns : List Int} {t : Nat} {vs : List Int} {rs : List Addr} {ls : List (Int × Int)} {Q : VK} (s : SI H0 c D LV LL ns t vs rs ls H)
    (k : ∀ p H', Kp D H0 H' → Dk c D ns t H' → ShapeAt H' p vs ls → Q (.ref p) H') : ∀ p, H p = none → ∀ r, upd H p (.tup (vs.map V.int)) r = none → ∀ w, upd (upd H p (.tup (vs.map V.int))) r (.tup (rs.map V.ref)) w = none →
      Q (.ref w) (upd (upd (upd H p (.tup (vs.map V.int))) r (.tup (rs.map V.ref))) w (.tup [.ref p, .ref r])) := by
  intro p np r nr w nw
  have s1 : SI H0 c D LV LL ns t vs rs ls (upd H p (.tup (vs.map V.int))) := s.new np
  have s2 : SI H0 c D LV LL ns t vs rs ls (upd (upd H p (.tup (vs.map V.int))) r (.tup (rs.map V.ref))) := s1.new nr
  have s3 : SI H0 c D LV LL ns t vs rs ls (upd (upd (upd H p (.tup (vs.map V.int))) r (.tup (rs.map V.ref))) w (.tup [.ref p, .ref r])) := s2.new nw
  have npr : p ≠ r := fun e => by rw [← e, updS] at nr; cases nr
  have npw : p ≠ w := fun e => by rw [← e, upd_ne npr, updS] at nw; cases nw
  have nrw : r ≠ w := fun e => by rw [← e, updS] at nw; cases nw
  exact k w _ s3.keep s3.dk ⟨p, r, rs, updS, updN npw (updN npr updS), updN nrw updS, s3.pr⟩
/-- the state of the outer loop -/
def ShO (H : Hp) (c D LV LL : Addr) (ns : List Int) (most far road : Int) (t : Nat) (i : Nat) (σ : L2.St) (H' : Hp) : Prop := ∃ (ws : List Int) (rs : List Addr) (ls : List (Int × Int)) (last : Int) (z7 z8 z9 : Option V),
  σ = [some (.ref D), some (.int most), some (.ref LV), some (.int last), some (.int far), some (.int road), some (.ref LL), z7, z8, z9] ∧
    SI H c D LV LL ns (t + 3 + 64 * i) ws rs ls H' ∧ Good ws ls ∧ ws.length = i ∧ (∀ v ∈ ws, v ≤ last) ∧ -1 ≤ last ∧ ls.length ≤ i * i
/-- the state of the inner one -/
def ShN (H : Hp) (c D LV LL : Addr) (ns : List Int) (most far road last : Int) (t : Nat) (i : Nat) (ws : List Int) (j : Nat) (σ : L2.St) (H' : Hp) : Prop := ∃ (rs : List Addr) (ls : List (Int × Int)) (z8 z9 : Option V),
  σ = [some (.ref D), some (.int most), some (.ref LV), some (.int last), some (.int far), some (.int road), some (.ref LL), some (.int (0 + (i : Int))), z8, z9] ∧
    SI H c D LV LL ns (t + j) ws rs ls H' ∧ GI ws ls last j ∧ ls.length ≤ i * i + j
theorem pure_l_shape {K : PySem.W.Frag} {vs : List V} {H : Hp} {Q : VK} {E : XK} (h : sp_l_shape K vs H Q E) : t_l_shape K { nx := fun _ H' => Q .non H', rt := Q } (start N_l_shape vs) H := by
  obtain ⟨c, D, ns, t, most, rfl, dk, m0, m1, ht, k⟩ := h
  refine ⟨Nat.zero_le _, fun LV nV => ⟨_, rfl, ?_⟩⟩
  have d1 := dk.upd (o := .lst []) (dk.neC nV) (dk.neD nV)
  refine ⟨_, rfl, c, D, ns, t, 4, rfl, d1, by omega, by decide, by decide, fun far H1 f0 f1 d2 fr1 => ?_⟩
  refine ⟨_, rfl, c, D, ns, t + 1, 4, rfl, d2, by omega, by decide, by decide, fun road H2 r0 r1 d3 fr2 => ?_⟩
  refine ⟨Nat.zero_le _, fun LL nL => ?_⟩
  have hV2 : H2 LV = some (.lst []) := by rw [fr2 _ (dk.neD nV), fr1 _ (dk.neD nV)]; exact updS
  have nVL : LV ≠ LL := ne_of_none hV2 nL
  have k2 : Kp D H H2 := ((Kp.new nV).trans (.fr fr1)).trans (.fr fr2)
  have nL0 : H LL = none := k2.free nL (d3.neD nL)
  have s0 : SI H c D LV LL ns (t + 1 + 1) [] [] [] (upd H2 LL (.lst [])) :=
    ⟨d3.upd (d3.neC nL) (d3.neD nL), k2.trans (.new nL), updN nVL hV2, updS, ⟨rfl, fun i a l h1 _ => by cases h1⟩, ⟨t, dk⟩, nV, nL0, nVL⟩
  have m100 : (most + 1).natAbs < 2 ^ 100 := small100 (by omega)
  refine ⟨_, rfl, _, rfl, _, _, rfl, rfl, c, D, ns, t + 1 + 1, most + 1, rfl, s0.dk, by omega, by omega, m100, fun n H3 n0 n1 d4 fr3 => ⟨_, rfl, by omega, by omega, ?_⟩⟩
  refine for_range (lo := 0) (n := n.toNat) (ShO H c D LV LL ns most far road t) ?_ ?_ ?_
  · exact ⟨[], [], [], -1, none, none, none, rfl, s0.draw d4 fr3, good_nil, rfl, (fun _ h => by cases h), Int.le_refl _, Nat.le_refl _⟩
  · rintro i σ H' hi ⟨ws, rs, ls, last, z7, z8, z9, rfl, s, g, hw, hlast, hl1, hlen⟩
    have hi60 : i < 61 := by omega
    -- last = last + 1 + draw(3)
    refine ⟨_, rfl, _, _, rfl, rfl, _, rfl, c, D, ns, _, 3, rfl, s.dk, by omega, by decide, by decide, fun x H4 x0 x1 d5 fr4 => ⟨_, _, rfl, rfl, ?_⟩⟩
    have sA := s.draw d5 fr4
    -- what stands from the inner loop on
    have inner : ∀ (last' : Int) (t' : Nat) (H5 : Hp) (z8 z9 : Option V) (Dd : Ends), (∀ σ H', ShO H c D LV LL ns most far road t (i + 1) σ H' → Dd.nx σ H') → last < last' → t' ≤ t + 3 + 64 * i + 3 → SI H c D LV LL ns t' ws rs ls H5 →
        t_l_shape_inner K Dd [some (.ref D), some (.int most), some (.ref LV), some (.int last'), some (.int far), some (.int road), some (.ref LL), some (.int (0 + (i : Int))), z8, z9] H5 := by
      intro last' t' H5 z8 z9 Dd kd hlt htt s5
      have g0 : GI ws ls last' 0 := .open g (fun v hv => by have := hlast v hv; omega) (by omega)
      refine ⟨_, rfl, _, rfl, by omega, by omega, ?_⟩
      refine for_range (lo := 0) (n := (0 + (i : Int)).toNat) (ShN H c D LV LL ns most far road last' t' i ws) ?_ ?_ ?_
      · exact ⟨rs, ls, z8, z9, rfl, s5, g0, hlen⟩
      · rintro j σ H6 hj ⟨rs, ls, z8, z9, rfl, s6, g6, hlen6⟩
        have hj2 : j < ws.length := by omega
        have hwj : ws[j]? = some ws[j] := List.getElem?_eq_getElem hj2
        -- the last if, the hit known
        have h3 : ∀ (b : Bool) (H7 : Hp) (Dd : Ends), (∀ σ H', ShN H c D LV LL ns most far road last' t' i ws (j + 1) σ H' → Dd.nx σ H') → SI H c D LV LL ns (t' + j + 1) ws rs ls H7 → t_l_shape_h3 K Dd
            [some (.ref D), some (.int most), some (.ref LV), some (.int last'), some (.int far), some (.int road), some (.ref LL), some (.int (0 + (i : Int))), some (.int (0 + (j : Int))), some (.bl b)] H7 := by
          intro b H7 Dd kd s7
          refine ⟨_, rfl, _, rfl, ?_⟩
          cases b with
          | false => exact iteF (kd _ _ ⟨rs, ls, _, _, rfl, s7, g6.skip, by omega⟩)
          | true =>
            refine iteT ⟨_, rfl, .inl ⟨rfl, _, sqL s7.hl⟩, _, rfl, _, rfl, _, rfl, ixL s7.hv (v := .int ws[j]) ?_ ⟨by show (2 : Nat) ≤ sizeLine; decide, fun T nT => ?_⟩⟩
            · rw [Int.zero_add]
              exact atI_nat (by rw [List.getElem?_map, hwj]; rfl)
            · have s8 : SI H c D LV LL ns (t' + j + 1) ws rs ls (upd H7 T (.tup [.int last', .int ws[j]])) := s7.new nT
              have nTL : T ≠ LL := (ne_of_none s7.hl nT).symm
              refine ⟨LL, _, _, rfl, rfl, s8.hl, ?_, ?_⟩
              · rw [List.length_map, s7.pr.1]
                have : i * i ≤ 60 * 60 := Nat.mul_le_mul (by omega) (by omega)
                exact Nat.lt_of_le_of_lt (show ls.length ≤ 4000 by omega) (by decide)
              · exact kd _ _ ⟨rs ++ [T], ls ++ [(last', ws[j])], _, _, rfl, s8.addL (l := (last', ws[j])) updS, g6.hit hwj, by rw [List.length_append, List.length_singleton]; omega⟩
        -- hit = draw(..) == 0
        refine ⟨_, rfl, by show (4 : Nat) ≤ sizeLine; decide, fun q nq => ?_⟩
        obtain ⟨m, em, mm0, mm1⟩ := pick4 r0 r1
        have s7 : SI H c D LV LL ns (t' + j) ws rs ls (upd H6 q (.lst [.int 3, .int 2, .int 6, .int 9])) := s6.new nq
        refine ⟨_, rfl, ixL updS em ⟨c, D, ns, _, m, rfl, s7.dk, by omega, mm0, small100 (by omega), fun y H8 y0 y1 d8 fr8 => ⟨rfl, ?_⟩⟩⟩
        have s8 := s7.draw d8 fr8
        have h2 : ∀ (b : Bool) (Dd : Ends), (∀ σ H', ShN H c D LV LL ns most far road last' t' i ws (j + 1) σ H' → Dd.nx σ H') → t_l_shape_h2 K Dd [some (.ref D), some (.int most), some (.ref LV), some (.int last'), some (.int far), some (.int road), some (.ref LL), some (.int (0 + (i : Int))), some (.int (0 + (j : Int))), some (.bl b)] H8 := fun b Dd kd =>
          ⟨_, rfl, rfl, _, rfl, ite2 (fun _ => ⟨_, rfl, _, rfl, _, _, rfl, rfl, rfl, _, rfl, ite2 (fun _ => h3 true H8 _ kd s8) (fun _ => h3 b H8 _ kd s8)⟩) (fun _ => iteF (h3 b H8 _ kd s8))⟩
        refine ⟨_, rfl, rfl, _, rfl, ?_⟩
        refine ite2 (fun _ => ?_) (fun _ => iteF (h2 _ _ fun _ _ z => z))
        exact ⟨_, rfl, _, rfl, _, _, rfl, rfl, _, _, rfl, rfl, _, rfl, ite2 (fun _ => h2 false _ fun _ _ z => z) (fun _ => h2 _ _ fun _ _ z => z)⟩
      · rintro σ H6 ⟨rs, ls, z8, z9, rfl, s6, g6, hlen6⟩
        -- versions.append(last)
        refine ⟨_, rfl, .inl ⟨rfl, _, sqL s6.hv⟩, _, rfl, LV, _, _, rfl, rfl, s6.hv, ?_, ?_⟩
        · rw [List.length_map, hw]
          exact Nat.lt_of_le_of_lt (show i ≤ 1000 by omega) (by decide)
        · refine kd _ _ ⟨ws ++ [last'], rs, ls, last', _, _, _, rfl, (s6.addV last').le (by omega), g6.close, by rw [List.length_append, hw]; rfl, fun v hv => ?_, by omega, ?_⟩
          · rcases List.mem_append.mp hv with hv | hv
            · have := hlast v hv
              omega
            · cases List.mem_singleton.mp hv
              exact Int.le_refl _
          · have : (i + 1) * (i + 1) = i * i + 2 * i + 1 := by rw [Nat.add_mul, Nat.mul_add]; omega
            omega
    -- if far == 0 and draw(4) == 0
    refine ⟨_, rfl, rfl, _, rfl, ite2 (fun _ => ?_) (fun _ => iteF (inner _ _ _ _ _ _ (fun _ _ z => z) (by omega) (by omega) sA))⟩
    refine ⟨_, rfl, c, D, ns, _, 4, rfl, sA.dk, by omega, by decide, by decide, fun y H5 y0 y1 d6 fr5 => ⟨rfl, _, rfl, ?_⟩⟩
    have sB := sA.draw d6 fr5
    refine ite2 (fun _ => ?_) (fun _ => inner _ _ _ _ _ _ (fun _ _ z => z) (by omega) (by omega) sB)
    refine ⟨_, rfl, _, rfl, _, _, rfl, rfl, ⟨by decide, by decide, by decide⟩, c, D, ns, _, _, rfl, sB.dk, by omega, by rw [pow18]; decide, by rw [pow18]; decide, fun z H6 w0 w1 d7 fr6 => ⟨_, _, rfl, rfl, ?_⟩⟩
    exact inner _ _ _ _ _ _ (fun _ _ z => z) (by omega) (by omega) (sB.draw d7 fr6)
  · rintro σ H' ⟨ws, rs, ls, last, z7, z8, z9, rfl, s, g, hw, hlast, hl1, hlen⟩
    refine ⟨_, rfl, LV, _, rfl, .inl ⟨sqL s.hv, fun p np => ⟨_, rfl, LL, _, rfl, .inl ⟨sqL (updN (ne_of_none s.hl np) s.hl), fun r nr => ⟨by show (2 : Nat) ≤ sizeLine; decide, fun w nw => ?_⟩⟩⟩⟩⟩
    exact shape_end (K := K) s (fun p H' k1 d sh => k p ws ls H' k1 (d.le (by omega)) sh g (show ((ws.length : Nat) : Int) ≤ most by rw [hw]; omega) (show ls.length ≤ ws.length * ws.length by rw [hw]; exact hlen)) p np r nr w nw
end Fw

set_option Elab.async false
set_option linter.all false
set_option maxRecDepth 100000
set_option maxHeartbeats 4000000
namespace Fw
open PySem L2 RZ RT
/-! ### long shapes -/
def vsL (a g : Int) (n : Nat) : List Int := (List.range n).map fun k : Nat => a + g * (k : Int)
def lsL (a g : Int) (w n : Nat) : List (Int × Int) := (List.range (n - w)).map fun j : Nat => (a + g * ((w : Int) + (j : Int)), a + g * (j : Int))
theorem vsL_length (a g : Int) (n : Nat) : (vsL a g n).length = n := by simp [vsL]
theorem lsL_length (a g : Int) (w n : Nat) : (lsL a g w n).length = n - w := by simp [lsL]
theorem vsL_get {a g : Int} {n i : Nat} (h : i < n) : (vsL a g n)[i]? = some (a + g * (i : Int)) := by
  simp [vsL, h]
theorem vsL_get_lt {a g : Int} {n i : Nat} {z : Int} (h : (vsL a g n)[i]? = some z) : i < n ∧ z = a + g * (i : Int) := by
  have hi : i < (vsL a g n).length := (List.getElem?_eq_some_iff.mp h).1
  rw [vsL_length] at hi
  rw [vsL_get hi] at h
  exact ⟨hi, (Option.some.inj h).symm⟩
theorem vsL_mem {a g : Int} {n : Nat} {v : Int} (h : v ∈ vsL a g n) : ∃ k : Nat, k < n ∧ v = a + g * (k : Int) := by
  obtain ⟨k, hk, e⟩ := List.mem_map.mp h
  exact ⟨k, List.mem_range.mp hk, e.symm⟩
theorem vsL_mem_of {a g : Int} {n k : Nat} (h : k < n) : a + g * (k : Int) ∈ vsL a g n := List.mem_map.mpr ⟨k, List.mem_range.mpr h, rfl⟩
theorem mono_g {a g : Int} (h : 0 < g) {i j : Nat} (hij : i < j) : a + g * (i : Int) < a + g * (j : Int) := by
  have := Int.mul_lt_mul_of_pos_left (show (i : Int) < (j : Int) by omega) h
  omega
theorem good_long {a g : Int} {w n : Nat} (ha : 0 ≤ a) (hg : 0 < g) (hw : 0 < w) : Good (vsL a g n) (lsL a g w n) := by
  refine ⟨?_, fun v hv => ?_, fun l hl => ?_, ?_⟩
  · exact List.pairwise_map.mpr (List.pairwise_lt_range.imp fun h => mono_g hg h)
  · obtain ⟨k, _, rfl⟩ := vsL_mem hv
    have := Int.mul_nonneg (Int.le_of_lt hg) (show (0 : Int) ≤ (k : Int) by omega)
    omega
  · obtain ⟨j, hj, rfl⟩ := List.mem_map.mp hl
    have hj2 := List.mem_range.mp hj
    have e : ((w : Int) + (j : Int)) = ((w + j : Nat) : Int) := by omega
    refine ⟨?_, vsL_mem_of (by omega), ?_⟩
    · show a + g * ((w : Int) + (j : Int)) ∈ vsL a g n
      rw [e]
      exact vsL_mem_of (by omega)
    · show a + g * (j : Int) < a + g * ((w : Int) + (j : Int))
      rw [e]
      exact mono_g hg (by omega)
  · refine List.pairwise_map.mpr (List.pairwise_lt_range.imp fun {i j} h => .inl ?_)
    show a + g * ((w : Int) + (i : Int)) < a + g * ((w : Int) + (j : Int))
    have e : ∀ x : Nat, ((w : Int) + (x : Int)) = ((w + x : Nat) : Int) := fun x => by omega
    rw [e, e]
    exact mono_g hg (by omega)
/-! ### a comprehension over a range, its elements changing nothing -/
theorem lc_mapR {lo : Int} {n : Nat} {ys : List V} {g : TG} {tt : TT} {te : TE} {vs : List Nat} {σ : L2.St} {H1 : Hp} {D : Addr} {Qd : Hp → Prop} (hl : ys.length = n) (hz : n ≤ 100000)
    (hs : ∀ (i : Nat) (y : V) (acc : List V) (R : VK), i < n → ys[i]? = some y → R y (upd H1 D (.lst acc)) → g (.int (lo + i)) (wipe σ vs) (upd H1 D (.lst acc)) fun σ2 H2 => wipe σ2 vs = wipe σ vs ∧ tt σ2 H2 fun b H3 => if b = true then te σ2 H3 R else False)
    (hd : Qd (upd H1 D (.lst ys))) (mt : ∀ σ H P P', (∀ b H1, P b H1 → P' b H1) → tt σ H P → tt σ H P') (mg : ∀ v σ H P P', (∀ σ1 H1, P σ1 H1 → P' σ1 H1) → g v σ H P → g v σ H P') :
    ∃ W : Nat → Nat → Hp → Prop, (∃ m, W 0 m (upd H1 D (.lst []))) ∧ ∀ i m H, W i m H →
      ((Itr lo n).stop i H ∧ Qd H) ∨ ((Itr lo n).go i H ∧ ∃ Nx : Hp → Prop, (∀ H', Nx H' → ∃ m', m' < m ∧ W (i + 1) m' H') ∧ ∀ x H', (Itr lo n).yld i H x H' → g x (wipe σ vs) H' fun σ2 H2 => wipe σ2 vs = wipe σ vs ∧ tt σ2 H2 fun b H3 =>
        if b = true then te σ2 H3 fun y H4 => ∃ acc, H4 D = some (.lst acc) ∧ acc.length < sizeLine ∧ Nx (upd H4 D (.lst (acc ++ [y]))) else Nx H3) := by
  refine lc_range (lo := lo) (n := n) (fun i H => H = upd H1 D (.lst (ys.take i))) (by rw [List.take_zero]) (fun i H hi e => ?_) (fun H e => by
    rw [e, List.take_of_length_le (by omega)]
    exact hd)
  subst e
  have hi2 : i < ys.length := by omega
  refine mg _ _ _ _ _ (fun σ1 H2 q => ⟨q.1, mt _ _ _ _ (fun b H3 q2 => ?_) q.2⟩) (hs i ys[i] (ys.take i) (fun y H4 => ∃ acc, H4 D = some (.lst acc) ∧ acc.length < sizeLine ∧ upd H4 D (.lst (acc ++ [y])) = upd H1 D (.lst (ys.take (i + 1)))) hi (List.getElem?_eq_getElem hi2) ⟨ys.take i, upd_same, Nat.lt_of_le_of_lt (by rw [List.length_take]; omega : (ys.take i).length ≤ 100000) (by decide), by rw [upd_upd, List.take_add_one, List.getElem?_eq_getElem hi2]; rfl⟩)
  cases b with
  | true => exact q2
  | false => exact q2.elim
def sp_l_long_shape (_ : PySem.W.Frag) : Sp := fun vs H Q _ => ∃ (c D : Addr) (ns : List Int) (t : Nat) (most : Int), vs = [.ref D, .int most] ∧ Dk c D ns t H ∧ 0 ≤ most ∧ most ≤ 400 ∧ t + 4 < 1000000000 ∧
  ∀ (p q r : Addr) (rs : List Addr) (a g : Int) (w n : Nat) (H' : Hp), Kp D H H' → Dk c D ns (t + 4) H' → H' p = some (.tup [.ref q, .ref r, .int (w : Int)]) → H' q = some (.tup ((vsL a g n).map V.int)) → H' r = some (.tup (rs.map V.ref)) → LkAt H' rs (lsL a g w n) →
    0 ≤ a → a < 1000000 → 1 ≤ g → g ≤ 3 → 1 ≤ w → w ≤ 6 → (n : Int) ≤ most → Q (.ref p) H'
theorem len_l_long_shape {K : PySem.W.Frag} {vs : List V} {H : Hp} {Q : VK} {E : XK} (h : sp_l_long_shape K vs H Q E) : vs.length = 2 := by
  obtain ⟨_, _, _, _, _, rfl, _⟩ := h
  rfl
abbrev N_l_long_shape : List Str := ["_law_deck_here", "_law_most", "_law_first", "_law_gap", "_law_width", "_law_many", "_law_versions", "_law_k", "_law_links"]
def t_l_long_shape_links (K : PySem.W.Frag) : TS := (tSeq (tAsg (tLc (iRng2 (tCons (tVar 4) (tCons (tVar 5) tNil))) (gName 7) tYes (tTup (tCons (tOp (rIx K) (tVar 6) (tVar 7)) (tCons (tOp (rIx K) (tVar 6) (tOp rSubI (tVar 7) (tVar 4))) tNil))) [7]) (gName 8))
    (tRet (tTup (tCons (tCB (fTupleOf K) (tCons (tVar 6) tNil)) (tCons (tCB (fTupleOf K) (tCons (tVar 8) tNil)) (tCons (tVar 4) tNil))))))
def t_l_long_shape (K : PySem.W.Frag) : TS := (tSeq (tAsg (tCall (sp_l_draw K) [] E0 (tCons (tVar 0) (tCons (tOp rPowI (tC (.int 10)) (tC (.int 6))) tNil))) (gName 2))
    (tSeq (tAsg (tOp rAddI (tC (.int 1)) (tCall (sp_l_draw K) [] E0 (tCons (tVar 0) (tCons (tC (.int 3)) tNil)))) (gName 3))
    (tSeq (tAsg (tOp rAddI (tC (.int 1)) (tCall (sp_l_draw K) [] E0 (tCons (tVar 0) (tCons (tC (.int 6)) tNil)))) (gName 4))
    (tSeq (tAsg (tCall (sp_l_draw K) [] E0 (tCons (tVar 0) (tCons (tOp rAddI (tVar 1) (tC (.int 1))) tNil))) (gName 5))
    (tSeq (tAsg (tLc (iRng1 (tCons (tVar 5) tNil)) (gName 7) tYes (tOp rAddI (tVar 2) (tOp rMulI (tVar 3) (tVar 7))) [7]) (gName 6))
    (t_l_long_shape_links K))))))
theorem pow6 : (10 : Int) ^ (6 : Int).toNat = 1000000 := by decide
theorem pure_l_long_shape {K : PySem.W.Frag} {vs : List V} {H : Hp} {Q : VK} {E : XK} (h : sp_l_long_shape K vs H Q E) : t_l_long_shape K { nx := fun _ H' => Q .non H', rt := Q } (start N_l_long_shape vs) H := by
  obtain ⟨c, D, ns, t, most, rfl, dk, m0, m1, ht, k⟩ := h
  refine ⟨_, rfl, _, _, rfl, rfl, ⟨by decide, by decide, by decide⟩, c, D, ns, t, _, rfl, dk, by omega, by rw [pow6]; decide, by rw [pow6]; decide, fun a H1 a0 a1 d1 fr1 => ?_⟩
  rw [pow6] at a1
  refine ⟨_, rfl, c, D, ns, _, 3, rfl, d1, by omega, by decide, by decide, fun g H2 g0 g1 d2 fr2 => ⟨_, _, rfl, rfl, ?_⟩⟩
  refine ⟨_, rfl, c, D, ns, _, 6, rfl, d2, by omega, by decide, by decide, fun w H3 w0 w1 d3 fr3 => ⟨_, _, rfl, rfl, ?_⟩⟩
  refine ⟨_, rfl, _, rfl, _, _, rfl, rfl, c, D, ns, _, most + 1, rfl, d3, by omega, by omega, small100 (by omega), fun n H4 n0 n1 d4 fr4 => ?_⟩
  have k4 : Kp D H H4 := (((Kp.fr fr1).trans (.fr fr2)).trans (.fr fr3)).trans (.fr fr4)
  obtain ⟨N, rfl⟩ := Int.eq_ofNat_of_zero_le n0
  obtain ⟨W, hW⟩ := Int.eq_ofNat_of_zero_le (show 0 ≤ 1 + w by omega)
  have hN : N ≤ 400 := by omega
  have eN : ((N : Int)).toNat = N := by omega
  -- versions = [first + gap * k for k in range(many)]
  refine ⟨_, rfl, _, rfl, by omega, by omega, fun LV nV => ?_⟩
  rw [eN]
  refine lc_mapR (lo := 0) (n := N) (ys := (vsL a (1 + g) N).map V.int) (by rw [List.length_map, vsL_length]) (by omega) (fun i y acc R hi hy r => ?_) ?_ mono_yes mono_gName
  · rw [List.getElem?_map, vsL_get hi] at hy
    cases Option.some.inj hy
    refine ⟨rfl, ⟨_, rfl, _, rfl, _, rfl, _, _, rfl, rfl, .inl ⟨by omega, by omega⟩, _, _, rfl, rfl, ?_⟩⟩
    rw [Int.zero_add]
    exact r
  -- links = [(versions[k], versions[k - width]) for k in range(width, many)]
  have d5 : Dk c D ns (t + 4) (upd H4 LV (.lst ((vsL a (1 + g) N).map V.int))) := d4.upd (d4.neC nV) (d4.neD nV)
  have k5 : Kp D H (upd H4 LV (.lst ((vsL a (1 + g) N).map V.int))) := k4.trans (.new nV)
  show t_l_long_shape_links K _ [some (.ref D), some (.int most), some (.int a), some (.int (1 + g)), some (.int (1 + w)), some (.int (N : Int)), some (.ref LV), none, none] (upd H4 LV (.lst ((vsL a (1 + g) N).map V.int)))
  rw [hW]
  generalize hH5 : upd H4 LV (.lst ((vsL a (1 + g) N).map V.int)) = H5 at *
  have hV5 : H5 LV = some (.lst ((vsL a (1 + g) N).map V.int)) := by rw [← hH5]; exact updS
  refine ⟨_, rfl, _, rfl, _, _, rfl, ⟨by omega, by omega, by omega, by omega⟩, fun LL nL => ?_⟩
  have nVL : LV ≠ LL := ne_of_none hV5 nL
  have eNW : ((N : Int) - (W : Int)).toNat = N - W := by omega
  rw [eNW]
  refine lc_range (lo := (W : Int)) (n := N - W) (fun i H' => ∃ rs : List Addr, Kp D H5 H' ∧ Dk c D ns (t + 4) H' ∧ H' LV = some (.lst ((vsL a (1 + g) N).map V.int)) ∧ H' LL = some (.lst (rs.map V.ref)) ∧ LkAt H' rs ((lsL a (1 + g) W N).take i)) ?_ ?_ ?_
  · exact ⟨[], .new nL, d5.upd (d5.neC nL) (d5.neD nL), updN nVL hV5, updS, rfl, fun i b l h1 _ => by cases h1⟩
  · rintro i H6 hi ⟨rs, k6, d6, hV6, hL6, pr⟩
    have e1 : ((W : Int) + (i : Int)) = ((W + i : Nat) : Int) := by omega
    have e2 : ((W : Int) + (i : Int)) - (W : Int) = ((i : Nat) : Int) := by omega
    have g1 : atI ((vsL a (1 + g) N).map V.int) ((W : Int) + (i : Int)) = some (.int (a + (1 + g) * ((W : Int) + (i : Int)))) := by
      rw [e1]
      exact atI_nat (by rw [List.getElem?_map, vsL_get (by omega)]; rfl)
    have g2 : atI ((vsL a (1 + g) N).map V.int) ((W : Int) + (i : Int) - (W : Int)) = some (.int (a + (1 + g) * (i : Int))) := by
      rw [e2]
      exact atI_nat (by rw [List.getElem?_map, vsL_get (by omega)]; rfl)
    refine ⟨rfl, ⟨_, rfl, _, rfl, ixL hV6 g1 ⟨_, rfl, _, rfl, _, rfl, _, _, rfl, rfl, ixL hV6 g2 ⟨by show (2 : Nat) ≤ sizeLine; decide, fun T nT => ?_⟩⟩⟩⟩
    have nTL : T ≠ LL := (ne_of_none hL6 nT).symm
    have nTV : T ≠ LV := (ne_of_none hV6 nT).symm
    have hlen : rs.length ≤ 400 := by
      rw [pr.1, List.length_take, lsL_length]
      omega
    have ll : (lsL a (1 + g) W N)[i]? = some (a + (1 + g) * ((W : Int) + (i : Int)), a + (1 + g) * (i : Int)) := by
      simp [lsL, hi]
    have nLD : LL ≠ D := d5.neD nL
    have nLC : LL ≠ c := d5.neC nL
    refine ⟨rs.map V.ref, updN nTL.symm hL6, ?_, rs ++ [T], ?_, ?_, ?_, ?_, ?_⟩
    · rw [List.length_map]
      exact Nat.lt_of_le_of_lt (show rs.length ≤ 1000 by omega) (by decide)
    · exact fun b o e n => updN (ne_of_none e nL) (updN (ne_of_none (k6 b o e n) nT) (k6 b o e n))
    · exact (d6.upd (d6.neC nT) (d6.neD nT)).upd nLC nLD
    · exact updN nVL (updN nTV.symm hV6)
    · rw [updS, List.map_append]
      rfl
    · rw [take_snoc ll]
      refine (LkAt.snoc (pr.mono fun b xs h => updN (ne_of_none h nT) h) (l := (a + (1 + g) * ((W : Int) + (i : Int)), a + (1 + g) * (i : Int))) (T := T) updS).mono fun b xs h => updN (fun e => ?_) h
      rw [e, updN nTL.symm hL6] at h
      cases h
  · rintro H6 ⟨rs, k6, d6, hV6, hL6, pr⟩
    rw [List.take_of_length_le (by rw [lsL_length]; omega)] at pr
    refine ⟨_, rfl, LV, _, rfl, .inl ⟨sqL hV6, fun q nq => ?_⟩⟩
    have nqL : q ≠ LL := (ne_of_none hL6 nq).symm
    refine ⟨_, rfl, LL, _, rfl, .inl ⟨sqL (updN nqL.symm hL6), fun r nr => ?_⟩⟩
    have nqr : q ≠ r := fun e => by rw [← e, updS] at nr; cases nr
    have nr6 : H6 r = none := by rw [upd_ne nqr.symm] at nr; exact nr
    refine ⟨_, rfl, by show (3 : Nat) ≤ sizeLine; decide, fun p np => ?_⟩
    have npq : q ≠ p := fun e => by rw [← e, upd_ne nqr, updS] at np; cases np
    have npr : r ≠ p := fun e => by rw [← e, updS] at np; cases np
    have np6 : H6 p = none := by rw [upd_ne npr.symm, upd_ne npq.symm] at np; exact np
    have d7 : Dk c D ns (t + 4) (upd (upd (upd H6 q (.tup ((vsL a (1 + g) N).map V.int))) r (.tup (rs.map V.ref))) p (.tup [.ref q, .ref r, .int (W : Int)])) := ((d6.upd (d6.neC nq) (d6.neD nq)).upd (d6.neC nr6) (d6.neD nr6)).upd (d6.neC np6) (d6.neD np6)
    have up : ∀ b o, H6 b = some o → (upd (upd (upd H6 q (.tup ((vsL a (1 + g) N).map V.int))) r (.tup (rs.map V.ref))) p (.tup [.ref q, .ref r, .int (W : Int)])) b = some o := fun b o e => updN (ne_of_none e np6) (updN (ne_of_none e nr6) (updN (ne_of_none e nq) e))
    exact k p q r rs a (1 + g) W N _ (k5.trans (k6.trans fun b o e _ => up b o e)) d7 updS (updN npq (updN nqr updS)) (updN npr updS) (pr.mono fun b xs h => up _ _ h) a0 a1 (by omega) (by omega) (by omega) (by omega) (by omega)
end Fw

set_option Elab.async false
set_option linter.all false
set_option maxRecDepth 100000
set_option maxHeartbeats 4000000
namespace Fw
open PySem L2 RZ RT
theorem samNw {H : Hp} {q : Addr} {o : HO} (n : H q = none) : Same H (upd H q o) := fun b u e => updN (ne_of_none e n) e
theorem samFr {H H' : Hp} {q : Addr} (s : Same H H') (h : H' q = none) : H q = none := by
  cases e : H q with
  | none => rfl
  | some o => rw [s _ _ e] at h; cases h
/-! ### data beside the deck -/
/-- the value x is the data d, all of it elsewhere than at D, each row of it at most B long -/
inductive An (D : Addr) (B : Nat) (H : Hp) : V → Dt → Prop where
  | non : An D B H .non .non
  | bl (b : Bool) : An D B H (.bl b) (.bl b)
  | int (i : Int) : An D B H (.int i) (.int i)
  | str (z : Str) : An D B H (.str z) (.str z)
  | tup {p : Addr} {xs : List V} {ds : List Dt} (n : p ≠ D) (h : H p = some (.tup xs)) (hz : xs.length ≤ B) (hl : xs.length = ds.length) (ha : ∀ (i : Nat) (x : V) (d : Dt), xs[i]? = some x → ds[i]? = some d → An D B H x d) : An D B H (.ref p) (.tup ds)
  | lst {p : Addr} {xs : List V} {ds : List Dt} (n : p ≠ D) (h : H p = some (.lst xs)) (hz : xs.length ≤ B) (hl : xs.length = ds.length) (ha : ∀ (i : Nat) (x : V) (d : Dt), xs[i]? = some x → ds[i]? = some d → An D B H x d) : An D B H (.ref p) (.lst ds)
  | dct {p : Addr} {kvs : List (Key × V)} (n : p ≠ D) (h : H p = some (.dK kvs)) : An D B H (.ref p) .dct
theorem An.mono {D : Addr} {B B' : Nat} {H H' : Hp} (k : Kp D H H') (hb : B ≤ B') {x : V} {d : Dt} (a : An D B H x d) : An D B' H' x d := by
  induction a with
  | non => exact .non
  | bl b => exact .bl b
  | int i => exact .int i
  | str z => exact .str z
  | tup n h hz hl _ ih => exact .tup n (k _ _ h n) (Nat.le_trans hz hb) hl ih
  | lst n h hz hl _ ih => exact .lst n (k _ _ h n) (Nat.le_trans hz hb) hl ih
  | dct n h => exact .dct n (k _ _ h n)
theorem An.at {D : Addr} {B : Nat} {H : Hp} (hb : B ≤ 100000) {x : V} {d : Dt} (a : An D B H x d) : At H x d := by
  induction a with
  | non => exact .non
  | bl b => exact .bl b
  | int i => exact .int i
  | str z => exact .str z
  | tup n h hz hl _ ih => exact .tup h (Nat.le_trans hz hb) hl ih
  | lst n h hz hl _ ih => exact .lst h (Nat.le_trans hz hb) hl ih
  | dct n h => exact .dct h
def Okd (D : Addr) (B : Nat) (H : Hp) (x : V) : Prop := ∃ d, An D B H x d
theorem Okd.mono {D : Addr} {B B' : Nat} {H H' : Hp} {x : V} (a : Okd D B H x) (k : Kp D H H') (hb : B ≤ B') : Okd D B' H' x := by
  obtain ⟨d, a⟩ := a
  exact ⟨d, a.mono k hb⟩
theorem pick_all {α β : Type} {P : α → β → Prop} : ∀ {xs : List α}, (∀ x ∈ xs, ∃ d, P x d) → ∃ ds : List β, xs.length = ds.length ∧ ∀ (i : Nat) (x : α) (d : β), xs[i]? = some x → ds[i]? = some d → P x d
  | [], _ => ⟨[], rfl, fun i x d h _ => by cases h⟩
  | x :: r, h => by
    obtain ⟨d, hd⟩ := h x List.mem_cons_self
    obtain ⟨ds, hl, hs⟩ := pick_all (xs := r) fun y hy => h y (List.mem_cons_of_mem _ hy)
    refine ⟨d :: ds, by rw [List.length_cons, List.length_cons, hl], fun i y e h1 h2 => ?_⟩
    cases i with
    | zero =>
      cases Option.some.inj h1
      cases Option.some.inj h2
      exact hd
    | succ i => exact hs i y e h1 h2
theorem Okd.tup {D p : Addr} {B : Nat} {H : Hp} {xs : List V} (n : p ≠ D) (h : H p = some (.tup xs)) (hz : xs.length ≤ B) (ha : ∀ x ∈ xs, Okd D B H x) : Okd D B H (.ref p) := by
  obtain ⟨ds, hl, hs⟩ := pick_all ha
  exact ⟨_, .tup n h hz hl hs⟩
theorem Okd.lst {D p : Addr} {B : Nat} {H : Hp} {xs : List V} (n : p ≠ D) (h : H p = some (.lst xs)) (hz : xs.length ≤ B) (ha : ∀ x ∈ xs, Okd D B H x) : Okd D B H (.ref p) := by
  obtain ⟨ds, hl, hs⟩ := pick_all ha
  exact ⟨_, .lst n h hz hl hs⟩
theorem Okd.int {D : Addr} {B : Nat} {H : Hp} (i : Int) : Okd D B H (.int i) := ⟨_, .int i⟩
theorem all_of {D : Addr} {B : Nat} {H : Hp} {xs : List V} {ds : List Dt} (hl : xs.length = ds.length) (ha : ∀ (i : Nat) (x : V) (d : Dt), xs[i]? = some x → ds[i]? = some d → An D B H x d) : ∀ x ∈ xs, Okd D B H x := fun x hx => by
  obtain ⟨i, hi, e⟩ := List.getElem_of_mem hx
  have h2 : i < ds.length := by omega
  exact ⟨_, ha i x _ (List.getElem?_eq_some_iff.mpr ⟨hi, e⟩) (List.getElem?_eq_getElem h2)⟩
/-! ### literals -/
def EvX (D : Addr) (te : TE) : Prop := ∀ (σ : L2.St) (H : Hp) (Q : VK), H D ≠ none → (∀ x H', Same H H' → Okd D 20 H' x → Q x H') → te σ H Q
def EvXs (D : Addr) (ta : TA) (n : Nat) : Prop := ∀ (σ : L2.St) (H : Hp) (Q : List V → Hp → Prop), H D ≠ none → (∀ xs H', Same H H' → xs.length = n → (∀ x ∈ xs, Okd D 20 H' x) → Q xs H') → ta σ H Q
theorem ne_same {D : Addr} {H H' : Hp} (s : Same H H') (h : H D ≠ none) : H' D ≠ none := fun e => by
  cases q : H D with
  | none => exact h q
  | some o => rw [s _ _ q] at e; cases e
theorem ne_new {D p : Addr} {H : Hp} (h : H D ≠ none) (n : H p = none) : p ≠ D := fun e => h (by rw [← e]; exact n)
section
variable {D : Addr}
theorem EvX.non : EvX D (tC .non) := fun σ H Q _ k => k _ _ (Same.refl H) ⟨_, .non⟩
theorem EvX.bl {b : Bool} : EvX D (tC (.bl b)) := fun σ H Q _ k => k _ _ (Same.refl H) ⟨_, .bl b⟩
theorem EvX.int {i : Int} : EvX D (tC (.int i)) := fun σ H Q _ k => k _ _ (Same.refl H) ⟨_, .int i⟩
theorem EvX.neg {i : Int} : EvX D (tUn rNegI (tC (.int i))) := fun σ H Q _ k => ⟨_, rfl, k _ _ (Same.refl H) ⟨_, .int _⟩⟩
theorem EvX.str {z : Str} : EvX D (tC (.str z)) := fun σ H Q _ k => k _ _ (Same.refl H) ⟨_, .str z⟩
theorem EvX.pow : EvX D (tOp rPowI (tC (.int 10)) (tC (.int 30))) := fun σ H Q _ k => ⟨_, _, rfl, rfl, ⟨by decide, by decide, by decide⟩, k _ _ (Same.refl H) ⟨_, .int _⟩⟩
theorem EvX.dnew : EvX D tDNewK := fun σ H Q h k p hp => k _ _ (samNw hp) ⟨_, .dct (ne_new h hp) updS⟩
theorem EvX.disp : EvX D (tDisp ((tC (.int 0), tC (.int 1)) :: [])) := fun σ H Q h k p hp => by
  refine ⟨updS, [(.inl 0, .int 1)], rfl, by decide, ?_⟩
  rw [upd_upd]
  exact k _ _ (samNw hp) ⟨_, .dct (ne_new h hp) updS⟩
theorem EvXs.nil : EvXs D tNil 0 := fun σ H Q _ k => k _ _ (Same.refl H) rfl fun x hx => by cases hx
theorem EvXs.cons {te : TE} {ta : TA} {n : Nat} (h : EvX D te) (r : EvXs D ta n) : EvXs D (tCons te ta) (n + 1) := fun σ H Q hD k => by
  refine h σ H _ hD fun x H1 s1 o1 => r σ H1 _ (ne_same s1 hD) fun xs H2 s2 hl ho => k _ _ (s1.trans s2) (by rw [List.length_cons, hl]) fun y hy => ?_
  rcases List.mem_cons.mp hy with rfl | hy
  · exact o1.mono (Kp.of_same s2) (Nat.le_refl _)
  · exact ho y hy
theorem EvX.tup {ta : TA} {n : Nat} (h : EvXs D ta n) (hn : n ≤ 20) : EvX D (tTup ta) := fun σ H Q hD k => by
  refine h σ H _ hD fun xs H1 s1 hl ho => ⟨Nat.le_trans (by omega : xs.length ≤ 20) (by decide), fun p hp => ?_⟩
  have s2 := samNw (o := .tup xs) hp
  exact k _ _ (s1.trans s2) (.tup (ne_new (ne_same s1 hD) hp) updS (by omega) fun x hx => (ho x hx).mono (Kp.of_same s2) (Nat.le_refl _))
theorem EvX.lst {ta : TA} {n : Nat} (h : EvXs D ta n) (hn : n ≤ 20) : EvX D (tLst ta) := fun σ H Q hD k => by
  refine h σ H _ hD fun xs H1 s1 hl ho => ⟨Nat.le_trans (by omega : xs.length ≤ 20) (by decide), fun p hp => ?_⟩
  have s2 := samNw (o := .lst xs) hp
  exact k _ _ (s1.trans s2) (.lst (ne_new (ne_same s1 hD) hp) updS (by omega) fun x hx => (ho x hx).mono (Kp.of_same s2) (Nat.le_refl _))
end
/-! ### _law_int of any data -/
abbrev sp_l_intA (K : PySem.W.Frag) : Sp := sp_is_int K
theorem len_l_intA {K : PySem.W.Frag} {vs : List V} {H : Hp} {Q : VK} {E : XK} (h : sp_l_intA K vs H Q E) : vs.length = 1 := len_is_int h
theorem pure_l_intA {K : PySem.W.Frag} {vs : List V} {H : Hp} {Q : VK} {E : XK} (h : sp_l_intA K vs H Q E) : t_l_int K { nx := fun _ H' => Q .non H', rt := Q } (start N_l_int vs) H := pure_is_int h
/-! ### _law_odd -/
def sp_l_odd (_ : PySem.W.Frag) : Sp := fun vs H Q _ => ∃ (c D : Addr) (ns : List Int) (t : Nat), vs = [.ref D] ∧ Dk c D ns t H ∧ t < 1000000 ∧ ∀ x H', Kp D H H' → Dk c D ns (t + 1) H' → Okd D 20 H' x → Q x H'
abbrev N_l_odd : List Str := ["_law_deck_here", "_law_some"]
def t_l_odd_c (K : PySem.W.Frag) : TS := (tRet (tOp (rIx K) (tVar 1) (tCall (sp_l_draw K) [] E0 (tCons (tVar 0) (tCons (tCB (fLen K) (tCons (tVar 1) tNil)) tNil)))))
def t_l_odd_b (K : PySem.W.Frag) : TS := (tSeq (tAsg (tOp rCat (tVar 1) (tLst (tCons (tTup (tCons (tTup tNil) (tCons (tTup tNil) tNil))) (tCons (tTup (tCons (tTup (tCons (tC (.int 0)) (tCons (tC (.int 1)) tNil))) (tCons (tTup (tCons (tTup (tCons (tC (.int 1)) (tCons (tC (.int 0)) tNil))) tNil)) tNil))) (tCons (tTup (tCons (tTup (tCons (tC (.int 0)) tNil)) (tCons (tTup (tCons (tC (.int 0)) tNil)) tNil))) (tCons (tDisp (((tC (.int 0)), (tC (.int 1))) :: [])) (tCons (tTup (tCons (tTup (tCons (tC (.int 0)) (tCons (tTup (tCons (tC (.int 0)) tNil)) tNil))) tNil)) (tCons (tTup (tCons (tTup (tCons (tTup (tCons (tTup (tCons (tTup (tCons (tTup (tCons (tTup (tCons (tTup (tCons (tTup (tCons (tTup (tCons (tC (.int 0)) tNil)) tNil)) tNil)) tNil)) tNil)) tNil)) tNil)) tNil)) tNil)) tNil)) tNil)))))))) (gName 1))
    (t_l_odd_c K))
def t_l_odd (K : PySem.W.Frag) : TS := (tSeq (tAsg (tLst (tCons (tC .non) (tCons (tC (.bl true)) (tCons (tC (.bl false)) (tCons (tUn rNegI (tC (.int 1))) (tCons (tC (.int 0)) (tCons (tC (.int 1)) (tCons (tOp rPowI (tC (.int 10)) (tC (.int 30))) (tCons (tC (.str "")) (tCons (tC (.str "a")) (tCons (tC (.str "held")) (tCons (tC (.str "lacks")) (tCons (tTup tNil) (tCons (tLst tNil) (tCons tDNewK (tCons (tTup (tCons (tC (.int 0)) tNil)) (tCons (tTup (tCons (tC (.int 0)) (tCons (tC (.int 1)) tNil))) (tCons (tLst (tCons (tC (.int 0)) tNil)) (tCons (tTup (tCons (tTup tNil) tNil)) tNil))))))))))))))))))) (gName 1))
    (t_l_odd_b K))
theorem len_l_odd {K : PySem.W.Frag} {vs : List V} {H : Hp} {Q : VK} {E : XK} (h : sp_l_odd K vs H Q E) : vs.length = 1 := by
  obtain ⟨_, _, _, _, rfl, _⟩ := h
  rfl
theorem dk_some {c D : Addr} {ns : List Int} {t : Nat} {H : Hp} (d : Dk c D ns t H) : H D ≠ none := fun e => by
  obtain ⟨xs, h⟩ := d.someD
  rw [h] at e
  cases e
theorem Dk.kp {c D : Addr} {ns : List Int} {t : Nat} {H H' : Hp} (d : Dk c D ns t H) (s : Same H H') : Dk c D ns t H' := by
  obtain ⟨x1, x2, x3, i, n, u, x4, r⟩ := d
  exact ⟨x1, s _ _ x2, x3, i, n, u, s _ _ x4, r⟩
theorem lst_set {D : Addr} {ta : TA} {n : Nat} {g : TG} {E : Ends} {σ : L2.St} {H : Hp} (h : EvXs D ta n) (hn : n ≤ 20) (hD : H D ≠ none) (k : ∀ xs p H', Same H H' → H p = none → H' p = some (.lst xs) → xs.length = n → (∀ x ∈ xs, Okd D 20 H' x) → g (.ref p) σ H' E.nx) : tAsg (tLst ta) g E σ H := by
  refine h σ H _ hD fun xs H1 s1 hl ho => ⟨Nat.le_trans (by omega : xs.length ≤ 20) (by decide), fun p hp => ?_⟩
  have s2 := samNw (o := .lst xs) hp
  exact k xs p _ (s1.trans s2) (samFr s1 hp) updS hl fun x hx => (ho x hx).mono (Kp.of_same s2) (Nat.le_refl _)
theorem pure_l_odd {K : PySem.W.Frag} {vs : List V} {H : Hp} {Q : VK} {E : XK} (h : sp_l_odd K vs H Q E) : t_l_odd K { nx := fun _ H' => Q .non H', rt := Q } (start N_l_odd vs) H := by
  obtain ⟨c, D, ns, t, rfl, dk, ht, k⟩ := h
  have hD := dk_some dk
  unfold t_l_odd
  refine lst_set (D := D) (n := 18) (by repeat' (first | exact EvX.non | exact EvX.bl | exact EvX.int | exact EvX.neg | exact EvX.str | exact EvX.pow | exact EvX.dnew | exact EvX.disp | exact EvXs.nil | apply EvXs.cons | apply EvX.tup | apply EvX.lst | decide)) (by decide) hD fun xs p H1 s1 np hp hl ho => ?_
  have hpD : p ≠ D := dk.neD np
  show t_l_odd_b K { nx := fun _ H' => Q .non H', rt := Q } [some (.ref D), some (.ref p)] H1
  unfold t_l_odd_b
  refine ⟨_, rfl, ?_⟩
  have lit : ∀ ta : TA, EvXs D ta 6 → ∀ R : VK, (∀ ys q H2, Same H1 H2 → H1 q = none → H2 q = some (.lst ys) → ys.length = 6 → (∀ x ∈ ys, Okd D 20 H2 x) → R (.ref q) H2) → tLst ta [some (V.ref D), some (V.ref p)] H1 R := fun ta h R kk => by
    refine h _ H1 _ (ne_same s1 hD) fun ys H2 s2 hl ho => ⟨Nat.le_trans (by omega : ys.length ≤ 20) (by decide), fun q hq => ?_⟩
    have s3 := samNw (o := .lst ys) hq
    exact kk ys q _ (s2.trans s3) (samFr s2 hq) updS hl fun x hx => (ho x hx).mono (Kp.of_same s3) (Nat.le_refl _)
  refine lit _ (by repeat' (first | exact EvX.non | exact EvX.bl | exact EvX.int | exact EvX.neg | exact EvX.str | exact EvX.pow | exact EvX.dnew | exact EvX.disp | exact EvXs.nil | apply EvXs.cons | apply EvX.tup | apply EvX.lst | decide)) _ fun ys q H2 s2 nq hq hl2 ho2 => ?_
  refine ⟨p, q, xs, ys, rfl, rfl, s2 _ _ hp, hq, Nat.le_trans (by omega : xs.length + ys.length ≤ 100) (by decide), fun r nr => ?_⟩
  have s3 := samNw (o := .lst (xs ++ ys)) nr
  have d3 : Dk c D ns t (upd H2 r (.lst (xs ++ ys))) := dk.kp ((s1.trans s2).trans s3)
  have hrD : r ≠ D := (dk.kp (s1.trans s2)).neD nr
  show t_l_odd_c K { nx := fun _ H' => Q .non H', rt := Q } [some (.ref D), some (.ref r)] _
  have hall : ∀ x ∈ xs ++ ys, Okd D 20 (upd H2 r (.lst (xs ++ ys))) x := fun x hx => by
    rcases List.mem_append.mp hx with hx | hx
    · exact (ho x hx).mono (Kp.of_same (s2.trans s3)) (Nat.le_refl _)
    · exact (ho2 x hx).mono (Kp.of_same s3) (Nat.le_refl _)
  have hlen : (xs ++ ys).length = 24 := by rw [List.length_append, hl, hl2]
  refine ⟨_, rfl, _, rfl, _, rfl, lenL updS ⟨c, D, ns, t, _, rfl, d3, by omega, ?_, small100 ?_, fun v H4 v0 v1 d4 fr4 => ?_⟩⟩
  · rw [hlen]; decide
  · rw [hlen]; decide
  · rw [hlen] at v1
    obtain ⟨m, rfl⟩ := Int.eq_ofNat_of_zero_le v0
    have hm : m < (xs ++ ys).length := by omega
    refine ixL (by rw [fr4 _ hrD]; exact updS) (atI_nat (List.getElem?_eq_getElem hm)) ?_
    exact k _ _ ((Kp.of_same ((s1.trans s2).trans s3)).trans (Kp.fr fr4)) d4 ((hall _ (List.getElem_mem hm)).mono (Kp.fr fr4) (Nat.le_refl _))
end Fw

set_option Elab.async false
set_option linter.all false
set_option maxRecDepth 100000
set_option maxHeartbeats 4000000
namespace Fw
open PySem L2 RZ RT
/-! ### slices and sums of tuples beside the deck -/
section
variable {K : PySem.W.Frag} {D a b : Addr} {H : Hp} {xs ys : List V} {Q : VK}
theorem sl_step {lo hi : Option Int} (na : a ≠ D) (hD : H D ≠ none) (h : H a = some (.tup xs)) (k : ∀ q zs H', Same H H' → q ≠ D → H' q = some (.tup zs) → zs.length ≤ HT.sIx xs.length xs.length hi - HT.sIx xs.length 0 lo → (∀ y ∈ zs, y ∈ xs) → Q (.ref q) H') : rSlA K (.ref a) lo hi H Q := by
  refine ⟨a, xs, rfl, sqT h, fun e => k a xs H (Same.refl H) na h (by rw [e.1, e.2]; exact Nat.le_refl _) fun y hy => hy, fun _ p np => k p _ _ (samNw np) (ne_new hD np) updS ?_ fun y hy => ?_⟩
  · unfold cutV
    rw [List.length_take]
    exact Nat.min_le_left _ _
  · unfold cutV at hy
    exact List.mem_of_mem_drop (List.mem_of_mem_take hy)
theorem sl_stepN {lo : Option Int} {σ : L2.St} (na : a ≠ D) (hD : H D ≠ none) (h : H a = some (.tup xs)) (k : ∀ q zs H', Same H H' → q ≠ D → H' q = some (.tup zs) → zs.length ≤ HT.sIx xs.length xs.length none - HT.sIx xs.length 0 lo → (∀ y ∈ zs, y ∈ xs) → Q (.ref q) H') : tNoPart σ H fun u H3 => rSlA K (.ref a) lo u H3 Q := sl_step na hD h k
theorem cat_step (na : a ≠ D) (nb : b ≠ D) (hD : H D ≠ none) (ha : H a = some (.tup xs)) (hb : H b = some (.tup ys)) (hz : xs.length + ys.length ≤ 1000) (k : ∀ q H', Same H H' → q ≠ D → H' q = some (.tup (xs ++ ys)) → Q (.ref q) H') : rCatA K (.ref a) (.ref b) H Q := by
  refine ⟨a, b, xs, ys, rfl, rfl, sqT ha, sqT hb, Nat.le_trans hz (by decide), fun e => k b H (Same.refl H) nb (by rw [e]; exact hb), fun _ e => k a H (Same.refl H) na (by rw [e, List.append_nil]; exact ha), fun _ _ p np => k p _ (samNw np) (ne_new hD np) updS⟩
end
/-! ### _law_bent -/
def sp_bentN (_ : PySem.W.Frag) (n : Nat) : Sp := fun vs H Q _ => ∃ (c D : Addr) (ns : List Int) (t : Nat) (x : V) (B : Nat), vs = [.ref D, x, .int ((n : Int) - 1)] ∧ 0 < n ∧ Dk c D ns t H ∧ t + 3 * n < 1000000 ∧ Okd D B H x ∧ 20 ≤ B ∧ B ≤ 100 ∧
  ∀ x' H', Kp D H H' → Dk c D ns (t + 3 * n) H' → Okd D (B + 1) H' x' → Q x' H'
abbrev sp_l_bent (K : PySem.W.Frag) : Sp := sp_bentN K 4
theorem len_bentN {K : PySem.W.Frag} {n : Nat} {vs : List V} {H : Hp} {Q : VK} {E : XK} (h : sp_bentN K n vs H Q E) : vs.length = 3 := by
  obtain ⟨_, _, _, _, _, _, rfl, _⟩ := h
  rfl
abbrev N_l_bent : List Str := ["_law_deck_here", "_law_thing", "_law_depth", "_law_road", "_law_at"]
def t_l_bent_odd (K : PySem.W.Frag) (n : Nat) : TS := (tRet (tCall (sp_l_odd K) [] E0 (tCons (tVar 0) tNil)))
def t_l_bent_fst (K : PySem.W.Frag) (n : Nat) : TS := (tSeq (tIfS (tAnd (tB (tCall (sp_l_intA K) [] E0 (tCons (tVar 1) tNil))) (tTest (tOp rGtI (tVar 3) (tC (.int 2))))) (tRet (tOp rAddI (tVar 1) (tOp (rIx K) (tLst (tCons (tUn rNegI (tC (.int 1))) (tCons (tC (.int 1)) (tCons (tC (.int 2)) (tCons (tUn rNegI (tC (.int 2))) (tCons (tOp rSubI (tUn rNegI (tVar 1)) (tC (.int 1))) tNil)))))) (tCall (sp_l_draw K) [] E0 (tCons (tVar 0) (tCons (tC (.int 5)) tNil)))))) tNext)
    (t_l_bent_odd K n))
def t_l_bent_last (K : PySem.W.Frag) (n : Nat) : TS := (tRet (tOp (rCatA K) (tOp (rCatA K) (tSl (rSlA K) (tVar 1) tNoPart (tPart (tVar 4))) (tTup (tCons (tCall (sp_bentN K n) [] E0 (tCons (tVar 0) (tCons (tOp (rIx K) (tVar 1) (tVar 4)) (tCons (tOp rSubI (tVar 2) (tC (.int 1))) tNil)))) tNil))) (tSl (rSlA K) (tVar 1) (tPart (tOp rAddI (tVar 4) (tC (.int 1)))) tNoPart)))
def t_l_bent_four (K : PySem.W.Frag) (n : Nat) : TS := (tSeq (tIfS (tTest (tOp rEq (tVar 3) (tC (.int 4)))) (tRet (tOp (rCatA K) (tOp (rCatA K) (tOp (rCatA K) (tSl (rSlA K) (tVar 1) tNoPart (tPart (tVar 4))) (tSl (rSlA K) (tVar 1) (tPart (tOp rAddI (tVar 4) (tC (.int 1)))) (tPart (tOp rAddI (tVar 4) (tC (.int 2)))))) (tTup (tCons (tOp (rIx K) (tVar 1) (tVar 4)) tNil))) (tSl (rSlA K) (tVar 1) (tPart (tOp rAddI (tVar 4) (tC (.int 2)))) tNoPart))) tNext)
    (t_l_bent_last K n))
def t_l_bent_three (K : PySem.W.Frag) (n : Nat) : TS := (tSeq (tIfS (tTest (tOp rEq (tVar 3) (tC (.int 3)))) (tRet (tOp (rCatA K) (tSl (rSlA K) (tVar 1) tNoPart (tPart (tOp rAddI (tVar 4) (tC (.int 1))))) (tSl (rSlA K) (tVar 1) (tPart (tVar 4)) tNoPart))) tNext)
    (t_l_bent_four K n))
def t_l_bent_two (K : PySem.W.Frag) (n : Nat) : TS := (tSeq (tIfS (tTest (tOp rEq (tVar 3) (tC (.int 2)))) (tRet (tOp (rCatA K) (tSl (rSlA K) (tVar 1) tNoPart (tPart (tVar 4))) (tSl (rSlA K) (tVar 1) (tPart (tOp rAddI (tVar 4) (tC (.int 1)))) tNoPart))) tNext)
    (t_l_bent_three K n))
def t_l_bent_at (K : PySem.W.Frag) (n : Nat) : TS := (tSeq (tAsg (tCall (sp_l_draw K) [] E0 (tCons (tVar 0) (tCons (tCB (fLen K) (tCons (tVar 1) tNil)) tNil))) (gName 4))
    (t_l_bent_two K n))
def t_l_bent_len (K : PySem.W.Frag) (n : Nat) : TS := (tSeq (tIfS (tTest (tOp rEq (tCB (fLen K) (tCons (tVar 1) tNil)) (tC (.int 0)))) (tRet (tTup (tCons (tCall (sp_l_odd K) [] E0 (tCons (tVar 0) tNil)) tNil))) tNext)
    (t_l_bent_at K n))
def t_l_bent_one (K : PySem.W.Frag) (n : Nat) : TS := (tSeq (tIfS (tTest (tOp rEq (tVar 3) (tC (.int 1)))) (tRet (tCB (fListOf K) (tCons (tVar 1) tNil))) tNext)
    (t_l_bent_len K n))
def t_l_bent (K : PySem.W.Frag) (n : Nat) : TS := (tSeq (tAsg (tCall (sp_l_draw K) [] E0 (tCons (tVar 0) (tCons (tC (.int 8)) tNil))) (gName 3))
    (tSeq (tIfS (tOr (tTest (tOp rEq (tVar 2) (tC (.int 0)))) (tOr (tTest (tOp rEq (tVar 3) (tC (.int 0)))) (tNot (tB (tCB (rIsi K) (tCons (tVar 1) (tCons (tC (.ty "tuple")) tNil))))))) (t_l_bent_fst K n) tNext)
    (t_l_bent_one K n)))
theorem pick5 {w a b c d e : Int} (h0 : 0 ≤ w) (h1 : w < 5) : ∃ m : Int, atI [V.int a, .int b, .int c, .int d, .int e] w = some (.int m) := by
  have : w = 0 ∨ w = 1 ∨ w = 2 ∨ w = 3 ∨ w = 4 := by omega
  rcases this with rfl | rfl | rfl | rfl | rfl
  · exact ⟨_, rfl⟩
  · exact ⟨_, rfl⟩
  · exact ⟨_, rfl⟩
  · exact ⟨_, rfl⟩
  · exact ⟨_, rfl⟩
theorem pure_l_bent {K : PySem.W.Frag} {n : Nat} {vs : List V} {H : Hp} {Q : VK} {E : XK} (h : sp_bentN K (n + 1) vs H Q E) : t_l_bent K n { nx := fun _ H' => Q .non H', rt := Q } (start N_l_bent vs) H := by
  obtain ⟨c, D, ns, t, x, B, rfl, _, dk, ht, o, hB0, hB1, k⟩ := h
  refine ⟨_, rfl, c, D, ns, t, 8, rfl, dk, by omega, by decide, by decide, fun road H1 r0 r1 d1 fr1 => ?_⟩
  have k1 : Kp D H H1 := Kp.fr fr1
  have o1 := o.mono k1 (Nat.le_refl _)
  obtain ⟨d, a1⟩ := o1
  have at1 : At H1 x d := a1.at (by omega)
  have hD1 := dk_some d1
  have odd : ∀ X : L2.St → Hp → Prop, t_l_bent_odd K n { nx := X, rt := Q } [some (.ref D), some x, some (.int (((n + 1 : Nat) : Int) - 1)), some (.int road), none] H1 := fun X =>
    ⟨_, rfl, c, D, ns, t + 1, rfl, d1, by omega, fun y H2 k2 d2 oy => k y H2 (k1.trans k2) (d2.le (by omega)) (oy.mono (Kp.refl _ _) (by omega))⟩
  have fst : ∀ X : L2.St → Hp → Prop, t_l_bent_fst K n { nx := X, rt := Q } [some (.ref D), some x, some (.int (((n + 1 : Nat) : Int) - 1)), some (.int road), none] H1 := by
    intro X
    refine ⟨_, rfl, x, d, rfl, at1, _, rfl, ?_⟩
    cases d with
    | int i =>
      have ex := at1.int_inv
      subst ex
      refine iteT ⟨_, rfl, _, _, rfl, rfl, _, rfl, ite2 (fun e => ?_) (fun e => odd X)⟩
      refine ⟨_, rfl, _, rfl, _, rfl, _, rfl, _, rfl, _, _, rfl, rfl, (by show (5 : Nat) ≤ sizeLine; decide), fun L nL => ?_⟩
      have nLD := d1.neD nL
      refine ⟨_, rfl, c, D, ns, t + 1, 5, rfl, d1.upd (d1.neC nL) nLD, by omega, by decide, by decide, fun v H2 v0 v1 d2 fr2 => ?_⟩
      obtain ⟨m, hm⟩ := pick5 (a := -1) (b := 1) (c := 2) (d := -2) (e := -i - 1) v0 v1
      refine ixL (by rw [fr2 _ nLD]; exact updS) hm ⟨_, _, rfl, rfl, ?_⟩
      exact k _ _ (k1.trans ((Kp.new nL).trans (Kp.fr fr2))) (d2.le (by omega)) (.int _)
    | _ => exact iteF (odd X)
  by_cases hT : isTupD d = true
  · cases d with
    | tup ds =>
      cases a1 with
      | @tup p xs _ np hp hz hl ha =>
      have hall : ∀ y ∈ xs, Okd D B H1 y := all_of hl ha
      -- a tuple zs made of these and others
      have fin : ∀ (q : Addr) (zs : List V) (H' : Hp) (t' : Nat), Kp D H1 H' → q ≠ D → H' q = some (.tup zs) → zs.length ≤ B + 1 → (∀ y ∈ zs, y ∈ xs ∨ Okd D (B + 1) H' y) → Dk c D ns t' H' → t' ≤ t + 3 * (n + 1) → Q (.ref q) H' := by
        intro q zs H' t' kk nq hq hz' hy dd ht'
        refine k _ _ (k1.trans kk) (dd.le ht') (.tup nq hq hz' fun y my => ?_)
        rcases hy y my with h | h
        · exact (hall y h).mono kk (by omega)
        · exact h
      have body : 0 < n → t_l_bent_one K n { nx := fun _ H' => Q .non H', rt := Q } [some (.ref D), some (.ref p), some (.int (((n + 1 : Nat) : Int) - 1)), some (.int road), none] H1 := by
        intro hn
        -- list(thing)
        refine ⟨_, rfl, rfl, _, rfl, ite2 (fun e => ?_) (fun e => ?_)⟩
        · refine ⟨_, rfl, p, xs, rfl, .inr (sqT hp), fun l nl => ?_⟩
          have nlD := d1.neD nl
          exact k _ _ (k1.trans (Kp.new nl)) ((d1.upd (d1.neC nl) nlD).le (by omega)) (.lst nlD updS (by omega) fun y hy => (hall y hy).mono (Kp.new nl) (by omega))
        -- an empty one
        refine ⟨_, rfl, lenT hp ⟨rfl, _, rfl, ite2 (fun e => ?_) (fun e => ?_)⟩⟩
        · refine ⟨_, rfl, c, D, ns, t + 1, rfl, d1, by omega, fun y H2 k2 d2 oy => ⟨by show (1 : Nat) ≤ sizeLine; decide, fun q nq => ?_⟩⟩
          have nqD := d2.neD nq
          refine fin q [y] _ (t + 1 + 1) (k2.trans (Kp.new nq)) nqD updS (by show (1 : Nat) ≤ B + 1; omega) (fun z hz => .inr ?_) (d2.upd (d2.neC nq) nqD) (by omega)
          rw [List.mem_singleton.mp hz]
          exact oy.mono (Kp.new nq) (by omega)
        have hpos : 0 < xs.length := by
          cases xs with
          | nil => exact absurd rfl e
          | cons _ _ => exact Nat.succ_pos _
        -- a place
        refine ⟨_, rfl, _, rfl, lenT hp ⟨c, D, ns, t + 1, _, rfl, d1, by omega, by omega, small100 (by omega), fun v H2 v0 v1 d2 fr2 => ?_⟩⟩
        obtain ⟨m, rfl⟩ := Int.eq_ofNat_of_zero_le v0
        have hm : m < xs.length := by omega
        have k2 : Kp D H1 H2 := Kp.fr fr2
        have hp2 : H2 p = some (.tup xs) := k2 _ _ hp np
        have hD2 := dk_some d2
        have s1 : ∀ d : Nat, HT.sIx xs.length d (some ((m : Int) + 1)) = min (m + 1) xs.length := fun d => HT.sIx_nat xs.length d (m + 1)
        have s2 : ∀ d : Nat, HT.sIx xs.length d (some ((m : Int) + 2)) = min (m + 2) xs.length := fun d => HT.sIx_nat xs.length d (m + 2)
        have s0 : ∀ d : Nat, HT.sIx xs.length d (some (m : Int)) = min m xs.length := fun d => HT.sIx_nat xs.length d m
        have sn : ∀ d : Nat, HT.sIx xs.length d none = d := fun d => HT.sIx_none xs.length d
        have dkp : ∀ {H' : Hp}, Same H2 H' → Dk c D ns (t + 1 + 1) H' := fun s => d2.kp s
        -- one left out
        refine ⟨_, rfl, rfl, _, rfl, ite2 (fun e => ?_) (fun e => ?_)⟩
        · refine ⟨_, rfl, _, rfl, _, rfl, sl_step np hD2 hp2 fun q zs H3 w3 nq hq hlq mq => ?_⟩
          refine ⟨_, rfl, _, rfl, _, _, rfl, rfl, _, rfl, sl_stepN np (ne_same w3 hD2) (w3 _ _ hp2) fun q2 zs2 H4 w4 nq2 hq2 hlq2 mq2 => ?_⟩
          rw [s0, sn] at hlq
          rw [s1, sn] at hlq2
          refine cat_step nq nq2 (ne_same (w3.trans w4) hD2) (w4 _ _ hq) hq2 (by omega) fun r H5 w5 nr hr => ?_
          refine fin r _ H5 _ (k2.trans (Kp.of_same ((w3.trans w4).trans w5))) nr hr ?_ (fun y hy => .inl ?_) (dkp ((w3.trans w4).trans w5)) (by omega)
          · rw [List.length_append]
            omega
          · rcases List.mem_append.mp hy with hy | hy
            · exact mq y hy
            · exact mq2 y hy
        -- one twice
        refine ⟨_, rfl, rfl, _, rfl, ite2 (fun e => ?_) (fun e => ?_)⟩
        · refine ⟨_, rfl, _, rfl, _, _, rfl, rfl, _, rfl, sl_step np hD2 hp2 fun q zs H3 w3 nq hq hlq mq => ?_⟩
          refine ⟨_, rfl, _, rfl, _, rfl, sl_stepN np (ne_same w3 hD2) (w3 _ _ hp2) fun q2 zs2 H4 w4 nq2 hq2 hlq2 mq2 => ?_⟩
          rw [s1, sn] at hlq
          rw [s0, sn] at hlq2
          refine cat_step nq nq2 (ne_same (w3.trans w4) hD2) (w4 _ _ hq) hq2 (by omega) fun r H5 w5 nr hr => ?_
          refine fin r _ H5 _ (k2.trans (Kp.of_same ((w3.trans w4).trans w5))) nr hr ?_ (fun y hy => .inl ?_) (dkp ((w3.trans w4).trans w5)) (by omega)
          · rw [List.length_append]
            omega
          · rcases List.mem_append.mp hy with hy | hy
            · exact mq y hy
            · exact mq2 y hy
        have hat : atI xs (m : Int) = some xs[m] := atI_nat (List.getElem?_eq_getElem hm)
        -- two turned about
        refine ⟨_, rfl, rfl, _, rfl, ite2 (fun e => ?_) (fun e => ?_)⟩
        · refine ⟨_, rfl, _, rfl, _, rfl, sl_step np hD2 hp2 fun q zs H3 w3 nq hq hlq mq => ?_⟩
          refine ⟨_, rfl, _, rfl, _, _, rfl, rfl, _, rfl, _, rfl, _, _, rfl, rfl, _, rfl, sl_step np (ne_same w3 hD2) (w3 _ _ hp2) fun q2 zs2 H4 w4 nq2 hq2 hlq2 mq2 => ?_⟩
          rw [s0, sn] at hlq
          rw [s1, s2] at hlq2
          refine cat_step nq nq2 (ne_same (w3.trans w4) hD2) (w4 _ _ hq) hq2 (by omega) fun r H5 w5 nr hr => ?_
          have w25 := (w3.trans w4).trans w5
          refine ⟨_, rfl, _, rfl, ixT (w25 _ _ hp2) hat ⟨by show (1 : Nat) ≤ sizeLine; decide, fun u nu => ?_⟩⟩
          have w6 := samNw (o := .tup [xs[m]]) nu
          have nuD := ne_new (ne_same w25 hD2) nu
          have w26 := w25.trans w6
          refine cat_step nr nuD (ne_same w26 hD2) (w6 _ _ hr) updS (by rw [List.length_append]; show _ + 1 ≤ _; omega) fun v H7 w7 nv hv => ?_
          have w27 := w26.trans w7
          refine ⟨_, rfl, _, rfl, _, _, rfl, rfl, _, rfl, sl_stepN np (ne_same w27 hD2) (w27 _ _ hp2) fun q3 zs3 H8 w8 nq3 hq3 hlq3 mq3 => ?_⟩
          rw [s2, sn] at hlq3
          have w28 := w27.trans w8
          refine cat_step nv nq3 (ne_same w28 hD2) (w8 _ _ hv) hq3 (by rw [List.length_append, List.length_append]; show _ + 1 + _ ≤ _; omega) fun g H9 w9 ng hg => ?_
          refine fin g _ H9 _ (k2.trans (Kp.of_same (w28.trans w9))) ng hg ?_ (fun y hy => .inl ?_) (dkp (w28.trans w9)) (by omega)
          · rw [List.length_append, List.length_append, List.length_append]
            show _ + 1 + _ ≤ _
            omega
          · rcases List.mem_append.mp hy with hy | hy
            · rcases List.mem_append.mp hy with hy | hy
              · rcases List.mem_append.mp hy with hy | hy
                · exact mq y hy
                · exact mq2 y hy
              · rw [List.mem_singleton.mp hy]
                exact List.getElem_mem hm
            · exact mq3 y hy
        -- one bent
        refine ⟨_, rfl, _, rfl, _, rfl, sl_step np hD2 hp2 fun q zs H3 w3 nq hq hlq mq => ?_⟩
        rw [s0, sn] at hlq
        have k3 : Kp D H1 H3 := k2.trans (Kp.of_same w3)
        refine ⟨_, rfl, _, rfl, _, rfl, ixT (w3 _ _ hp2) hat ⟨_, rfl, _, _, rfl, rfl, c, D, ns, t + 1 + 1, xs[m], B, ?_, hn, dkp w3, by omega, (hall _ (List.getElem_mem hm)).mono k3 (Nat.le_refl _), hB0, hB1, fun y H4 k4 d4 oy => ?_⟩⟩
        · show [V.ref D, xs[m], V.int (((n + 1 : Nat) : Int) - 1 - 1)] = _
          rw [show (((n + 1 : Nat) : Int) - 1 - 1) = (n : Int) - 1 by omega]
        have hD4 := dk_some d4
        refine ⟨by show (1 : Nat) ≤ sizeLine; decide, fun u nu => ?_⟩
        have nuD := d4.neD nu
        have w5 := samNw (o := .tup [y]) nu
        refine cat_step nq nuD (ne_same w5 hD4) (w5 _ _ (k4 _ _ hq nq)) updS (by show _ + 1 ≤ _; omega) fun v H6 w6 nv hv => ?_
        have w46 := w5.trans w6
        refine ⟨_, rfl, _, rfl, _, _, rfl, rfl, _, rfl, sl_stepN np (ne_same w46 hD4) (w46 _ _ (k4 _ _ (w3 _ _ hp2) np)) fun q3 zs3 H7 w7 nq3 hq3 hlq3 mq3 => ?_⟩
        rw [s1, sn] at hlq3
        have w47 := w46.trans w7
        refine cat_step nv nq3 (ne_same w47 hD4) (w7 _ _ hv) hq3 (by rw [List.length_append]; show _ + 1 + _ ≤ _; omega) fun g H8 w8 ng hg => ?_
        have w48 := w47.trans w8
        refine fin g _ H8 _ (k3.trans (k4.trans (Kp.of_same w48))) ng hg ?_ (fun y' hy => ?_) (d4.kp w48) (by omega)
        · rw [List.length_append, List.length_append]
          show _ + 1 + _ ≤ _
          omega
        · rcases List.mem_append.mp hy with hy | hy
          · rcases List.mem_append.mp hy with hy | hy
            · exact .inl (mq y' hy)
            · rw [List.mem_singleton.mp hy]
              exact .inr (oy.mono (Kp.of_same w48) (Nat.le_refl _))
          · exact .inl (mq3 y' hy)
      refine ⟨_, rfl, rfl, _, rfl, ite2 (fun e => fst _) (fun e => ?_)⟩
      refine ⟨_, rfl, rfl, _, rfl, ite2 (fun e2 => fst _) (fun e2 => ?_)⟩
      refine ⟨_, rfl, isiTup at1 ⟨_, rfl, ?_⟩⟩
      refine body ?_
      cases n with
      | zero => exact absurd rfl e
      | succ n => exact Nat.succ_pos _
    | _ => cases hT
  · have hF : isTupD d = false := Bool.eq_false_iff.mpr hT
    refine ⟨_, rfl, rfl, _, rfl, ite2 (fun e => fst _) (fun e => ?_)⟩
    refine ⟨_, rfl, rfl, _, rfl, ite2 (fun e => fst _) (fun e => ?_)⟩
    refine ⟨_, rfl, isiTup at1 ⟨_, rfl, ?_⟩⟩
    rw [hF]
    exact fst _
end Fw

set_option Elab.async false
set_option linter.all false
set_option maxRecDepth 100000
set_option maxHeartbeats 4000000
namespace Fw
open PySem L2 RZ RT
/-! ### what the law finds a shape -/
def risG : Int → List Dt → Bool
  | _, [] => true
  | l, .int i :: r => decide (l < i) && risG i r
  | _, _ :: _ => false
def risD : Dt → Bool
  | .tup ds => risG (-1) ds
  | _ => false
def lkG (ns : List Int) : Int → Int → List Dt → Bool
  | _, _, [] => true
  | a, b, .tup [.int u, .int v] :: r => (ns.contains u && (ns.contains v && decide (v < u))) && (decide (a < u ∨ (a = u ∧ b < v)) && lkG ns u v r)
  | _, _, _ :: _ => false
def lawShape : Dt → Bool
  | .tup [.tup vs, .tup ls] => risG (-1) vs && (decide (vs.length ≤ 400) && (decide (ls.length ≤ 2000) && lkG (ints1 vs) (-1) (-1) ls))
  | _ => false
theorem risG_no {l : Int} {d : Dt} {r : List Dt} (h : isIntD d = false) : risG l (d :: r) = false := by
  cases d with
  | int i => cases h
  | _ => rfl
theorem risG_int (l i : Int) (r : List Dt) : risG l (.int i :: r) = (decide (l < i) && risG i r) := rfl
theorem adj_two {α : Type} (r : α → α → Bool) (x y : α) (t : List α) : adj r (x :: y :: t) = (r x y && adj r (y :: t)) := rfl
theorem risG_adj : ∀ (l : Int) (ds : List Dt), risG l ds = (ds.all isIntD && adj ltD (.int l :: ds))
  | l, [] => rfl
  | l, .int i :: r => by
    rw [risG_int, risG_adj i r, adj_two, List.all_cons]
    show (decide (l < i) && (r.all isIntD && adj ltD (.int i :: r))) = ((true && r.all isIntD) && (decide (l < i) && adj ltD (.int i :: r)))
    cases decide (l < i) <;> cases r.all isIntD <;> rfl
  | l, .non :: r => rfl
  | l, .bl _ :: r => rfl
  | l, .str _ :: r => rfl
  | l, .tup _ :: r => rfl
  | l, .lst _ :: r => rfl
  | l, .dct :: r => rfl
theorem risG_gt : ∀ {l : Int} {ds : List Dt}, risG l ds = true → ∀ d ∈ ds, ∃ i, d = .int i ∧ l < i
  | l, [], _, d, hd => by cases hd
  | l, .int i :: r, h, d, hd => by
    rw [risG_int, Bool.and_eq_true] at h
    have h1 : l < i := of_decide_eq_true h.1
    rcases List.mem_cons.mp hd with rfl | hd
    · exact ⟨i, rfl, h1⟩
    · obtain ⟨j, e, hj⟩ := risG_gt h.2 d hd
      exact ⟨j, e, by omega⟩
  | l, .non :: r, h, _, _ => by cases h
  | l, .bl _ :: r, h, _, _ => by cases h
  | l, .str _ :: r, h, _, _ => by cases h
  | l, .tup _ :: r, h, _, _ => by cases h
  | l, .lst _ :: r, h, _, _ => by cases h
  | l, .dct :: r, h, _, _ => by cases h
theorem risG_ver (ds : List Dt) : risG (-1) ds = ((ds.all isIntD && adj ltD ds) && ds.all geZ) := by
  cases e : risG (-1) ds with
  | true =>
    have gt := risG_gt e
    rw [risG_adj, Bool.and_eq_true] at e
    have a2 : ds.all geZ = true := List.all_eq_true.mpr fun d hd => by
      obtain ⟨i, rfl, hi⟩ := gt d hd
      exact decide_eq_true (by omega)
    rw [e.1, a2]
    cases ds with
    | nil => rfl
    | cons x r =>
      rw [adj_two, Bool.and_eq_true] at e
      rw [e.2.2]
      rfl
  | false =>
    symm
    refine Bool.eq_false_iff.mpr fun q => ?_
    rw [Bool.and_eq_true, Bool.and_eq_true] at q
    rw [risG_adj, q.1.1, Bool.true_and] at e
    cases ds with
    | nil => cases e
    | cons x r =>
      rw [adj_two, q.1.2, Bool.and_true] at e
      have h1 := List.all_eq_true.mp q.2 x List.mem_cons_self
      cases x with
      | int i =>
        have h2 : 0 ≤ i := of_decide_eq_true h1
        have h3 : ¬ (-1 < i) := of_decide_eq_false e
        omega
      | _ => cases h1
theorem lex2 (a b u v : Int) : HT.lexLt [a, b] [u, v] = decide (a < u ∨ (a = u ∧ b < v)) := by
  rw [HT.lexLt_cons]
  by_cases h : a = u
  · rw [if_pos h, HT.lexLt_cons]
    by_cases h2 : b = v
    · rw [if_pos h2]
      show false = _
      exact (decide_eq_false (by omega)).symm
    · rw [if_neg h2]
      by_cases h3 : b < v
      · rw [decide_eq_true h3]
        exact (decide_eq_true (.inr ⟨h, h3⟩)).symm
      · rw [decide_eq_false h3]
        exact (decide_eq_false (by omega)).symm
  · rw [if_neg h]
    by_cases h3 : a < u
    · rw [decide_eq_true h3]
      exact (decide_eq_true (.inl h3)).symm
    · rw [decide_eq_false h3]
      exact (decide_eq_false (by omega)).symm
theorem lkG_two (ns : List Int) (a b u v : Int) (r : List Dt) : lkG ns a b (.tup [.int u, .int v] :: r) = ((ns.contains u && (ns.contains v && decide (v < u))) && (decide (a < u ∨ (a = u ∧ b < v)) && lkG ns u v r)) := rfl
def isPrD : Dt → Bool
  | .tup [.int _, .int _] => true
  | _ => false
theorem isPrD_inv {d : Dt} (h : isPrD d = true) : ∃ u v, d = .tup [.int u, .int v] := by
  unfold isPrD at h
  split at h
  · exact ⟨_, _, rfl⟩
  · cases h
theorem lkG_no {ns : List Int} {a b : Int} {d : Dt} {r : List Dt} (h : isPrD d = false) : lkG ns a b (d :: r) = false := by
  unfold lkG
  split
  · rename_i q
    cases q
  · rename_i q
    cases q
    cases h
  · rfl
theorem isLinkD_no {ns : List Int} {d : Dt} (h : isPrD d = false) : isLinkD ns d = false := by
  unfold isLinkD
  split
  · cases h
  · rfl
theorem lkG_adj (ns : List Int) : ∀ (a b : Int) (ls : List Dt), lkG ns a b ls = (ls.all (isLinkD ns) && adj ltD (.tup [.int a, .int b] :: ls))
  | a, b, [] => rfl
  | a, b, d :: r => by
    cases hp : isPrD d with
    | true =>
      obtain ⟨u, v, rfl⟩ := isPrD_inv hp
      rw [lkG_two, lkG_adj ns u v r, adj_two, List.all_cons, isLinkD_two]
      show _ = ((_ && _) && (HT.lexLt [a, b] [u, v] && _))
      rw [lex2]
      generalize (ns.contains u && (ns.contains v && decide (v < u))) = p
      generalize decide (a < u ∨ (a = u ∧ b < v)) = q
      generalize r.all (isLinkD ns) = s
      cases p <;> cases q <;> cases s <;> rfl
    | false => rw [lkG_no hp, List.all_cons, isLinkD_no hp]; rfl
theorem lkG_links {ns : List Int} (h0 : ∀ n ∈ ns, 0 ≤ n) (ls : List Dt) : lkG ns (-1) (-1) ls = (ls.all (isLinkD ns) && adj ltD ls) := by
  rw [lkG_adj]
  cases ls with
  | nil => rfl
  | cons d r =>
    rw [adj_two, List.all_cons]
    cases hp : isPrD d with
    | true =>
      obtain ⟨u, v, rfl⟩ := isPrD_inv hp
      cases hl : isLinkD ns (.tup [.int u, .int v]) with
      | true =>
        rw [isLinkD_two, Bool.and_eq_true] at hl
        have hu : 0 ≤ u := h0 u (List.contains_iff_mem.mp hl.1)
        have e : ltD (.tup [.int (-1), .int (-1)]) (.tup [.int u, .int v]) = true := by
          show HT.lexLt [-1, -1] [u, v] = true
          rw [lex2]
          exact decide_eq_true (.inl (by omega))
        rw [e]
        rfl
      | false => rfl
    | false => rw [isLinkD_no hp]; rfl
theorem lawShape_eq (d : Dt) : lawShape d = isShapeD d := by
  unfold lawShape
  split
  · rename_i vs ls
    show _ = (areVersionsD (.tup vs) && areLinksD (ints1 vs) (.tup ls))
    rw [areVersionsD_tup, areLinksD_tup]
    cases e : risG (-1) vs with
    | true =>
      have gt := risG_gt e
      rw [risG_ver, Bool.and_eq_true] at e
      rw [e.1, e.2, Bool.true_and, Bool.true_and, Bool.and_true]
      rw [lkG_links]
      intro n hn
      have e2 := allInt (Bool.and_eq_true_iff.mp e.1).1
      have hm : Dt.int n ∈ vs := by
        rw [e2]
        exact List.mem_map.mpr ⟨n, hn, rfl⟩
      obtain ⟨i, q, hi⟩ := gt _ hm
      cases q
      omega
    | false =>
      rw [risG_ver] at e
      generalize (vs.all isIntD && adj ltD vs) = p at e ⊢
      generalize vs.all geZ = q at e ⊢
      generalize decide (vs.length ≤ 400) = z
      cases p with
      | false => rfl
      | true =>
        cases q with
        | true => cases e
        | false => cases z <;> rfl
  · rename_i h
    symm
    unfold isShapeD
    split
    · rename_i v l
      cases v with
      | tup vs =>
        cases l with
        | tup ls => exact absurd rfl (h vs ls)
        | _ => exact Bool.and_false _
      | _ => rfl
    · rfl
/-! ### _law_rising, _law_is_shape, check -/
def sp_l_rising (_ : PySem.W.Frag) : Sp := fun vs H Q _ => ∃ (x : V) (d : Dt), vs = [x] ∧ At H x d ∧ Q (.bl (risD d)) H
def sp_l_is_shape (_ : PySem.W.Frag) : Sp := fun vs H Q _ => ∃ (x : V) (d : Dt), vs = [x] ∧ At H x d ∧ ∀ H', Same H H' → Q (.bl (lawShape d)) H'
def sp_check (K : PySem.W.Frag) : Sp := fun vs H Q E => ∃ (x : V) (d : Dt), vs = [x] ∧ At H x d ∧ (isShapeD d = true → ∀ H', Same H H' → Q (.bl true) H') ∧ (isShapeD d = false → ∀ H', Same H H' → E (.ref (He.ga K "NoShape")) none H')
def tRaise (E : XK) (c : Value) : TS := fun _ _ H => E c none H
abbrev N_l_rising : List Str := ["_law_thing", "_law_last", "_law_one"]
def t_l_rising_loop (K : PySem.W.Frag) : TS := (tSeq (tAsg (tUn rNegI (tC (.int 1))) (gName 1))
    (tSeq (tFor (iTup K (tVar 0)) (gName 2) (tSeq (tIfS (tOr (tNot (tB (tCall (sp_l_intA K) [] E0 (tCons (tVar 2) tNil)))) (tTest (tOp rLeI (tVar 2) (tVar 1)))) (tRet (tC (.bl false))) tNext)
    (tAsg (tVar 2) (gName 1))))
    (tRet (tC (.bl true)))))
def t_l_rising (K : PySem.W.Frag) : TS := (tSeq (tIfS (tNot (tB (tCB (rIsi K) (tCons (tVar 0) (tCons (tC (.ty "tuple")) tNil))))) (tRet (tC (.bl false))) tNext)
    (t_l_rising_loop K))
abbrev N_l_is_shape : List Str := ["_law_thing", "_law_stands", "_law_one", "_law_last", "_law_two"]
def t_l_is_shape_e (K : PySem.W.Frag) : TS := (tSeq (tFor (iTup K (tOp (rIx K) (tVar 0) (tC (.int 1)))) (gName 4) (tSeq (tIfS (tOr (tNot (tB (tCB (rIsi K) (tCons (tVar 4) (tCons (tC (.ty "tuple")) tNil))))) (tOr (tTest (tOp rNe (tCB (fLen K) (tCons (tVar 4) tNil)) (tC (.int 2)))) (tOr (tNot (tB (tCall (sp_l_intA K) [] E0 (tCons (tOp (rIx K) (tVar 4) (tC (.int 0))) tNil)))) (tNot (tB (tCall (sp_l_intA K) [] E0 (tCons (tOp (rIx K) (tVar 4) (tC (.int 1))) tNil))))))) (tRet (tC (.bl false))) tNext)
    (tSeq (tIfS (tOr (tB (tDNotIn (tOp (rIx K) (tVar 4) (tC (.int 0))) (tVar 1))) (tOr (tB (tDNotIn (tOp (rIx K) (tVar 4) (tC (.int 1))) (tVar 1))) (tTest (tOp rGeI (tOp (rIx K) (tVar 4) (tC (.int 1))) (tOp (rIx K) (tVar 4) (tC (.int 0))))))) (tRet (tC (.bl false))) tNext)
    (tSeq (tIfS (tOr (tTest (tOp rLtI (tOp (rIx K) (tVar 4) (tC (.int 0))) (tOp (rIx K) (tVar 3) (tC (.int 0))))) (tAnd (tTest (tOp rEq (tOp (rIx K) (tVar 4) (tC (.int 0))) (tOp (rIx K) (tVar 3) (tC (.int 0))))) (tTest (tOp rLeI (tOp (rIx K) (tVar 4) (tC (.int 1))) (tOp (rIx K) (tVar 3) (tC (.int 1))))))) (tRet (tC (.bl false))) tNext)
    (tAsg (tVar 4) (gName 3))))))
    (tRet (tC (.bl true))))
def t_l_is_shape_d (K : PySem.W.Frag) : TS := (tSeq (tAsg (tTup (tCons (tUn rNegI (tC (.int 1))) (tCons (tUn rNegI (tC (.int 1))) tNil))) (gName 3))
    (t_l_is_shape_e K))
def t_l_is_shape_c (K : PySem.W.Frag) : TS := (tSeq (tAsg tDNewK (gName 1))
    (tSeq (tFor (iTup K (tOp (rIx K) (tVar 0) (tC (.int 0)))) (gName 2) (sDPut (tVar 1) (tVar 2) (tC (.bl true))))
    (t_l_is_shape_d K)))
def t_l_is_shape_b (K : PySem.W.Frag) : TS := (tSeq (tIfS (tOr (tNot (tB (tCall (sp_l_rising K) [] E0 (tCons (tOp (rIx K) (tVar 0) (tC (.int 0))) tNil)))) (tOr (tTest (tOp rGtI (tCB (fLen K) (tCons (tOp (rIx K) (tVar 0) (tC (.int 0))) tNil)) (tC (.int 400)))) (tOr (tNot (tB (tCB (rIsi K) (tCons (tOp (rIx K) (tVar 0) (tC (.int 1))) (tCons (tC (.ty "tuple")) tNil))))) (tTest (tOp rGtI (tCB (fLen K) (tCons (tOp (rIx K) (tVar 0) (tC (.int 1))) tNil)) (tC (.int 2000))))))) (tRet (tC (.bl false))) tNext)
    (t_l_is_shape_c K))
def t_l_is_shape (K : PySem.W.Frag) : TS := (tSeq (tIfS (tOr (tNot (tB (tCB (rIsi K) (tCons (tVar 0) (tCons (tC (.ty "tuple")) tNil))))) (tTest (tOp rNe (tCB (fLen K) (tCons (tVar 0) tNil)) (tC (.int 2))))) (tRet (tC (.bl false))) tNext)
    (t_l_is_shape_b K))
abbrev N_check : List Str := ["thing"]
def t_check (K : PySem.W.Frag) (E : XK) : TS := (tSeq (tIfS (tOr (tNot (tB (tCall (sp_is_pair K) [] E0 (tCons (tVar 0) tNil)))) (tOr (tNot (tB (tCall (sp_are_versions K) [] E0 (tCons (tOp (rIx K) (tVar 0) (tC (.int 0))) tNil)))) (tNot (tB (tCall (sp_are_links K) [] E0 (tCons (tOp (rIx K) (tVar 0) (tC (.int 1))) (tCons (tOp (rIx K) (tVar 0) (tC (.int 0))) tNil))))))) (tRaise E (.ref (He.ga K "NoShape"))) tNext)
    (tRet (tC (.bl true))))
section
variable {K : PySem.W.Frag} {vs : List V} {H : Hp} {Q : VK} {E : XK}
theorem len_l_rising (h : sp_l_rising K vs H Q E) : vs.length = 1 := by
  obtain ⟨_, _, rfl, _⟩ := h
  rfl
theorem len_l_is_shape (h : sp_l_is_shape K vs H Q E) : vs.length = 1 := by
  obtain ⟨_, _, rfl, _⟩ := h
  rfl
theorem len_check (h : sp_check K vs H Q E) : vs.length = 1 := by
  obtain ⟨_, _, rfl, _⟩ := h
  rfl
theorem drop_at {α : Type} {l : List α} {i : Nat} {x : α} (h : l[i]? = some x) : l.drop i = x :: l.drop (i + 1) := by
  obtain ⟨hi, e⟩ := List.getElem?_eq_some_iff.mp h
  rw [← e]
  exact (List.getElem_cons_drop hi).symm
theorem pure_l_rising (h : sp_l_rising K vs H Q E) : t_l_rising K { nx := fun _ H' => Q .non H', rt := Q } (start N_l_rising vs) H := by
  obtain ⟨x, d, rfl, a, k⟩ := h
  refine ⟨_, rfl, isiTup a ⟨_, rfl, ?_⟩⟩
  cases a with
  | @tup p xs ds hp hz hl ha =>
    have k : Q (.bl (risG (-1) ds)) H := k
    refine ⟨_, rfl, ?_⟩
    refine ⟨_, rfl, p, rfl, ⟨_, sqT hp⟩, ?_⟩
    refine for_tup (K := K) (a := p) (xs := xs) (fun i σ H' => H' = H ∧ ∃ l z2, σ = [some (.ref p), some (.int l), z2] ∧ risG (-1) ds = risG l (ds.drop i)) ⟨rfl, -1, none, rfl, rfl⟩ (fun i σ H' _ ⟨e, _⟩ => by rw [e]; exact sqT hp) ?_ ?_
    · rintro i y σ H' hy ⟨rfl, l, z2, rfl, e⟩
      have hi : i < ds.length := by
        rw [← hl]
        exact (List.getElem?_eq_some_iff.mp hy).1
      have hd := List.getElem?_eq_getElem hi
      have ay := ha i y _ hy hd
      rw [drop_at hd] at e
      refine ⟨_, rfl, y, ds[i], rfl, ay, _, rfl, ?_⟩
      cases hI : isIntD ds[i] with
      | false =>
        rw [risG_no hI] at e
        rw [e] at k
        exact k
      | true =>
        obtain ⟨j, ej⟩ : ∃ j, ds[i] = .int j := by
          cases q : ds[i] with
          | int j => exact ⟨j, rfl⟩
          | _ => rw [q] at hI; cases hI
        rw [ej] at ay e
        have ey := ay.int_inv
        subst ey
        refine ⟨_, rfl, _, rfl, _, _, rfl, rfl, _, rfl, ite2 (fun e2 => ?_) (fun e2 => ?_)⟩
        · have : ¬ l < j := by
            have : j ≤ l := of_decide_eq_true e2
            omega
          rw [risG_int, decide_eq_false this, Bool.false_and] at e
          rw [e] at k
          exact k
        · have : l < j := by
            have : ¬ j ≤ l := fun z => e2 (decide_eq_true z)
            omega
          rw [risG_int, decide_eq_true this, Bool.true_and] at e
          exact ⟨_, rfl, rfl, j, _, rfl, e⟩
    · rintro σ H' ⟨rfl, l, z2, rfl, e⟩
      rw [hl, List.drop_length] at e
      rw [e] at k
      exact k
  | _ => exact k
theorem shapeD_two (e f : Dt) : isShapeD (.tup [e, f]) = (areVersionsD e && areLinksD (match e with | .tup ds => ints1 ds | _ => []) f) := rfl
theorem pair_inv {d : Dt} (h : isPairD d = true) : ∃ e f, d = .tup [e, f] := by
  cases d with
  | tup ds =>
    have h2 : ds.length = 2 := of_decide_eq_true h
    match ds, h2 with
    | [e, f], _ => exact ⟨e, f, rfl⟩
  | _ => cases h
theorem shapeD_no {d : Dt} (h : ¬ isPairD d = true) : isShapeD d = false := by
  unfold isShapeD
  split
  · exact absurd rfl h
  · rfl
theorem pure_check (h : sp_check K vs H Q E) : t_check K E { nx := fun _ H' => Q .non H', rt := Q } (start N_check vs) H := by
  obtain ⟨x, d, rfl, a, ky, kn⟩ := h
  refine ⟨_, rfl, x, d, rfl, a, _, rfl, ?_⟩
  by_cases hp : isPairD d = true
  · rw [hp]
    obtain ⟨e, f, rfl⟩ := pair_inv hp
    obtain ⟨p, y, z, rfl, hpp, ay, az⟩ := a.pair_inv
    refine iteF ⟨_, rfl, ixT hpp rfl ⟨y, e, rfl, ay, fun H1 s1 => ⟨_, rfl, ?_⟩⟩⟩
    rw [shapeD_two] at ky kn
    cases hv : areVersionsD e with
    | true =>
      cases e with
      | tup ds =>
        have hi : ds.all isIntD = true := by
          rw [areVersionsD_tup, Bool.and_eq_true, Bool.and_eq_true] at hv
          exact hv.1.1
        have ay1 := ay.mono s1
        rw [allInt hi] at ay1
        refine iteF ⟨_, rfl, ixT (s1 _ _ hpp) rfl ⟨_, rfl, ixT (s1 _ _ hpp) rfl ⟨z, y, f, ints1 ds, rfl, az.mono s1, ay1, fun H2 s2 => ⟨_, rfl, ?_⟩⟩⟩⟩
        rw [hv, Bool.true_and] at ky kn
        cases hl : areLinksD (ints1 ds) f with
        | true => exact ky hl H2 (s1.trans s2)
        | false => exact kn hl H2 (s1.trans s2)
      | _ => cases hv
    | false =>
      rw [hv, Bool.false_and] at kn
      exact kn rfl H1 s1
  · have e := shapeD_no hp
    rw [Bool.eq_false_iff.mpr hp]
    exact kn e H (Same.refl H)
theorem law_no2 {d : Dt} (h : ¬ isPairD d = true) : lawShape d = false := (lawShape_eq d).trans (shapeD_no h)
theorem law_f1 {vs : List Dt} {f : Dt} (h : risG (-1) vs = false) : lawShape (.tup [.tup vs, f]) = false := by
  cases f with
  | tup ls =>
    show (risG (-1) vs && _) = false
    rw [h]
    rfl
  | _ => rfl
theorem law_f2 {vs : List Dt} {f : Dt} (h : ¬ vs.length ≤ 400) : lawShape (.tup [.tup vs, f]) = false := by
  cases f with
  | tup ls =>
    show (risG (-1) vs && (decide (vs.length ≤ 400) && _)) = false
    rw [decide_eq_false h, Bool.false_and, Bool.and_false]
  | _ => rfl
theorem law_f3 {vs ls : List Dt} (h : ¬ ls.length ≤ 2000) : lawShape (.tup [.tup vs, .tup ls]) = false := by
  show (risG (-1) vs && (decide (vs.length ≤ 400) && (decide (ls.length ≤ 2000) && _))) = false
  rw [decide_eq_false h, Bool.false_and, Bool.and_false, Bool.and_false]
theorem law_t {vs ls : List Dt} (h1 : risG (-1) vs = true) (h2 : vs.length ≤ 400) (h3 : ls.length ≤ 2000) : lawShape (.tup [.tup vs, .tup ls]) = lkG (ints1 vs) (-1) (-1) ls := by
  show (risG (-1) vs && (decide (vs.length ≤ 400) && (decide (ls.length ≤ 2000) && _))) = _
  rw [decide_eq_true h2, decide_eq_true h3, h1]
  rfl
theorem pure_l_is_shape (h : sp_l_is_shape K vs H Q E) : t_l_is_shape K { nx := fun _ H' => Q .non H', rt := Q } (start N_l_is_shape vs) H := by
  obtain ⟨x, d, rfl, a, k⟩ := h
  have k0 := k H (Same.refl H)
  refine ⟨_, rfl, isiTup a ⟨_, rfl, ?_⟩⟩
  cases d with
  | tup ds =>
    obtain ⟨p, xs, rfl, hpx, hxl, _, _⟩ := a.tup_inv
    refine ⟨_, rfl, lenT hpx ⟨rfl, _, rfl, ?_⟩⟩
    by_cases h2 : ds.length = 2
    · obtain ⟨e, f, rfl⟩ : ∃ e f, ds = [e, f] := by
        match ds, h2 with
        | [e, f], _ => exact ⟨e, f, rfl⟩
      obtain ⟨p', y, z, ep, hpp, ay, az⟩ := a.pair_inv
      cases ep
      rw [hpp] at hpx
      cases hpx
      refine iteF ?_
      -- the versions
      refine ⟨_, rfl, ixT hpp rfl ⟨y, e, rfl, ay, _, rfl, ?_⟩⟩
      cases e with
      | tup vs =>
        obtain ⟨pv, vx, rfl, hpv, hvl, hvz, _⟩ := ay.tup_inv
        show if (!risG (-1) vs) = true then _ else _
        cases hr : risG (-1) vs with
        | false =>
          rw [law_f1 hr] at k0
          exact k0
        | true =>
          refine iteF ⟨_, rfl, ixT hpp rfl (lenT hpv ⟨_, _, rfl, rfl, _, rfl, ite2 (fun e4 => ?_) (fun e4 => ?_)⟩)⟩
          · have : ¬ vs.length ≤ 400 := fun z => by
              have : (400 : Int) < vx.length := of_decide_eq_true e4
              omega
            rw [law_f2 this] at k0
            exact k0
          have hv4 : vs.length ≤ 400 := by
            have : ¬ (400 : Int) < vx.length := fun z => e4 (decide_eq_true z)
            omega
          refine ⟨_, rfl, ixT hpp rfl (isiTup az ⟨_, rfl, ?_⟩)⟩
          cases f with
          | tup ls =>
            obtain ⟨pl, lx, rfl, hpl, hll, hlz, hla⟩ := az.tup_inv
            refine iteF ⟨_, rfl, ixT hpp rfl (lenT hpl ⟨_, _, rfl, rfl, _, rfl, ite2 (fun e5 => ?_) (fun e5 => ?_)⟩)⟩
            · have : ¬ ls.length ≤ 2000 := fun z => by
                have : (2000 : Int) < lx.length := of_decide_eq_true e5
                omega
              rw [law_f3 this] at k0
              exact k0
            have hl2 : ls.length ≤ 2000 := by
              have : ¬ (2000 : Int) < lx.length := fun z => e5 (decide_eq_true z)
              omega
            have k : ∀ H', Same H H' → Q (.bl (lkG (ints1 vs) (-1) (-1) ls)) H' := fun H' s => by
              have := k H' s
              rw [law_t hr hv4 hl2] at this
              exact this
            have hvi : vs.all isIntD = true := by
              rw [risG_ver, Bool.and_eq_true, Bool.and_eq_true] at hr
              exact hr.1.1
            have ev := allInt hvi
            have hns : (ints1 vs).length = vs.length := by
              have := congrArg List.length ev
              rw [List.length_map] at this
              exact this.symm
            have hpv : H pv = some (.tup ((ints1 vs).map V.int)) := by
              rw [ev] at ay
              obtain ⟨q, eq, hq, _⟩ := ay.to_ints
              cases eq
              exact hq
            -- stands
            show t_l_is_shape_c K { nx := fun _ H' => Q .non H', rt := Q } [some (.ref p), none, none, none, none] H
            intro S nS
            have up : ∀ kvs, Same H (upd H S (.dK kvs)) := fun kvs b o e => updN (ne_of_none e nS) e
            refine ⟨_, rfl, ixT (up _ _ _ hpp) rfl ⟨pv, rfl, ⟨_, sqT (up _ _ _ hpv)⟩, ?_⟩⟩
            refine for_tup (K := K) (a := pv) (xs := (ints1 vs).map V.int) (fun i σ H' => H' = upd H S (.dK (setOf ((ints1 vs).take i))) ∧ ∃ z2, σ = [some (.ref p), some (.ref S), z2, none, none]) ⟨by rw [List.take_zero]; rfl, none, rfl⟩ (fun i σ H' _ ⟨e, _⟩ => by rw [e]; exact sqT (up _ _ _ hpv)) ?_ ?_
            · rintro i y σ H' hy ⟨rfl, z2, rfl⟩
              rw [List.getElem?_map] at hy
              cases en : (ints1 vs)[i]? with
              | none => rw [en] at hy; cases hy
              | some n =>
                rw [en] at hy
                cases Option.some.inj hy
                have hlen : (setOf ((ints1 vs).take i)).length < sizeLine := by
                  refine Nat.lt_of_le_of_lt (Nat.le_trans (setOf_length _) ?_ : _ ≤ 100000) (by decide)
                  rw [List.length_take]
                  omega
                refine ⟨_, rfl, _, rfl, S, _, rfl, DPut.k (k := Sum.inl n) updS hlen, ?_, _, rfl⟩
                rw [upd_upd, take_snoc en, setOf_snoc]
            · rintro σ H' ⟨rfl, z2, rfl⟩
              rw [List.length_map, List.take_length]
              -- the links
              refine ⟨_, rfl, _, rfl, (by show (2 : Nat) ≤ sizeLine; decide), fun T nT => ?_⟩
              have s1 : Same (upd H S (.dK (setOf (ints1 vs)))) (upd (upd H S (.dK (setOf (ints1 vs)))) T (.tup [.int (-1), .int (-1)])) := samNw nT
              have sT : Same H (upd (upd H S (.dK (setOf (ints1 vs)))) T (.tup [.int (-1), .int (-1)])) := (up _).trans s1
              have nTS : S ≠ T := fun z => by rw [← z, updS] at nT; cases nT
              have hS := s1 S _ updS
              have hT2 : upd (upd H S (.dK (setOf (ints1 vs)))) T (.tup [.int (-1), .int (-1)]) T = some (.tup [.int (-1), .int (-1)]) := updS
              show t_l_is_shape_e K { nx := fun _ H' => Q .non H', rt := Q } [some (.ref p), some (.ref S), z2, some (.ref T), none] (upd (upd H S (.dK (setOf (ints1 vs)))) T (.tup [.int (-1), .int (-1)]))
              generalize upd (upd H S (.dK (setOf (ints1 vs)))) T (.tup [.int (-1), .int (-1)]) = H2 at *
              have kk := k H2 sT
              refine ⟨_, rfl, ixT (sT _ _ hpp) rfl ⟨pl, rfl, ⟨_, sqT (sT _ _ hpl)⟩, ?_⟩⟩
              refine for_tup (K := K) (a := pl) (xs := lx) (fun i σ H' => H' = H2 ∧ ∃ q a b z4, σ = [some (.ref p), some (.ref S), z2, some (.ref q), z4] ∧ H2 q = some (.tup [.int a, .int b]) ∧ lkG (ints1 vs) (-1) (-1) ls = lkG (ints1 vs) a b (ls.drop i)) ⟨rfl, T, -1, -1, none, rfl, hT2, rfl⟩ (fun i σ H' _ ⟨e, _⟩ => by rw [e]; exact sqT (sT _ _ hpl)) ?_ ?_
              · rintro i y σ H' hy ⟨rfl, q, a, b, z4, rfl, hq, e⟩
                have hi : i < ls.length := by
                  rw [← hll]
                  exact (List.getElem?_eq_some_iff.mp hy).1
                have hd := List.getElem?_eq_getElem hi
                have ay := (hla i y _ hy hd).mono sT
                rw [drop_at hd] at e
                generalize ls[i] = g at ay e
                have bad : lkG (ints1 vs) a b (g :: ls.drop (i + 1)) = false → Q (.bl false) H' := fun q => by
                  rw [e, q] at kk
                  exact kk
                refine ⟨_, rfl, isiTup ay ⟨_, rfl, ?_⟩⟩
                cases g with
                | tup gs =>
                  obtain ⟨pg, gx, rfl, hpg, hgl, _, _⟩ := ay.tup_inv
                  refine ⟨_, rfl, lenT hpg ⟨rfl, _, rfl, ?_⟩⟩
                  by_cases h2 : gs.length = 2
                  · obtain ⟨e1, f1, rfl⟩ : ∃ e f, gs = [e, f] := by
                      match gs, h2 with
                      | [e, f], _ => exact ⟨e, f, rfl⟩
                    obtain ⟨p', y1, z1, ep, hpg2, ay1, az1⟩ := ay.pair_inv
                    cases ep
                    rw [hpg2] at hpg
                    cases hpg
                    have hpg := hpg2
                    refine iteF ⟨_, rfl, ixT hpg rfl ⟨y1, e1, rfl, ay1, _, rfl, ?_⟩⟩
                    cases hI : isIntD e1 with
                    | false =>
                      refine bad (lkG_no ?_)
                      cases e1 with
                      | int _ => cases hI
                      | _ => rfl
                    | true =>
                      refine iteF ⟨_, rfl, ixT hpg rfl ⟨z1, f1, rfl, az1, _, rfl, ?_⟩⟩
                      cases hJ : isIntD f1 with
                      | false =>
                        refine bad (lkG_no ?_)
                        cases e1 with
                        | int _ =>
                          cases f1 with
                          | int _ => cases hJ
                          | _ => rfl
                        | _ => cases hI
                      | true =>
                        cases e1 with
                        | int u =>
                          cases f1 with
                          | int v =>
                            have q1 := ay1.int_inv
                            have q2 := az1.int_inv
                            subst q1 q2
                            rw [lkG_two] at bad e
                            refine iteF ?_
                            refine ⟨_, rfl, ixT hpg rfl ⟨_, rfl, S, _, rfl, DGet.k (k := Sum.inl u) hS, _, rfl, ?_⟩⟩
                            rw [setOf_has]
                            cases hu : (ints1 vs).contains u with
                            | false => exact bad (by rw [hu, Bool.false_and, Bool.false_and])
                            | true =>
                              refine iteF ⟨_, rfl, ixT hpg rfl ⟨_, rfl, S, _, rfl, DGet.k (k := Sum.inl v) hS, _, rfl, ?_⟩⟩
                              rw [setOf_has]
                              cases hv : (ints1 vs).contains v with
                              | false => exact bad (by rw [hv, Bool.false_and, Bool.and_false, Bool.false_and])
                              | true =>
                                rw [hu, hv, Bool.true_and, Bool.true_and] at bad e
                                refine iteF ⟨_, rfl, ixT hpg rfl ⟨_, rfl, ixT hpg rfl ⟨_, _, rfl, rfl, _, rfl, ite2 (fun e7 => ?_) (fun e7 => ?_)⟩⟩⟩
                                · have : ¬ v < u := by
                                    have : u ≤ v := of_decide_eq_true e7
                                    omega
                                  exact bad (by rw [decide_eq_false this, Bool.false_and])
                                · have hvu : v < u := by
                                    have : ¬ u ≤ v := fun z => e7 (decide_eq_true z)
                                    omega
                                  rw [decide_eq_true hvu, Bool.true_and] at bad e
                                  have bad2 : ¬ (a < u ∨ (a = u ∧ b < v)) → Q (.bl false) H' := fun q => bad (by rw [decide_eq_false q, Bool.false_and])
                                  have good : (a < u ∨ (a = u ∧ b < v)) → lkG (ints1 vs) (-1) (-1) ls = lkG (ints1 vs) u v (ls.drop (i + 1)) := fun q => by
                                    rw [e, decide_eq_true q, Bool.true_and]
                                  refine ⟨_, rfl, ixT hpg rfl ⟨_, rfl, ixT hq rfl ⟨_, _, rfl, rfl, _, rfl, ite2 (fun e8 => ?_) (fun e8 => ?_)⟩⟩⟩
                                  · have : u < a := of_decide_eq_true e8
                                    exact bad2 (by omega)
                                  · have hua : ¬ u < a := fun z => e8 (decide_eq_true z)
                                    refine ⟨_, rfl, ixT hpg rfl ⟨_, rfl, ixT hq rfl ⟨rfl, _, rfl, ite2 (fun e9 => ?_) (fun e9 => ?_)⟩⟩⟩
                                    · have eua : u = a := V.int.inj (of_decide_eq_true e9)
                                      refine ⟨_, rfl, ixT hpg rfl ⟨_, rfl, ixT hq rfl ⟨_, _, rfl, rfl, _, rfl, ite2 (fun e10 => ?_) (fun e10 => ?_)⟩⟩⟩
                                      · have : v ≤ b := of_decide_eq_true e10
                                        exact bad2 (by omega)
                                      · have : ¬ v ≤ b := fun z => e10 (decide_eq_true z)
                                        exact ⟨_, rfl, rfl, pg, u, v, _, rfl, hpg, good (by omega)⟩
                                    · have : ¬ u = a := fun z => e9 (decide_eq_true (by rw [z]))
                                      exact ⟨_, rfl, rfl, pg, u, v, _, rfl, hpg, good (by omega)⟩
                          | _ => cases hJ
                        | _ => cases hI
                  · refine ite2 (fun _ => bad (lkG_no ?_)) (fun e => absurd ?_ e)
                    · match gs, h2 with
                      | [], _ => rfl
                      | [x], _ => cases x <;> rfl
                      | [x, y], h2 => exact absurd rfl h2
                      | x :: y :: w :: r, _ => cases x <;> first | rfl | (cases y <;> rfl)
                    · rw [Bool.not_eq_true', decide_eq_false_iff_not]
                      intro q
                      have := V.int.inj q
                      omega
                | _ => exact bad rfl
              · rintro σ H' ⟨rfl, q, a, b, z4, rfl, hq, e⟩
                rw [hll, List.drop_length] at e
                rw [e] at kk
                exact kk
          | _ => exact k0
      | _ => exact k0
    · rw [law_no2 (d := .tup ds) (fun q => h2 (of_decide_eq_true q))] at k0
      refine ite2 (fun _ => k0) (fun e => absurd ?_ e)
      rw [Bool.not_eq_true', decide_eq_false_iff_not]
      intro q
      have := V.int.inj q
      omega
  | _ => exact k0
end
end Fw

set_option Elab.async false
set_option linter.all false
set_option maxRecDepth 100000
set_option maxHeartbeats 4000000
namespace Fw
open PySem L2 RZ RT
/-! ### what is caught, by name -/
def tTryAs (K : PySem.W.Frag) (c : Value) (i : Nat) (tb : WX → TS) (ts : Addr → Value → Option Addr → TS) : TS := fun D σ H => tb (wAs K c i ts (fun _ _ _ _ => False) D) D σ H
/-- isinstance(e, c), e what the clause holds, of whatever class -/
def rIsX (K : PySem.W.Frag) (a : Addr) (cls : Value) (d : Option Addr) : List V → Hp → VK → Prop := fun xs H Q => ∃ C, cls = .ref C ∧ d = none ∧ ExcC K C ∧ rIsE K C a xs H Q
theorem call_isX {X : Cx} {a : Addr} {cls : Value} {d : Option Addr} {oe : Obj} {pn : List (Addr × Obj)} (hz : Zc cls d oe) (hf : ∃ vs, oe.data = .fields vs) : CallR (X.suite a ((a, oe) :: pn)) (.builtin "isinstance") (rIsX X.K a cls d) := by
  intro pins s σ H xs us Q I r h
  obtain ⟨C, rfl, rfl, c, h⟩ := h
  exact call_isE c hz hf pins s σ H xs us Q I r h
/-! ### any data -/
def AtE (H : Hp) (x : V) : Prop := ∃ d, At H x d
theorem AtE.mono {H H' : Hp} {x : V} (a : AtE H x) (s : Same H H') : AtE H' x := by
  obtain ⟨d, a⟩ := a
  exact ⟨d, a.mono s⟩
theorem AtE.tup {H : Hp} {p : Addr} {xs : List V} (h : H p = some (.tup xs)) (hz : xs.length ≤ 100000) (ha : ∀ x ∈ xs, AtE H x) : AtE H (.ref p) := by
  obtain ⟨ds, hl, hs⟩ := pick_all ha
  exact ⟨_, .tup h hz hl hs⟩
theorem AtE.rg {H : Hp} {p : Addr} {a b : Int} (h : H p = some (.tup (rgV a b))) (hz : (b - a).toNat ≤ 100000) : AtE H (.ref p) := by
  refine .tup h (by rw [rgV_length]; exact hz) fun x hx => ?_
  unfold rgV at hx
  obtain ⟨i, _, rfl⟩ := List.mem_map.mp hx
  exact ⟨_, .int _⟩
theorem AtE.pr {H : Hp} {p : Addr} {u v : Int} (h : H p = some (.tup [.int u, .int v])) : AtE H (.ref p) := by
  refine .tup h (by show (2 : Nat) ≤ 100000; decide) fun x hx => ?_
  rcases List.mem_cons.mp hx with rfl | hx
  · exact ⟨_, .int _⟩
  · rw [List.mem_singleton.mp hx]
    exact ⟨_, .int _⟩
theorem AtE.two {H : Hp} {p : Addr} {x y : V} (h : H p = some (.tup [x, y])) (a : AtE H x) (b : AtE H y) : AtE H (.ref p) := by
  refine .tup h (by show (2 : Nat) ≤ 100000; decide) fun z hz => ?_
  rcases List.mem_cons.mp hz with rfl | hz
  · exact a
  · rw [List.mem_singleton.mp hz]
    exact b
theorem Okd.at {D : Addr} {B : Nat} {H : Hp} {x : V} (o : Okd D B H x) (h : B ≤ 100000) : AtE H x := by
  obtain ⟨d, a⟩ := o
  exact ⟨d, a.at h⟩
theorem Dk.tupNe {c D p : Addr} {ns : List Int} {t : Nat} {H : Hp} {xs : List V} (d : Dk c D ns t H) (h : H p = some (.tup xs)) : p ≠ D := fun e => by
  obtain ⟨ys, q⟩ := d.someD
  rw [e, q] at h
  cases h
theorem ShapeAt.okd {c D p : Addr} {ns : List Int} {t B : Nat} {H : Hp} {ws : List Int} {ls : List (Int × Int)} (d : Dk c D ns t H) (h : ShapeAt H p ws ls) (h1 : ws.length ≤ B) (h2 : ls.length ≤ B) (hB : 2 ≤ B) : Okd D B H (.ref p) := by
  obtain ⟨q, r, rs, hp, hq, hr, lk⟩ := h
  refine .tup (d.tupNe hp) hp hB fun x hx => ?_
  rcases List.mem_cons.mp hx with rfl | hx
  · refine .tup (d.tupNe hq) hq (by rw [List.length_map]; exact h1) fun x hx => ?_
    obtain ⟨i, _, rfl⟩ := List.mem_map.mp hx
    exact .int i
  · rw [List.mem_singleton.mp hx]
    refine .tup (d.tupNe hr) hr (by rw [List.length_map, lk.1]; exact h2) fun x hx => ?_
    obtain ⟨a, ha, rfl⟩ := List.mem_map.mp hx
    obtain ⟨i, hi, e⟩ := List.getElem_of_mem ha
    have hi2 : i < ls.length := by rw [← lk.1]; exact hi
    have hpp := lk.2 i a _ (List.getElem?_eq_some_iff.mpr ⟨hi, e⟩) (List.getElem?_eq_getElem hi2)
    refine .tup (d.tupNe hpp) hpp hB fun x hx => ?_
    rcases List.mem_cons.mp hx with rfl | hx
    · exact .int _
    · rw [List.mem_singleton.mp hx]
      exact .int _
/-- a list of pairs of ints -/
def PrL (H : Hp) (L : Addr) (xs : List V) : Prop := H L = some (.lst xs) ∧ ∀ x ∈ xs, ∃ (p : Addr) (u v : Int), x = .ref p ∧ H p = some (.tup [.int u, .int v])
abbrev N_law : List Str := ["_law_script", "_law_deck_here", "_law_road", "_law_thing", "_law_k", "_law_links", "_law_due", "_law_found", "_law_kind", "e"]
def t_law_e (K : PySem.W.Frag) : TS := (tAsg (tTup (tCons (tTupRg (tRg1 (tC (.int 201)))) (tCons (tCB (fTupleOf K) (tCons (tVar 5) tNil)) tNil))) (gName 3))
def t_law_d (K : PySem.W.Frag) : TS := (tSeq (tFor (iRng1 (tCons (tCB (fLen K) (tCons (tVar 5) tNil)) tNil)) (gName 4) (tAsg (tTup (tCons (tOp rAddI (tC (.int 100)) (tOp rDivI (tVar 4) (tC (.int 20)))) (tCons (tOp rModI (tVar 4) (tC (.int 20))) tNil))) (gSub (tVar 5) (tVar 4) rSetL)))
    (t_law_e K))
def t_law_c (K : PySem.W.Frag) : TS := (tSeq (tAsg (tLc (iRng1 (tCons (tOp rAddI (tC (.int 1990)) (tCall (sp_l_draw K) [] E0 (tCons (tVar 1) (tCons (tC (.int 21)) tNil)))) tNil)) (gName 4) tYes (tTup (tCons (tC (.int 0)) (tCons (tC (.int 0)) tNil))) [4]) (gName 5))
    (t_law_d K))
def t_law_b (K : PySem.W.Frag) : TS := (tSeq (tAsg (tTup (tCons (tTupRg (tRg1 (tOp rAddI (tC (.int 390)) (tCall (sp_l_draw K) [] E0 (tCons (tVar 1) (tCons (tC (.int 21)) tNil)))))) (tCons (tTup tNil) tNil))) (gName 3))
    (tIfS (tTest (tOp rEq (tCall (sp_l_draw K) [] E0 (tCons (tVar 1) (tCons (tC (.int 2)) tNil))) (tC (.int 0)))) (t_law_c K) tNext))
def t_law_f (K : PySem.W.Frag) : TS := (tSeq (tAsg (tCall (sp_l_shape K) [] E0 (tCons (tVar 1) (tCons (tC (.int 6)) tNil))) (gName 3))
    (tFor (iRng1 (tCons (tOp rAddI (tC (.int 1)) (tCall (sp_l_draw K) [] E0 (tCons (tVar 1) (tCons (tC (.int 3)) tNil)))) tNil)) (gName 4) (tAsg (tCall (sp_l_bent K) [] E0 (tCons (tVar 1) (tCons (tVar 3) (tCons (tC (.int 3)) tNil)))) (gName 3))))
def t_law_end (K : PySem.W.Frag) : TS := (tSeq (tIfS (tB (tVar 6)) (tRet (tAndV (tOp fIsN (tVar 8) (tC .non)) (tOp rIsB (tVar 7) (tC (.bl true))))) tNext)
    (tRet (tOp rIsB (tVar 8) (tC (.bl true)))))
def t_law_rest (K : PySem.W.Frag) : TS := (tSeq (tAsg (tCall (sp_l_is_shape K) [] E0 (tCons (tVar 3) tNil)) (gName 6))
    (tSeq (tAsg (tC .non) (gName 7))
    (tSeq (tAsg (tC .non) (gName 8))
    (tSeq (tTryAs K (.ref (He.ga K "HouseError")) 9 (fun W => (tAsg (tCallS (sp_check K) (WE W) (tCons (tVar 3) tNil)) (gName 7))) (fun xa xcls xd => (tAsg (tAndV (tCB (rIsX K xa xcls xd) (tCons (tVar 9) (tCons (tC (.ref (He.ga K "NoShape"))) tNil))) (tAndV (tCB (rIsX K xa xcls xd) (tCons (tVar 9) (tCons (tC (.ty "ValueError")) tNil))) (tNotV (tCB (rIsX K xa xcls xd) (tCons (tVar 9) (tCons (tC (.ref (He.ga K "TooMany"))) tNil)))))) (gName 8))))
    (t_law_end K)))))
def t_law (K : PySem.W.Frag) : TS := (tSeq (tAsg (tCall (sp_l_deck K) [] E0 (tCons (tVar 0) tNil)) (gName 1))
    (tSeq (tAsg (tCall (sp_l_draw K) [] E0 (tCons (tVar 1) (tCons (tC (.int 8)) tNil))) (gName 2))
    (tSeq (tIfS (tTest (tOp rEq (tVar 2) (tC (.int 0)))) (tAsg (tCall (sp_l_odd K) [] E0 (tCons (tVar 1) tNil)) (gName 3)) (tIfS (tTest (tOp rEq (tVar 2) (tC (.int 1)))) (t_law_b K) (t_law_f K)))
    (t_law_rest K))))
section
variable {K : PySem.W.Frag} {vs : List V} {H : Hp} {Q : VK} {E : XK}
structure Kinds (K : PySem.W.Frag) : Prop where
  em : PySem.W.exmOne K (.ref (He.ga K "NoShape")) (.ref (He.ga K "HouseError")) = some true
  ec : ExcC K (He.ga K "NoShape")
  k1 : PySem.W.kitOne K (.ref (He.ga K "NoShape")) (.ref (He.ga K "NoShape")) = some true
  k2 : PySem.W.kitOne K (.ref (He.ga K "NoShape")) (.type "ValueError") = some true
  k3 : PySem.W.kitOne K (.ref (He.ga K "NoShape")) (.ref (He.ga K "TooMany")) = some false
def exB (K : PySem.W.Frag) : Bool :=
  decide (PySem.W.findIn K (.ref (He.ga K "NoShape")) "__getattribute__" = some (some (.builtin "BaseException.__getattribute__"))) && (decide (PySem.W.findIn K (.ref (He.ga K "NoShape")) "__getattr__" = some none) &&
  (decide (PySem.W.subIn K (.ref (He.ga K "NoShape")) (.type "BaseException") = some true) && (PySem.W.hasDictIn K (He.ga K "NoShape") &&
  (decide (PySem.W.findIn K (.ref (He.ga K "NoShape")) "__class__" = some (some (.builtin "object.__class__"))) &&
  (decide (PySem.W.specialIn K (.builtin "object.__class__") "__get__" = some (some (.builtin "getset_descriptor.__get__"))) && (decide (PySem.W.takesIn K (.builtin "object.__class__") = some true) &&
  (decide (PySem.W.mroIn K (He.ga K "NoShape") (.type "object") = some true) && (decide (PySem.W.exmOne K (.ref (He.ga K "NoShape")) (.ref (He.ga K "HouseError")) = some true) &&
  (decide (PySem.W.kitOne K (.ref (He.ga K "NoShape")) (.ref (He.ga K "NoShape")) = some true) && (decide (PySem.W.kitOne K (.ref (He.ga K "NoShape")) (.type "ValueError") = some true) &&
  decide (PySem.W.kitOne K (.ref (He.ga K "NoShape")) (.ref (He.ga K "TooMany")) = some false)))))))))))
theorem kinds_of {K : PySem.W.Frag} (h : exB K = true) : Kinds K := by
  unfold exB at h
  simp only [Bool.and_eq_true, decide_eq_true_eq] at h
  obtain ⟨h1, h2, h3, h4, h5, h6, h7, h8, h9, h10, h11, h12⟩ := h
  exact ⟨h9, ⟨h1, h2, h3, h4, h5, h6, h7, h8⟩, h10, h11, h12⟩
/-! ### a head with a Bool more -/
abbrev AlY : Type := He.AlD × Bool
def obsYG (n : Nat) (fa : List He.Fa) (fn : List He.DefD) (ex : PySem.W.Frag → Bool) (g : Addr → Option Obj) : AlY := (He.obsD fa fn (He.frG g (He.asD g n)), ex (He.frG g (He.asD g n)))
def hookY (n : Nat) (fa : List He.Fa) (fn : List He.DefD) (ex : PySem.W.Frag → Bool) : PySem.W.Hook where
  α := AlY
  obs := fun s => obsYG n fa fn ex s.heap.get?
  val := fun _ => (He.valD fn, true)
  says := fun _ h => ∃ K : PySem.W.Frag, K.In h ∧ He.SaysD fa fn K ∧ ex K = true
  of := fun _ _ e => ⟨_, He.frG_in, congrArg (fun z : AlY => z.1) e, congrArg (fun z : AlY => z.2) e⟩
  keeps := fun _ _ _ ⟨K, hK, c⟩ k => ⟨K, PySem.W.Frag.In.keeps hK k, c⟩
theorem obsYG_eq {n : Nat} {fa : List He.Fa} {fn : List He.DefD} {ex : PySem.W.Frag → Bool} {g : Addr → Option Obj} {s : Shared} (h : ∀ a, g a = s.heap.get? a) : obsYG n fa fn ex g = (hookY n fa fn ex).obs s := by
  have e : g = s.heap.get? := funext h
  rw [e] <;> rfl
theorem rel_ref {a : Addr} : ∀ u, RelV (.ref a) u → u = Value.ref a := fun u h => by
  cases h
  rfl
theorem rel_ty {a : String} : ∀ u, RelV (.ty a) u → u = Value.type a := fun u h => by
  cases h
  rfl
theorem law_rest (C : Kinds K) {a D : V} {r x : V} {z4 z5 : Option V} (ax : AtE H x) (k : ∀ H', Q (.bl true) H') : t_law_rest K { nx := fun _ H' => Q .non H', rt := Q } [some a, some D, some r, some x, z4, z5, none, none, none, none] H := by
  obtain ⟨d, ax⟩ := ax
  refine ⟨_, rfl, x, d, rfl, ax, fun H1 s1 => ?_⟩
  rw [lawShape_eq]
  refine ⟨_, rfl, x, d, rfl, ax.mono s1, fun hd H2 s2 => ?_, fun hd H2 s2 => ?_⟩
  · rw [hd]
    refine ⟨_, rfl, _, rfl, ?_⟩
    refine iteT ⟨_, rfl, rfl, _, rfl, iteT ⟨_, rfl, _, _, rfl, rfl, k _⟩⟩
  · rw [hd]
    refine ⟨true, C.em, fun _ b hb => ?_, fun z => nomatch z⟩
    refine ⟨_, rfl, _, rfl, rfl, C.ec, _, _, _, rfl, rel_ref, C.k1, _, rfl, iteT ?_⟩
    refine ⟨_, rfl, _, rfl, rfl, C.ec, _, _, _, rfl, rel_ty, C.k2, _, rfl, iteT ?_⟩
    refine ⟨_, rfl, _, rfl, rfl, C.ec, _, _, _, rfl, rel_ref, C.k3, _, rfl, ?_⟩
    refine ⟨_, rfl, _, rfl, iteF ⟨_, rfl, _, _, rfl, rfl, k _⟩⟩
theorem pure_law (C : Kinds K) (h : sp_law K vs H Q E) : t_law K { nx := fun _ H' => Q .non H', rt := Q } (start N_law vs) H := by
  obtain ⟨a, ns, rfl, hS, hl, k⟩ := h
  refine ⟨_, rfl, a, ns, rfl, hS, hl, fun c D H1 sm nc nD dk => ?_⟩
  refine ⟨_, rfl, c, D, ns, 0, 8, rfl, dk, by decide, by decide, by decide, fun r H2 r0 r1 d2 fr2 => ?_⟩
  refine ⟨_, rfl, rfl, _, rfl, ite2 (fun e => ?_) (fun e => ?_)⟩
  · refine ⟨_, rfl, c, D, ns, 0 + 1, rfl, d2, by decide, fun x H3 k3 d3 o3 => law_rest C (o3.at (by decide)) k⟩
  refine ⟨_, rfl, rfl, _, rfl, ite2 (fun e => ?_) (fun e => ?_)⟩
  · -- many versions, or many links
    refine ⟨_, rfl, c, D, ns, 0 + 1, 21, rfl, d2, by decide, by decide, by decide, fun v H3 v0 v1 d3 fr3 => ?_⟩
    refine ⟨_, _, rfl, rfl, _, rfl, RgOk.of_le (by decide) (by omega) (by decide) (by omega), fun q nq => ?_⟩
    refine ⟨Nat.zero_le _, fun q2 nq2 => ⟨by show (2 : Nat) ≤ sizeLine; decide, fun p np => ?_⟩⟩
    have s1 := samNw (o := .tup (rgV 0 (390 + v))) nq
    have s2 := samNw (o := .tup []) nq2
    have s3 := samNw (o := .tup [.ref q, .ref q2]) np
    have d4 := d3.kp ((s1.trans s2).trans s3)
    have aE : Okd D 1000 (upd (upd (upd H3 q (.tup (rgV 0 (390 + v)))) q2 (.tup [])) p (.tup [.ref q, .ref q2])) (.ref p) := by
      refine .tup (d4.tupNe updS) updS (by show (2 : Nat) ≤ 1000; decide) fun z hz => ?_
      rcases List.mem_cons.mp hz with rfl | hz
      · have hq := s3 _ _ (s2 _ _ (updS (H := H3) (a := q) (o := .tup (rgV 0 (390 + v)))))
        refine .tup (d4.tupNe hq) hq (by rw [rgV_length]; omega) fun x hx => ?_
        unfold rgV at hx
        obtain ⟨i, _, rfl⟩ := List.mem_map.mp hx
        exact .int _
      · rw [List.mem_singleton.mp hz]
        have hq := s3 _ _ (updS (H := upd H3 q (.tup (rgV 0 (390 + v)))) (a := q2) (o := .tup []))
        exact .tup (d4.tupNe hq) hq (Nat.zero_le _) fun x hx => by cases hx
    generalize upd (upd (upd H3 q (.tup (rgV 0 (390 + v)))) q2 (.tup [])) p (.tup [.ref q, .ref q2]) = H4 at aE d4 ⊢
    refine ⟨_, rfl, c, D, ns, _, 2, rfl, d4, by decide, by decide, by decide, fun w H5 w0 w1 d5 fr5 => ⟨rfl, _, rfl, ite2 (fun e2 => ?_) (fun e2 => ?_)⟩⟩
    · -- links
      refine ⟨_, rfl, c, D, ns, _, 21, rfl, d5, by decide, by decide, by decide, fun u H6 u0 u1 d6 fr6 => ?_⟩
      refine ⟨_, _, rfl, rfl, _, rfl, (by show -(2 ^ 62) ≤ 1990 + u; omega), (by show 1990 + u < 2 ^ 62; omega), fun L nL => ?_⟩
      have keep : ∀ {H : Hp} {xs ys : List V} {T : Addr} {o : List V}, PrL H L xs → H T = none → (∀ y ∈ ys, y ∈ xs ∨ y = .ref T) → (∃ u v, o = [.int u, .int v]) → PrL (upd (upd H T (.tup o)) L (.lst ys)) L ys := by
        intro H xs ys T o pr nT hys ho
        obtain ⟨u, v, rfl⟩ := ho
        have nTL : T ≠ L := fun z => by rw [z, pr.1] at nT; cases nT
        refine ⟨updS, fun y hy => ?_⟩
        rcases hys y hy with hy | rfl
        · obtain ⟨p, u, v, rfl, hp⟩ := pr.2 y hy
          have n1 : p ≠ L := fun z => by rw [z, pr.1] at hp; cases hp
          exact ⟨p, u, v, rfl, updN n1 (updN (ne_of_none hp nT) hp)⟩
        · exact ⟨T, u, v, rfl, updN nTL updS⟩
      refine lc_range (lo := 0) (n := (1990 + u).toNat) (fun i H' => ∃ xs : List V, xs.length = i ∧ PrL H' L xs) ⟨[], rfl, updS, fun x hx => by cases hx⟩ ?_ ?_
      · rintro i H' hi ⟨xs, hxs, pr⟩
        refine ⟨rfl, ?_⟩
        refine ⟨by show (2 : Nat) ≤ sizeLine; decide, fun T nT => ⟨xs, updN (ne_of_none pr.1 nT) pr.1, ?_, xs ++ [.ref T], ?_, keep pr nT (fun y hy => ?_) ⟨0, 0, rfl⟩⟩⟩
        · exact Nat.lt_of_le_of_lt (by omega : xs.length ≤ 100000) (by decide)
        · rw [List.length_append, hxs]
          rfl
        · rcases List.mem_append.mp hy with hy | hy
          · exact .inl hy
          · exact .inr (List.mem_singleton.mp hy)
      · rintro H7 ⟨xs, hxs, pr⟩
        refine ⟨_, rfl, lenL pr.1 ⟨_, rfl, ?_, ?_, ?_⟩⟩
        · omega
        · omega
        refine for_range (lo := 0) (fun i σ H' => ∃ (ys : List V) (z4 : Option V), ys.length = xs.length ∧ σ = [some (.ref a), some (.ref D), some (.int r), some (.ref p), z4, some (.ref L), none, none, none, none] ∧ PrL H' L ys) ⟨xs, none, rfl, rfl, pr⟩ ?_ ?_
        · rintro i σ H' hi ⟨ys, z4, hy, rfl, pr⟩
          have hi2 : i < ys.length := by omega
          refine ⟨_, rfl, _, _, rfl, rfl, wide_div (b := 100) (by decide) (by decide) (by decide) (by decide), _, _, rfl, rfl, _, rfl, _, _, rfl, rfl, (by show (0 : Int) < 20; decide), (by show (2 : Nat) ≤ sizeLine; decide), fun T nT => ?_⟩
          refine ⟨_, rfl, _, rfl, L, ys, _, i, rfl, rfl, updN (ne_of_none pr.1 nT) pr.1, ?_, ys.set i (.ref T), _, ?_, rfl, keep pr nT (fun y hy => ?_) ⟨_, _, rfl⟩⟩
          · unfold ixN
            rw [if_pos (by omega), if_pos (by omega)]
            congr 1
            omega
          · rw [List.length_set, hy]
          · rcases List.mem_or_eq_of_mem_set hy with hy | hy
            · exact .inl hy
            · exact .inr hy
        · rintro σ H' ⟨ys, z4, hy, rfl, pr⟩
          refine ⟨_, rfl, RgOk.of_le (by decide) (by decide) (by decide) (by decide), fun q nq => ⟨_, rfl, L, ys, rfl, .inl ⟨sqL (updN (ne_of_none pr.1 nq) pr.1), fun l nl => ⟨by show (2 : Nat) ≤ sizeLine; decide, fun p' np' => ?_⟩⟩⟩⟩
          have s1 := samNw (o := .tup (rgV 0 201)) nq
          have s2 := samNw (o := .tup ys) nl
          have s3 := samNw (o := .tup [.ref q, .ref l]) np'
          refine law_rest C (.two updS (.rg (s3 _ _ (s2 _ _ updS)) (by decide)) (.tup (s3 _ _ updS) (by omega) fun x hx => ?_)) k
          obtain ⟨pp, u, v, rfl, hpp⟩ := pr.2 x hx
          exact .pr (((s1.trans s2).trans s3) _ _ hpp)
    · exact law_rest C ((aE.mono (Kp.fr fr5) (Nat.le_refl _)).at (by decide)) k
  · -- a shape, bent
    refine ⟨_, rfl, c, D, ns, 0 + 1, 6, rfl, d2, by decide, by decide, by decide, fun p ws ls H3 k3 d3 sh g hlen hlk => ?_⟩
    have h1 : ws.length ≤ 6 := by
      have : ((ws.length : Nat) : Int) ≤ 6 := hlen
      omega
    have h2 : ls.length ≤ 36 := Nat.le_trans hlk (Nat.mul_le_mul h1 h1)
    have o3 : Okd D 36 H3 (.ref p) := sh.okd d3 (by omega) h2 (by decide)
    refine ⟨_, rfl, c, D, ns, _, 3, rfl, d3, by decide, by decide, by decide, fun v H4 v0 v1 d4 fr4 => ?_⟩
    refine ⟨_, _, rfl, rfl, _, rfl, (by show -(2 ^ 62) ≤ 1 + v; omega), (by show 1 + v < 2 ^ 62; omega), ?_⟩
    refine for_range (lo := 0) (n := (1 + v).toNat) (fun i σ H' => ∃ x z4, σ = [some (.ref a), some (.ref D), some (.int r), some x, z4, none, none, none, none, none] ∧ Dk c D ns (0 + 1 + 4000 + 1 + 12 * i) H' ∧ Okd D (36 + i) H' x) ⟨_, none, rfl, d4, o3.mono (Kp.fr fr4) (Nat.le_refl _)⟩ ?_ ?_
    · rintro i σ H' hi ⟨x, z4, rfl, dd, oo⟩
      refine ⟨_, rfl, _, rfl, c, D, ns, _, x, 36 + i, rfl, by decide, dd, by omega, oo, by omega, by omega, fun x' H5 k5 d5 o5 => ?_⟩
      exact ⟨x', _, rfl, d5, o5⟩
    · rintro σ H' ⟨x, z4, rfl, dd, oo⟩
      exact law_rest C (oo.at (by omega)) k
end
end Fw

set_option Elab.async false
set_option linter.all false
set_option maxRecDepth 100000
set_option maxHeartbeats 4000000
namespace K12
open PySem L2 RZ RT Fw
def top (i : Nat) : Stmt := PySem.Challenge.pw_fewasks_k12_no_shape.main.body.getD i (.Pass ⟨0, 0, 0, 0⟩)
abbrev FnP (K : PySem.W.Frag) (x : Str) (st : Stmt) (f : Addr) (fd : FuncData) : Prop := FunD K x x (defArgs st) (defBody st) (defScope st) [] [] f fd
abbrev s_is_int : Stmt := top 5
theorem sc_is_int : FnScope N_is_int ["thing"] (defScope s_is_int) := ⟨rfl, rfl, rfl, by decide +kernel, rfl, by decide +kernel, by decide +kernel⟩
abbrev s_is_pair : Stmt := top 6
theorem sc_is_pair : FnScope N_is_pair ["thing"] (defScope s_is_pair) := ⟨rfl, rfl, rfl, by decide +kernel, rfl, by decide +kernel, by decide +kernel⟩
abbrev s_rises : Stmt := top 7
theorem sc_rises : FnScope N_rises ["things"] (defScope s_rises) := ⟨rfl, rfl, rfl, by decide +kernel, rfl, by decide +kernel, by decide +kernel⟩
abbrev s_is_ints : Stmt := top 8
theorem sc_is_ints : FnScope N_is_ints ["thing"] (defScope s_is_ints) := ⟨rfl, rfl, rfl, by decide +kernel, rfl, by decide +kernel, by decide +kernel⟩
abbrev s_is_rising : Stmt := top 9
theorem sc_is_rising : FnScope N_is_rising ["thing"] (defScope s_is_rising) := ⟨rfl, rfl, rfl, by decide +kernel, rfl, by decide +kernel, by decide +kernel⟩
abbrev s_are_versions : Stmt := top 14
theorem sc_are_versions : FnScope N_are_versions ["thing"] (defScope s_are_versions) := ⟨rfl, rfl, rfl, by decide +kernel, rfl, by decide +kernel, by decide +kernel⟩
abbrev s_is_link : Stmt := top 16
theorem sc_is_link : FnScope N_is_link ["thing", "known"] (defScope s_is_link) := ⟨rfl, rfl, rfl, by decide +kernel, rfl, by decide +kernel, by decide +kernel⟩
abbrev s_are_links : Stmt := top 15
theorem sc_are_links : FnScope N_are_links ["thing", "versions"] (defScope s_are_links) := ⟨rfl, rfl, rfl, by decide +kernel, rfl, by decide +kernel, by decide +kernel⟩
abbrev s_check : Stmt := top 13
theorem sc_check : FnScope N_check ["thing"] (defScope s_check) := ⟨rfl, rfl, rfl, by decide +kernel, rfl, by decide +kernel, by decide +kernel⟩
abbrev s_l_deck : Stmt := top 18
theorem sc_l_deck : FnScope N_l_deck ["_law_script"] (defScope s_l_deck) := ⟨rfl, rfl, rfl, by decide +kernel, rfl, by decide +kernel, by decide +kernel⟩
abbrev s_l_mixed : Stmt := top 19
theorem sc_l_mixed : FnScope N_l_mixed ["_law_cell", "_law_turn"] (defScope s_l_mixed) := ⟨rfl, rfl, rfl, by decide +kernel, rfl, by decide +kernel, by decide +kernel⟩
abbrev s_l_draw : Stmt := top 20
theorem sc_l_draw : FnScope N_l_draw ["_law_deck_here", "_law_many"] (defScope s_l_draw) := ⟨rfl, rfl, rfl, by decide +kernel, rfl, by decide +kernel, by decide +kernel⟩
abbrev s_l_int : Stmt := top 21
theorem sc_l_int : FnScope N_l_int ["_law_thing"] (defScope s_l_int) := ⟨rfl, rfl, rfl, by decide +kernel, rfl, by decide +kernel, by decide +kernel⟩
abbrev s_l_shape : Stmt := top 22
theorem sc_l_shape : FnScope N_l_shape ["_law_deck_here", "_law_most"] (defScope s_l_shape) := ⟨rfl, rfl, rfl, by decide +kernel, rfl, by decide +kernel, by decide +kernel⟩
abbrev s_l_odd : Stmt := top 23
theorem sc_l_odd : FnScope N_l_odd ["_law_deck_here"] (defScope s_l_odd) := ⟨rfl, rfl, rfl, by decide +kernel, rfl, by decide +kernel, by decide +kernel⟩
abbrev s_l_bent : Stmt := top 24
theorem sc_l_bent : FnScope N_l_bent ["_law_deck_here", "_law_thing", "_law_depth"] (defScope s_l_bent) := ⟨rfl, rfl, rfl, by decide +kernel, rfl, by decide +kernel, by decide +kernel⟩
abbrev s_l_rising : Stmt := top 25
theorem sc_l_rising : FnScope N_l_rising ["_law_thing"] (defScope s_l_rising) := ⟨rfl, rfl, rfl, by decide +kernel, rfl, by decide +kernel, by decide +kernel⟩
abbrev s_l_is_shape : Stmt := top 26
theorem sc_l_is_shape : FnScope N_l_is_shape ["_law_thing"] (defScope s_l_is_shape) := ⟨rfl, rfl, rfl, by decide +kernel, rfl, by decide +kernel, by decide +kernel⟩
abbrev s_law : Stmt := top 27
theorem sc_law : FnScope N_law ["_law_script"] (defScope s_law) := ⟨rfl, rfl, rfl, by decide +kernel, rfl, by decide +kernel, by decide +kernel⟩
structure Tx (K : PySem.W.Frag) (mg : Str → Option Value) : Type where
  fd_is_int : FuncData
  F_is_int : FnP K "is_int" s_is_int (He.fAd K ("is_int", none)) fd_is_int
  g_is_int : mg "is_int" = some (.ref (He.fAd K ("is_int", none)))
  fd_is_pair : FuncData
  F_is_pair : FnP K "is_pair" s_is_pair (He.fAd K ("is_pair", none)) fd_is_pair
  g_is_pair : mg "is_pair" = some (.ref (He.fAd K ("is_pair", none)))
  fd_rises : FuncData
  F_rises : FnP K "rises" s_rises (He.fAd K ("rises", none)) fd_rises
  g_rises : mg "rises" = some (.ref (He.fAd K ("rises", none)))
  fd_is_ints : FuncData
  F_is_ints : FnP K "is_ints" s_is_ints (He.fAd K ("is_ints", none)) fd_is_ints
  g_is_ints : mg "is_ints" = some (.ref (He.fAd K ("is_ints", none)))
  fd_is_rising : FuncData
  F_is_rising : FnP K "is_rising" s_is_rising (He.fAd K ("is_rising", none)) fd_is_rising
  g_is_rising : mg "is_rising" = some (.ref (He.fAd K ("is_rising", none)))
  fd_are_versions : FuncData
  F_are_versions : FnP K "are_versions" s_are_versions (He.fAd K ("are_versions", none)) fd_are_versions
  g_are_versions : mg "are_versions" = some (.ref (He.fAd K ("are_versions", none)))
  fd_is_link : FuncData
  F_is_link : FnP K "is_link" s_is_link (He.fAd K ("is_link", none)) fd_is_link
  g_is_link : mg "is_link" = some (.ref (He.fAd K ("is_link", none)))
  fd_are_links : FuncData
  F_are_links : FnP K "are_links" s_are_links (He.fAd K ("are_links", none)) fd_are_links
  g_are_links : mg "are_links" = some (.ref (He.fAd K ("are_links", none)))
  fd_check : FuncData
  F_check : FnP K "check" s_check (He.fAd K ("check", none)) fd_check
  g_check : mg "check" = some (.ref (He.fAd K ("check", none)))
  fd_l_deck : FuncData
  F_l_deck : FnP K "_law_deck" s_l_deck (He.fAd K ("_law_deck", none)) fd_l_deck
  g_l_deck : mg "_law_deck" = some (.ref (He.fAd K ("_law_deck", none)))
  fd_l_mixed : FuncData
  F_l_mixed : FnP K "_law_mixed" s_l_mixed (He.fAd K ("_law_mixed", none)) fd_l_mixed
  g_l_mixed : mg "_law_mixed" = some (.ref (He.fAd K ("_law_mixed", none)))
  fd_l_draw : FuncData
  F_l_draw : FnP K "_law_draw" s_l_draw (He.fAd K ("_law_draw", none)) fd_l_draw
  g_l_draw : mg "_law_draw" = some (.ref (He.fAd K ("_law_draw", none)))
  fd_l_int : FuncData
  F_l_int : FnP K "_law_int" s_l_int (He.fAd K ("_law_int", none)) fd_l_int
  g_l_int : mg "_law_int" = some (.ref (He.fAd K ("_law_int", none)))
  fd_l_shape : FuncData
  F_l_shape : FnP K "_law_shape" s_l_shape (He.fAd K ("_law_shape", none)) fd_l_shape
  g_l_shape : mg "_law_shape" = some (.ref (He.fAd K ("_law_shape", none)))
  fd_l_odd : FuncData
  F_l_odd : FnP K "_law_odd" s_l_odd (He.fAd K ("_law_odd", none)) fd_l_odd
  g_l_odd : mg "_law_odd" = some (.ref (He.fAd K ("_law_odd", none)))
  fd_l_bent : FuncData
  F_l_bent : FnP K "_law_bent" s_l_bent (He.fAd K ("_law_bent", none)) fd_l_bent
  g_l_bent : mg "_law_bent" = some (.ref (He.fAd K ("_law_bent", none)))
  fd_l_rising : FuncData
  F_l_rising : FnP K "_law_rising" s_l_rising (He.fAd K ("_law_rising", none)) fd_l_rising
  g_l_rising : mg "_law_rising" = some (.ref (He.fAd K ("_law_rising", none)))
  fd_l_is_shape : FuncData
  F_l_is_shape : FnP K "_law_is_shape" s_l_is_shape (He.fAd K ("_law_is_shape", none)) fd_l_is_shape
  g_l_is_shape : mg "_law_is_shape" = some (.ref (He.fAd K ("_law_is_shape", none)))
  fd_law : FuncData
  F_law : FnP K "law" s_law (He.fAd K ("law", none)) fd_law
  z_ValueError : mg "ValueError" = none
  z_all : mg "all" = none
  z_bool : mg "bool" = none
  z_int : mg "int" = none
  z_isinstance : mg "isinstance" = none
  z_len : mg "len" = none
  z_list : mg "list" = none
  z_range : mg "range" = none
  z_tuple : mg "tuple" = none
  z_zip : mg "zip" = none
  c_MOST_LINKS : ∃ t, mg "MOST_LINKS" = some (.int 2000 t)
  c_MOST_VERSIONS : ∃ t, mg "MOST_VERSIONS" = some (.int 400 t)
  gc_HouseError : mg "HouseError" = some (.ref (He.ga K "HouseError"))
  gc_NoShape : mg "NoShape" = some (.ref (He.ga K "NoShape"))
  gc_TooMany : mg "TooMany" = some (.ref (He.ga K "TooMany"))
  x_NoShape : PySem.W.excIn K (He.ga K "NoShape") He.veBase "ValueError.__new__" = true ∧ PySem.W.keepIn K (.ref (He.ga K "NoShape")) = true ∧ PySem.W.subIn K (.ref (He.ga K "NoShape")) (.type "BaseException") = some true ∧ PySem.W.typeIn K (.ref (He.ga K "NoShape")) = some (.type "type")
  more : Fw.Kinds K
section
variable {P : Program} {w : World} {K : PySem.W.Frag} {mg : Str → Option Value} {base : Heap}
theorem b_is_int (T : Tx K mg) : Binds K T.fd_is_int ["thing"] [] := T.F_is_int.bindsN fun _ _ _ _ _ _ us hl => match us, hl with | [_], _ => rfl
theorem ok_is_int (T : Tx K mg) : FnOk P w K mg base CX0 1 (He.fAd K ("is_int", none)) T.fd_is_int ["thing"] (sp_is_int K) := by
  refine T.F_is_int.ok sc_is_int (fun vs H Q E h => len_is_int h) (fun cdv A outer s H vs Q E hr h => ⟨t_is_int K, PSs.nox ?_, pure_is_int h⟩)
  exact (pss_one (ps_ret (pe_and (pe_callB call_isi (by rfl) T.z_isinstance (by decide +kernel) (pa_cons (pv 0) (pa_cons (pe_bltn (v := .ty "int") (by rfl) T.z_int (by decide +kernel) rfl) pa_nil))) (pe_one (pe_not (pe_callB call_isi (by rfl) T.z_isinstance (by decide +kernel) (pa_cons (pv 0) (pa_cons (pe_bltn (v := .ty "bool") (by rfl) T.z_bool (by decide +kernel) rfl) pa_nil))))))))
theorem b_is_pair (T : Tx K mg) : Binds K T.fd_is_pair ["thing"] [] := T.F_is_pair.bindsN fun _ _ _ _ _ _ us hl => match us, hl with | [_], _ => rfl
theorem ok_is_pair (T : Tx K mg) : FnOk P w K mg base CX0 1 (He.fAd K ("is_pair", none)) T.fd_is_pair ["thing"] (sp_is_pair K) := by
  refine T.F_is_pair.ok sc_is_pair (fun vs H Q E h => len_is_pair h) (fun cdv A outer s H vs Q E hr h => ⟨t_is_pair K, PSs.nox ?_, pure_is_pair h⟩)
  exact (pss_one (ps_ret (pe_and (pe_callB call_isi (by rfl) T.z_isinstance (by decide +kernel) (pa_cons (pv 0) (pa_cons (pe_bltn (v := .ty "tuple") (by rfl) T.z_tuple (by decide +kernel) rfl) pa_nil))) (pe_one (pe_cmpR op_eq (pe_callB call_len (by rfl) T.z_len PySem.boot_len (pa_cons (pv 0) pa_nil)) pe_int (nomark _))))))
theorem b_rises (T : Tx K mg) : Binds K T.fd_rises ["things"] [] := T.F_rises.bindsN fun _ _ _ _ _ _ us hl => match us, hl with | [_], _ => rfl
theorem ok_rises (T : Tx K mg) : FnOk P w K mg base CX0 1 (He.fAd K ("rises", none)) T.fd_rises ["things"] (sp_rises K) := by
  refine T.F_rises.ok sc_rises (fun vs H Q E h => len_rises h) (fun cdv A outer s H vs Q E hr h => ⟨t_rises K, PSs.nox ?_, pure_rises h⟩)
  exact (pss_one (ps_ret (pe_callB (cr_all rfl) (by rfl) T.z_all (by decide +kernel) (pa_cons (pe_lc (own := [("low", 1), ("high", 2)]) (g := (gTup K 2 (gCons (gName 1) (gCons (gName 2) gNil)))) (tt := tYes) (te := (tOp (fLtA K) (tVar 1) (tVar 2))) rfl sc_rises.nd (pi_zipA (by rfl) T.z_zip (pa_cons (pv 0) (pa_cons (pe_slice sl_tupA (pv 0) (po_some pe_int) po_none) pa_nil))) (blkOk_by (own := [("low", 1), ("high", 2)]) (N := N_rises) (sc := defScope s_rises) (by decide +kernel)) (fun _ _ _ _ _ => (pg_tup rfl (pgs_cons (pg_name (i := 1) sc_rises.nd rfl (Or.inl rfl)) (pgs_cons (pg_name (i := 2) sc_rises.nd rfl (Or.inl rfl)) pgs_nil)))) (fun _ _ _ _ _ => pts_nil) (fun _ _ _ _ _ => (pe_cmpR (OpR.or op_lt (op_ltT hr.units0)) (pv 1) (pv 2) (nomark _)))) pa_nil))))
theorem b_is_ints (T : Tx K mg) : Binds K T.fd_is_ints ["thing"] [] := T.F_is_ints.bindsN fun _ _ _ _ _ _ us hl => match us, hl with | [_], _ => rfl
theorem ok_is_ints (T : Tx K mg) : FnOk P w K mg base CX0 2 (He.fAd K ("is_ints", none)) T.fd_is_ints ["thing"] (sp_is_intsD K) := by
  refine T.F_is_ints.ok sc_is_ints (fun vs H Q E h => len_is_intsD h) (fun cdv A outer s H vs Q E hr h => ⟨t_is_ints K, PSs.nox ?_, pure_is_intsD h⟩)
  exact (pss_one (ps_ret (pe_and (pe_callB call_isi (by rfl) T.z_isinstance (by decide +kernel) (pa_cons (pv 0) (pa_cons (pe_bltn (v := .ty "tuple") (by rfl) T.z_tuple (by decide +kernel) rfl) pa_nil))) (pe_one (pe_callB (cr_all rfl) (by rfl) T.z_all (by decide +kernel) (pa_cons (pe_lc (own := [("part", 1)]) (g := (gName 1)) (tt := tYes) (te := (tCall (sp_is_int K) [] E0 (tCons (tVar 1) tNil))) rfl sc_is_ints.nd (pi_tup (pv 0)) (blkOk_by (own := [("part", 1)]) (N := N_is_ints) (sc := defScope s_is_ints) (by decide +kernel)) (fun _ _ _ _ _ => (pg_name (i := 1) sc_is_ints.nd rfl (Or.inl rfl))) (fun _ _ _ _ _ => pts_nil) (fun _ _ _ _ _ => (pe_call (ok_is_int T) (hr.mono (by decide)) (by rfl) T.g_is_int T.F_is_int.kp (b_is_int T) .nil pass0 (pa_cons (pv 1) pa_nil)))) pa_nil))))))
theorem b_is_rising (T : Tx K mg) : Binds K T.fd_is_rising ["thing"] [] := T.F_is_rising.bindsN fun _ _ _ _ _ _ us hl => match us, hl with | [_], _ => rfl
theorem ok_is_rising (T : Tx K mg) : FnOk P w K mg base CX0 3 (He.fAd K ("is_rising", none)) T.fd_is_rising ["thing"] (sp_is_rising K) := by
  refine T.F_is_rising.ok sc_is_rising (fun vs H Q E h => len_is_rising h) (fun cdv A outer s H vs Q E hr h => ⟨t_is_rising K, PSs.nox ?_, pure_is_rising h⟩)
  exact (pss_one (ps_ret (pe_and (pe_call (ok_is_ints T) (hr.mono (by decide)) (by rfl) T.g_is_ints T.F_is_ints.kp (b_is_ints T) .nil pass0 (pa_cons (pv 0) pa_nil)) (pe_one (pe_call (ok_rises T) (hr.mono (by decide)) (by rfl) T.g_rises T.F_rises.kp (b_rises T) .nil pass0 (pa_cons (pv 0) pa_nil))))))
theorem b_are_versions (T : Tx K mg) : Binds K T.fd_are_versions ["thing"] [] := T.F_are_versions.bindsN fun _ _ _ _ _ _ us hl => match us, hl with | [_], _ => rfl
theorem ok_are_versions (T : Tx K mg) : FnOk P w K mg base CX0 4 (He.fAd K ("are_versions", none)) T.fd_are_versions ["thing"] (sp_are_versions K) := by
  refine T.F_are_versions.ok sc_are_versions (fun vs H Q E h => len_are_versions h) (fun cdv A outer s H vs Q E hr h => ⟨t_are_versions K, PSs.nox ?_, pure_are_versions h⟩)
  exact (pss_one (ps_ret (pe_and (pe_call (ok_is_rising T) (hr.mono (by decide)) (by rfl) T.g_is_rising T.F_is_rising.kp (b_is_rising T) .nil pass0 (pa_cons (pv 0) pa_nil)) (pe_and (pe_cmpR op_le (pe_callB call_len (by rfl) T.z_len PySem.boot_len (pa_cons (pv 0) pa_nil)) (pe_glob (v := .int 400) (by rfl) T.c_MOST_VERSIONS.choose_spec ⟨_, rfl⟩) (nomark _)) (pe_one (pe_callB (cr_all rfl) (by rfl) T.z_all (by decide +kernel) (pa_cons (pe_lc (own := [("version", 1)]) (g := (gName 1)) (tt := tYes) (te := (tOp rGeI (tVar 1) (tC (.int 0)))) rfl sc_are_versions.nd (pi_tup (pv 0)) (blkOk_by (own := [("version", 1)]) (N := N_are_versions) (sc := defScope s_are_versions) (by decide +kernel)) (fun _ _ _ _ _ => (pg_name (i := 1) sc_are_versions.nd rfl (Or.inl rfl))) (fun _ _ _ _ _ => pts_nil) (fun _ _ _ _ _ => (pe_cmpR op_ge (pv 1) pe_int (nomark _)))) pa_nil)))))))
theorem b_is_link (T : Tx K mg) : Binds K T.fd_is_link ["thing", "known"] [] := T.F_is_link.bindsN fun _ _ _ _ _ _ us hl => match us, hl with | [_, _], _ => rfl
theorem ok_is_link (T : Tx K mg) : FnOk P w K mg base CX0 2 (He.fAd K ("is_link", none)) T.fd_is_link ["thing", "known"] (sp_is_link K) := by
  refine T.F_is_link.ok sc_is_link (fun vs H Q E h => len_is_link h) (fun cdv A outer s H vs Q E hr h => ⟨t_is_link K, PSs.nox ?_, pure_is_link h⟩)
  exact (pss_cons (ps_if (PW.pt (pw_or (pt_not (pt_val (pe_call (ok_is_pair T) (hr.mono (by decide)) (by rfl) T.g_is_pair T.F_is_pair.kp (b_is_pair T) .nil pass0 (pa_cons (pv 0) pa_nil)))) (pw_or (pt_not (pt_val (pe_call (ok_is_int T) (hr.mono (by decide)) (by rfl) T.g_is_int T.F_is_int.kp (b_is_int T) .nil pass0 (pa_cons (pe_ix ix_seq (pv 0) pe_int (fun _ _ => rfl)) pa_nil)))) (pw_or1 (pt_not (pt_val (pe_call (ok_is_int T) (hr.mono (by decide)) (by rfl) T.g_is_int T.F_is_int.kp (b_is_int T) .nil pass0 (pa_cons (pe_ix ix_seq (pv 0) pe_int (fun _ _ => rfl)) pa_nil)))))))) (pss_one (ps_ret pe_bl)) pss_nil)
      (pss_one (ps_ret (pe_and (pe_cmp (pc_din (hu_of hr) (pe_ix ix_seq (pv 0) pe_int (fun _ _ => rfl)) (pv 1)) rfl) (pe_and (pe_cmp (pc_din (hu_of hr) (pe_ix ix_seq (pv 0) pe_int (fun _ _ => rfl)) (pv 1)) rfl) (pe_one (pe_cmpR op_lt (pe_ix ix_seq (pv 0) pe_int (fun _ _ => rfl)) (pe_ix ix_seq (pv 0) pe_int (fun _ _ => rfl)) (nomark _))))))))
theorem b_are_links (T : Tx K mg) : Binds K T.fd_are_links ["thing", "versions"] [] := T.F_are_links.bindsN fun _ _ _ _ _ _ us hl => match us, hl with | [_, _], _ => rfl
theorem ok_are_links (T : Tx K mg) : FnOk P w K mg base CX0 3 (He.fAd K ("are_links", none)) T.fd_are_links ["thing", "versions"] (sp_are_links K) := by
  refine T.F_are_links.ok sc_are_links (fun vs H Q E h => len_are_links h) (fun cdv A outer s H vs Q E hr h => ⟨t_are_links K, PSs.nox ?_, pure_are_links h⟩)
  exact (pss_cons (ps_if (PW.pt (pw_or (pt_not (pt_val (pe_callB call_isi (by rfl) T.z_isinstance (by decide +kernel) (pa_cons (pv 0) (pa_cons (pe_bltn (v := .ty "tuple") (by rfl) T.z_tuple (by decide +kernel) rfl) pa_nil))))) (pw_or1 (pt_cmpR op_gt (pe_callB call_len (by rfl) T.z_len PySem.boot_len (pa_cons (pv 0) pa_nil)) (pe_glob (v := .int 2000) (by rfl) T.c_MOST_LINKS.choose_spec ⟨_, rfl⟩) (nomark _))))) (pss_one (ps_ret pe_bl)) pss_nil)
      (pss_cons (ps_set (i := 2) sc_are_links.nd rfl (Or.inr rfl) (pe_dc (own := [("version", 3)]) (g := (gName 3)) (tt := tYes) (tk := (tVar 3)) (tv := (tC (.bl true))) rfl sc_are_links.nd (pi_tup (pv 1)) (blkOk_by (own := [("version", 3)]) (N := N_are_links) (sc := defScope s_are_links) (by decide +kernel)) (fun _ _ _ _ _ => (pg_name (i := 3) sc_are_links.nd rfl (Or.inl rfl))) (fun _ _ _ _ _ => pts_nil) (fun _ _ _ _ _ => (pv 3)) (fun _ _ _ _ _ => pe_bl)))
      (pss_one (ps_ret (pe_and (pe_callB (cr_all rfl) (by rfl) T.z_all (by decide +kernel) (pa_cons (pe_lc (own := [("link", 4)]) (g := (gName 4)) (tt := tYes) (te := (tCall (sp_is_link K) [] E0 (tCons (tVar 4) (tCons (tVar 2) tNil)))) rfl sc_are_links.nd (pi_tup (pv 0)) (blkOk_by (own := [("link", 4)]) (N := N_are_links) (sc := defScope s_are_links) (by decide +kernel)) (fun _ _ _ _ _ => (pg_name (i := 4) sc_are_links.nd rfl (Or.inl rfl))) (fun _ _ _ _ _ => pts_nil) (fun _ _ _ _ _ => (pe_call (ok_is_link T) (hr.mono (by decide)) (by rfl) T.g_is_link T.F_is_link.kp (b_is_link T) .nil pass0 (pa_cons (pv 4) (pa_cons (pv 2) pa_nil))))) pa_nil)) (pe_one (pe_call (ok_rises T) (hr.mono (by decide)) (by rfl) T.g_rises T.F_rises.kp (b_rises T) .nil pass0 (pa_cons (pv 0) pa_nil))))))))
theorem b_check (T : Tx K mg) : Binds K T.fd_check ["thing"] [] := T.F_check.bindsN fun _ _ _ _ _ _ us hl => match us, hl with | [_], _ => rfl
theorem ok_check (T : Tx K mg) : FnOk P w K mg base (L2.CX P w) 5 (He.fAd K ("check", none)) T.fd_check ["thing"] (sp_check K) := by
  refine T.F_check.ok (CX := L2.CX P w) sc_check (fun vs H Q E h => len_check h) (fun cdv A outer s H vs Q E hr h => ⟨t_check K E, ?_, pure_check h⟩)
  exact (pss_cons (ps_if (PW.pt (pw_or (pt_not (pt_val (pe_call (ok_is_pair T) (hr.mono (by decide)) (by rfl) T.g_is_pair T.F_is_pair.kp (b_is_pair T) .nil pass0 (pa_cons (pv 0) pa_nil)))) (pw_or (pt_not (pt_val (pe_call (ok_are_versions T) (hr.mono (by decide)) (by rfl) T.g_are_versions T.F_are_versions.kp (b_are_versions T) .nil pass0 (pa_cons (pe_ix ix_seq (pv 0) pe_int (fun _ _ => rfl)) pa_nil)))) (pw_or1 (pt_not (pt_val (pe_call (ok_are_links T) (hr.mono (by decide)) (by rfl) T.g_are_links T.F_are_links.kp (b_are_links T) .nil pass0 (pa_cons (pe_ix ix_seq (pv 0) pe_int (fun _ _ => rfl)) (pa_cons (pe_ix ix_seq (pv 0) pe_int (fun _ _ => rfl)) pa_nil))))))))) (pss_one (ps_raise rfl (takes_of rfl rfl rfl rfl) (pmk_own PySem.F.excBase_ValueError T.x_NoShape.1 T.gc_NoShape T.x_NoShape.2.1 (raises_own T.x_NoShape.2.2.1 T.x_NoShape.2.2.2) (by exact rfl)))) pss_nil)
      (pss_one (ps_ret pe_bl)))
theorem b_l_deck (T : Tx K mg) : Binds K T.fd_l_deck ["_law_script"] [] := T.F_l_deck.bindsN fun _ _ _ _ _ _ us hl => match us, hl with | [_], _ => rfl
theorem ok_l_deck (T : Tx K mg) : FnOk P w K mg base CX0 1 (He.fAd K ("_law_deck", none)) T.fd_l_deck ["_law_script"] (sp_l_deck K) := by
  refine T.F_l_deck.ok sc_l_deck (fun vs H Q E h => len_l_deck h) (fun cdv A outer s H vs Q E hr h => ⟨t_l_deck K, PSs.nox ?_, pure_l_deck h⟩)
  exact (pss_one (ps_ret (pe_lst (pa_cons (pe_callTy call_list_of (by rfl) T.z_list (by decide +kernel) (pa_cons (pv 0) pa_nil)) (pa_cons pe_int (pa_cons pe_int (pa_cons pe_int pa_nil)))))))
theorem b_l_mixed (T : Tx K mg) : Binds K T.fd_l_mixed ["_law_cell", "_law_turn"] [] := T.F_l_mixed.bindsN fun _ _ _ _ _ _ us hl => match us, hl with | [_, _], _ => rfl
theorem ok_l_mixed (T : Tx K mg) : FnOk P w K mg base CX0 1 (He.fAd K ("_law_mixed", none)) T.fd_l_mixed ["_law_cell", "_law_turn"] (sp_l_mixed K) := by
  refine T.F_l_mixed.ok sc_l_mixed (fun vs H Q E h => len_l_mixed h) (fun cdv A outer s H vs Q E hr h => ⟨t_l_mixed K, PSs.nox ?_, pure_l_mixed h⟩)
  exact (pss_one (ps_ret (pe_op op_mod (pe_op op_pow (pe_op op_add (pe_op op_add (pe_op op_mod (pv 0) pe_int) (pe_op op_mul (pv 1) pe_int)) pe_int) pe_int) pe_int)))
theorem b_l_draw (T : Tx K mg) : Binds K T.fd_l_draw ["_law_deck_here", "_law_many"] [] := T.F_l_draw.bindsN fun _ _ _ _ _ _ us hl => match us, hl with | [_, _], _ => rfl
theorem ok_l_draw (T : Tx K mg) : FnOk P w K mg base CX0 2 (He.fAd K ("_law_draw", none)) T.fd_l_draw ["_law_deck_here", "_law_many"] (sp_l_draw K) := by
  refine T.F_l_draw.ok sc_l_draw (fun vs H Q E h => len_l_draw h) (fun cdv A outer s H vs Q E hr h => ⟨t_l_draw K, PSs.nox ?_, pure_l_draw h⟩)
  exact (pss_cons (ps_set (i := 2) sc_l_draw.nd rfl (Or.inl rfl) (pe_ix ix_seq (pv 0) pe_int (fun _ _ => rfl)))
      (pss_cons (ps_asg (pe_op op_add (pe_ix ix_seq (pv 0) pe_int (fun _ _ => rfl)) pe_int) (pg_sub (pv 0) pe_int set_list))
      (pss_cons (ps_if (PW.pt (pw_and (pt_cmpR op_eq (pe_ix ix_seq (pv 0) pe_int (fun _ _ => rfl)) pe_int (nomark _)) (pw_and1 (pt_cmpR op_lt (pe_ix ix_seq (pv 0) pe_int (fun _ _ => rfl)) (pe_callB call_len (by rfl) T.z_len PySem.boot_len (pa_cons (pv 2) pa_nil)) (nomark _))))) (pss_cons (ps_asg (pe_op op_add (pe_ix ix_seq (pv 0) pe_int (fun _ _ => rfl)) pe_int) (pg_sub (pv 0) pe_int set_list))
      (pss_cons (ps_if (pt_cmpR op_lt (pe_ix ix_seq (pv 2) (pe_op op_sub (pe_ix ix_seq (pv 0) pe_int (fun _ _ => rfl)) pe_int) (fun _ _ => rfl)) (pe_op op_pow pe_int pe_int) (nomark _)) (pss_one (ps_ret (pe_op op_mod (pe_call (ok_l_mixed T) (hr.mono (by decide)) (by rfl) T.g_l_mixed T.F_l_mixed.kp (b_l_mixed T) .nil pass0 (pa_cons (pe_ix ix_seq (pv 2) (pe_op op_sub (pe_ix ix_seq (pv 0) pe_int (fun _ _ => rfl)) pe_int) (fun _ _ => rfl)) (pa_cons (pe_ix ix_seq (pv 0) pe_int (fun _ _ => rfl)) pa_nil))) (pv 1)))) pss_nil)
      (pss_one (ps_asg (pe_ix ix_seq (pv 2) (pe_op op_sub (pe_ix ix_seq (pv 0) pe_int (fun _ _ => rfl)) pe_int) (fun _ _ => rfl)) (pg_sub (pv 0) pe_int set_list))))) pss_nil)
      (pss_cons (ps_if (pt_cmpR op_gt (pe_ix ix_seq (pv 0) pe_int (fun _ _ => rfl)) pe_int (nomark _)) (pss_cons (ps_set (i := 3) sc_l_draw.nd rfl (Or.inl rfl) (pe_op op_mod (pe_ix ix_seq (pv 0) pe_int (fun _ _ => rfl)) (pv 1)))
      (pss_cons (ps_asg (pe_op op_fdivW (pe_ix ix_seq (pv 0) pe_int (fun _ _ => rfl)) (pv 1)) (pg_sub (pv 0) pe_int set_list))
      (pss_one (ps_ret (pv 3))))) pss_nil)
      (pss_cons (ps_set (i := 4) sc_l_draw.nd rfl (Or.inl rfl) (pe_op op_mul (pe_ix ix_seq (pv 0) pe_int (fun _ _ => rfl)) pe_int))
      (pss_cons (ps_if (pt_cmpR op_gt (pe_callB call_len (by rfl) T.z_len PySem.boot_len (pa_cons (pv 2) pa_nil)) pe_int (nomark _)) (pss_one (ps_set (i := 4) sc_l_draw.nd rfl (Or.inl rfl) (pe_op op_add (pv 4) (pe_op op_mod (pe_ix ix_seq (pv 2) (pe_op op_mod (pe_op op_mul (pe_ix ix_seq (pv 0) pe_int (fun _ _ => rfl)) pe_int) (pe_callB call_len (by rfl) T.z_len PySem.boot_len (pa_cons (pv 2) pa_nil))) (fun _ _ => rfl)) pe_int)))) pss_nil)
      (pss_one (ps_ret (pe_op op_mod (pe_call (ok_l_mixed T) (hr.mono (by decide)) (by rfl) T.g_l_mixed T.F_l_mixed.kp (b_l_mixed T) .nil pass0 (pa_cons (pv 4) (pa_cons (pe_ix ix_seq (pv 0) pe_int (fun _ _ => rfl)) pa_nil))) (pv 1))))))))))
theorem b_l_int (T : Tx K mg) : Binds K T.fd_l_int ["_law_thing"] [] := T.F_l_int.bindsN fun _ _ _ _ _ _ us hl => match us, hl with | [_], _ => rfl
theorem ok_l_int (T : Tx K mg) : FnOk P w K mg base CX0 1 (He.fAd K ("_law_int", none)) T.fd_l_int ["_law_thing"] (sp_l_intA K) := by
  refine T.F_l_int.ok sc_l_int (fun vs H Q E h => len_l_intA h) (fun cdv A outer s H vs Q E hr h => ⟨t_l_int K, PSs.nox ?_, pure_l_intA h⟩)
  exact (pss_one (ps_ret (pe_and (pe_callB call_isi (by rfl) T.z_isinstance (by decide +kernel) (pa_cons (pv 0) (pa_cons (pe_bltn (v := .ty "int") (by rfl) T.z_int (by decide +kernel) rfl) pa_nil))) (pe_one (pe_not (pe_callB call_isi (by rfl) T.z_isinstance (by decide +kernel) (pa_cons (pv 0) (pa_cons (pe_bltn (v := .ty "bool") (by rfl) T.z_bool (by decide +kernel) rfl) pa_nil))))))))
theorem b_l_shape (T : Tx K mg) : Binds K T.fd_l_shape ["_law_deck_here", "_law_most"] [] := T.F_l_shape.bindsN fun _ _ _ _ _ _ us hl => match us, hl with | [_, _], _ => rfl
theorem ok_l_shape (T : Tx K mg) : FnOk P w K mg base CX0 3 (He.fAd K ("_law_shape", none)) T.fd_l_shape ["_law_deck_here", "_law_most"] (sp_l_shape K) := by
  refine T.F_l_shape.ok sc_l_shape (fun vs H Q E h => len_l_shape h) (fun cdv A outer s H vs Q E hr h => ⟨t_l_shape K, PSs.nox ?_, pure_l_shape h⟩)
  exact (pss_cons (ps_set (i := 2) sc_l_shape.nd rfl (Or.inl rfl) (pe_lst pa_nil))
      (pss_cons (ps_set (i := 3) sc_l_shape.nd rfl (Or.inl rfl) (pe_un un_neg pe_int))
      (pss_cons (ps_set (i := 4) sc_l_shape.nd rfl (Or.inl rfl) (pe_call (ok_l_draw T) (hr.mono (by decide)) (by rfl) T.g_l_draw T.F_l_draw.kp (b_l_draw T) .nil pass0 (pa_cons (pv 0) (pa_cons pe_int pa_nil))))
      (pss_cons (ps_set (i := 5) sc_l_shape.nd rfl (Or.inl rfl) (pe_call (ok_l_draw T) (hr.mono (by decide)) (by rfl) T.g_l_draw T.F_l_draw.kp (b_l_draw T) .nil pass0 (pa_cons (pv 0) (pa_cons pe_int pa_nil))))
      (pss_cons (ps_set (i := 6) sc_l_shape.nd rfl (Or.inl rfl) (pe_lst pa_nil))
      (pss_cons (ps_for PassesOwn.never rfl (pi_range1 (by rfl) T.z_range (pa_cons (pe_call (ok_l_draw T) (hr.mono (by decide)) (by rfl) T.g_l_draw T.F_l_draw.kp (b_l_draw T) .nil pass0 (pa_cons (pv 0) (pa_cons (pe_op op_add (pv 1) pe_int) pa_nil))) pa_nil)) (pg_name (i := 7) sc_l_shape.nd rfl (Or.inl rfl)) (pss_cons (ps_set (i := 3) sc_l_shape.nd rfl (Or.inl rfl) (pe_op op_add (pe_op op_add (pv 3) pe_int) (pe_call (ok_l_draw T) (hr.mono (by decide)) (by rfl) T.g_l_draw T.F_l_draw.kp (b_l_draw T) .nil pass0 (pa_cons (pv 0) (pa_cons pe_int pa_nil)))))
      (pss_cons (ps_if (PW.pt (pw_and (pt_cmpR op_eq (pv 4) pe_int (nomark _)) (pw_and1 (pt_cmpR op_eq (pe_call (ok_l_draw T) (hr.mono (by decide)) (by rfl) T.g_l_draw T.F_l_draw.kp (b_l_draw T) .nil pass0 (pa_cons (pv 0) (pa_cons pe_int pa_nil))) pe_int (nomark _))))) (pss_one (ps_set (i := 3) sc_l_shape.nd rfl (Or.inl rfl) (pe_op op_add (pv 3) (pe_call (ok_l_draw T) (hr.mono (by decide)) (by rfl) T.g_l_draw T.F_l_draw.kp (b_l_draw T) .nil pass0 (pa_cons (pv 0) (pa_cons (pe_op op_pow pe_int pe_int) pa_nil)))))) pss_nil)
      (pss_cons (ps_for PassesOwn.never rfl (pi_range1 (by rfl) T.z_range (pa_cons (pv 7) pa_nil)) (pg_name (i := 8) sc_l_shape.nd rfl (Or.inl rfl)) (pss_cons (ps_set (i := 9) sc_l_shape.nd rfl (Or.inl rfl) (pe_cmpR op_eq (pe_call (ok_l_draw T) (hr.mono (by decide)) (by rfl) T.g_l_draw T.F_l_draw.kp (b_l_draw T) .nil pass0 (pa_cons (pv 0) (pa_cons (pe_ix ix_seq (pe_lst (pa_cons pe_int (pa_cons pe_int (pa_cons pe_int (pa_cons pe_int pa_nil))))) (pv 5) (fun _ _ => rfl)) pa_nil))) pe_int (nomark _)))
      (pss_cons (ps_if (PW.pt (pw_and (pt_cmpR op_eq (pv 5) pe_int (nomark _)) (pw_and1 (pt_cmpR op_gt (pe_op op_sub (pv 7) (pv 8)) pe_int (nomark _))))) (pss_one (ps_set (i := 9) sc_l_shape.nd rfl (Or.inl rfl) pe_bl)) pss_nil)
      (pss_cons (ps_if (PW.pt (pw_and (pt_cmpR op_eq (pv 5) pe_int (nomark _)) (pw_and1 (pt_cmpR op_eq (pv 8) (pe_op op_sub (pv 7) pe_int) (nomark _))))) (pss_one (ps_set (i := 9) sc_l_shape.nd rfl (Or.inl rfl) pe_bl)) pss_nil)
      (pss_one (ps_if (pt_val (pv 9)) (pss_one (ps_expr (pe_bm PySem.F.plainAttrs_list PySem.F.slot_list_append PySem.F.type_list_append mt_append (pv 6) (pa_cons (pe_tup (pa_cons (pv 3) (pa_cons (pe_ix ix_seq (pv 2) (pv 8) (fun _ _ => rfl)) pa_nil))) pa_nil)))) pss_nil))))))
      (pss_one (ps_expr (pe_bm PySem.F.plainAttrs_list PySem.F.slot_list_append PySem.F.type_list_append mt_append (pv 2) (pa_cons (pv 3) pa_nil))))))))
      (pss_one (ps_ret (pe_tup (pa_cons (pe_callTy call_tuple_of (by rfl) T.z_tuple (by decide +kernel) (pa_cons (pv 2) pa_nil)) (pa_cons (pe_callTy call_tuple_of (by rfl) T.z_tuple (by decide +kernel) (pa_cons (pv 6) pa_nil)) pa_nil)))))))))))
theorem b_l_odd (T : Tx K mg) : Binds K T.fd_l_odd ["_law_deck_here"] [] := T.F_l_odd.bindsN fun _ _ _ _ _ _ us hl => match us, hl with | [_], _ => rfl
theorem ok_l_odd (T : Tx K mg) : FnOk P w K mg base CX0 3 (He.fAd K ("_law_odd", none)) T.fd_l_odd ["_law_deck_here"] (sp_l_odd K) := by
  refine T.F_l_odd.ok sc_l_odd (fun vs H Q E h => len_l_odd h) (fun cdv A outer s H vs Q E hr h => ⟨t_l_odd K, PSs.nox ?_, pure_l_odd h⟩)
  exact (pss_cons (ps_set (i := 1) sc_l_odd.nd rfl (Or.inl rfl) (pe_lst (pa_cons pe_non (pa_cons pe_bl (pa_cons pe_bl (pa_cons (pe_un un_neg pe_int) (pa_cons pe_int (pa_cons pe_int (pa_cons (pe_op op_pow pe_int pe_int) (pa_cons pe_str (pa_cons pe_str (pa_cons pe_str (pa_cons pe_str (pa_cons (pe_tup pa_nil) (pa_cons (pe_lst pa_nil) (pa_cons pe_dnewK (pa_cons (pe_tup (pa_cons pe_int pa_nil)) (pa_cons (pe_tup (pa_cons pe_int (pa_cons pe_int pa_nil))) (pa_cons (pe_lst (pa_cons pe_int pa_nil)) (pa_cons (pe_tup (pa_cons (pe_tup pa_nil) pa_nil)) pa_nil))))))))))))))))))))
      (pss_cons (ps_set (i := 1) sc_l_odd.nd rfl (Or.inl rfl) (pe_op op_cat (pv 1) (pe_lst (pa_cons (pe_tup (pa_cons (pe_tup pa_nil) (pa_cons (pe_tup pa_nil) pa_nil))) (pa_cons (pe_tup (pa_cons (pe_tup (pa_cons pe_int (pa_cons pe_int pa_nil))) (pa_cons (pe_tup (pa_cons (pe_tup (pa_cons pe_int (pa_cons pe_int pa_nil))) pa_nil)) pa_nil))) (pa_cons (pe_tup (pa_cons (pe_tup (pa_cons pe_int pa_nil)) (pa_cons (pe_tup (pa_cons pe_int pa_nil)) pa_nil))) (pa_cons (pe_disp (pps_cons pe_int pe_int pps_nil) (by rfl) (by rfl) (fun z => by cases z) (by decide)) (pa_cons (pe_tup (pa_cons (pe_tup (pa_cons pe_int (pa_cons (pe_tup (pa_cons pe_int pa_nil)) pa_nil))) pa_nil)) (pa_cons (pe_tup (pa_cons (pe_tup (pa_cons (pe_tup (pa_cons (pe_tup (pa_cons (pe_tup (pa_cons (pe_tup (pa_cons (pe_tup (pa_cons (pe_tup (pa_cons (pe_tup (pa_cons (pe_tup (pa_cons pe_int pa_nil)) pa_nil)) pa_nil)) pa_nil)) pa_nil)) pa_nil)) pa_nil)) pa_nil)) pa_nil)) pa_nil)) pa_nil)))))))))
      (pss_one (ps_ret (pe_ix ix_seq (pv 1) (pe_call (ok_l_draw T) (hr.mono (by decide)) (by rfl) T.g_l_draw T.F_l_draw.kp (b_l_draw T) .nil pass0 (pa_cons (pv 0) (pa_cons (pe_callB call_len (by rfl) T.z_len PySem.boot_len (pa_cons (pv 1) pa_nil)) pa_nil))) (fun _ _ => rfl))))))
theorem b_l_bent (T : Tx K mg) : Binds K T.fd_l_bent ["_law_deck_here", "_law_thing", "_law_depth"] [] := T.F_l_bent.bindsN fun _ _ _ _ _ _ us hl => match us, hl with | [_, _, _], _ => rfl
theorem ok_bentN (T : Tx K mg) : ∀ n : Nat, FnOk P w K mg base CX0 (n + 4) (He.fAd K ("_law_bent", none)) T.fd_l_bent ["_law_deck_here", "_law_thing", "_law_depth"] (sp_bentN K n)
  | 0 => T.F_l_bent.ok sc_l_bent (fun vs H Q E h => len_bentN h) (fun cdv A outer s H vs Q E hr h => by
      obtain ⟨_, _, _, _, _, _, _, h, _⟩ := h
      exact (Nat.lt_irrefl 0 h).elim)
  | n + 1 => by
    have G : FnOk P w K mg base CX0 (n + 4) (He.fAd K ("_law_bent", none)) T.fd_l_bent ["_law_deck_here", "_law_thing", "_law_depth"] (sp_bentN K n) := ok_bentN T n
    refine T.F_l_bent.ok sc_l_bent (fun vs H Q E h => len_bentN h) (fun cdv A outer s H vs Q E hr h => ⟨t_l_bent K n, PSs.nox ?_, pure_l_bent h⟩)
    exact (pss_cons (ps_set (i := 3) sc_l_bent.nd rfl (Or.inl rfl) (pe_call (ok_l_draw T) (hr.mono (by omega)) (by rfl) T.g_l_draw T.F_l_draw.kp (b_l_draw T) .nil pass0 (pa_cons (pv 0) (pa_cons pe_int pa_nil))))
      (pss_cons (ps_if (PW.pt (pw_or (pt_cmpR op_eq (pv 2) pe_int (nomark _)) (pw_or (pt_cmpR op_eq (pv 3) pe_int (nomark _)) (pw_or1 (pt_not (pt_val (pe_callB call_isi (by rfl) T.z_isinstance (by decide +kernel) (pa_cons (pv 1) (pa_cons (pe_bltn (v := .ty "tuple") (by rfl) T.z_tuple (by decide +kernel) rfl) pa_nil))))))))) (pss_cons (ps_if (PW.pt (pw_and (pt_val (pe_call (ok_l_int T) (hr.mono (by omega)) (by rfl) T.g_l_int T.F_l_int.kp (b_l_int T) .nil pass0 (pa_cons (pv 1) pa_nil))) (pw_and1 (pt_cmpR op_gt (pv 3) pe_int (nomark _))))) (pss_one (ps_ret (pe_op op_add (pv 1) (pe_ix ix_seq (pe_lst (pa_cons (pe_un un_neg pe_int) (pa_cons pe_int (pa_cons pe_int (pa_cons (pe_un un_neg pe_int) (pa_cons (pe_op op_sub (pe_un un_neg (pv 1)) pe_int) pa_nil)))))) (pe_call (ok_l_draw T) (hr.mono (by omega)) (by rfl) T.g_l_draw T.F_l_draw.kp (b_l_draw T) .nil pass0 (pa_cons (pv 0) (pa_cons pe_int pa_nil))) (fun _ _ => rfl))))) pss_nil)
      (pss_one (ps_ret (pe_call (ok_l_odd T) (hr.mono (by omega)) (by rfl) T.g_l_odd T.F_l_odd.kp (b_l_odd T) .nil pass0 (pa_cons (pv 0) pa_nil))))) pss_nil)
      (pss_cons (ps_if (pt_cmpR op_eq (pv 3) pe_int (nomark _)) (pss_one (ps_ret (pe_callTy call_list_of (by rfl) T.z_list (by decide +kernel) (pa_cons (pv 1) pa_nil)))) pss_nil)
      (pss_cons (ps_if (pt_cmpR op_eq (pe_callB call_len (by rfl) T.z_len PySem.boot_len (pa_cons (pv 1) pa_nil)) pe_int (nomark _)) (pss_one (ps_ret (pe_tup (pa_cons (pe_call (ok_l_odd T) (hr.mono (by omega)) (by rfl) T.g_l_odd T.F_l_odd.kp (b_l_odd T) .nil pass0 (pa_cons (pv 0) pa_nil)) pa_nil)))) pss_nil)
      (pss_cons (ps_set (i := 4) sc_l_bent.nd rfl (Or.inl rfl) (pe_call (ok_l_draw T) (hr.mono (by omega)) (by rfl) T.g_l_draw T.F_l_draw.kp (b_l_draw T) .nil pass0 (pa_cons (pv 0) (pa_cons (pe_callB call_len (by rfl) T.z_len PySem.boot_len (pa_cons (pv 1) pa_nil)) pa_nil))))
      (pss_cons (ps_if (pt_cmpR op_eq (pv 3) pe_int (nomark _)) (pss_one (ps_ret (pe_op op_catA (pe_slice sl_tupA (pv 1) po_none (po_some (pv 4))) (pe_slice sl_tupA (pv 1) (po_some (pe_op op_add (pv 4) pe_int)) po_none)))) pss_nil)
      (pss_cons (ps_if (pt_cmpR op_eq (pv 3) pe_int (nomark _)) (pss_one (ps_ret (pe_op op_catA (pe_slice sl_tupA (pv 1) po_none (po_some (pe_op op_add (pv 4) pe_int))) (pe_slice sl_tupA (pv 1) (po_some (pv 4)) po_none)))) pss_nil)
      (pss_cons (ps_if (pt_cmpR op_eq (pv 3) pe_int (nomark _)) (pss_one (ps_ret (pe_op op_catA (pe_op op_catA (pe_op op_catA (pe_slice sl_tupA (pv 1) po_none (po_some (pv 4))) (pe_slice sl_tupA (pv 1) (po_some (pe_op op_add (pv 4) pe_int)) (po_some (pe_op op_add (pv 4) pe_int)))) (pe_tup (pa_cons (pe_ix ix_seq (pv 1) (pv 4) (fun _ _ => rfl)) pa_nil))) (pe_slice sl_tupA (pv 1) (po_some (pe_op op_add (pv 4) pe_int)) po_none)))) pss_nil)
      (pss_one (ps_ret (pe_op op_catA (pe_op op_catA (pe_slice sl_tupA (pv 1) po_none (po_some (pv 4))) (pe_tup (pa_cons (pe_call G hr (by rfl) T.g_l_bent T.F_l_bent.kp (b_l_bent T) .nil pass0 (pa_cons (pv 0) (pa_cons (pe_ix ix_seq (pv 1) (pv 4) (fun _ _ => rfl)) (pa_cons (pe_op op_sub (pv 2) pe_int) pa_nil)))) pa_nil))) (pe_slice sl_tupA (pv 1) (po_some (pe_op op_add (pv 4) pe_int)) po_none))))))))))))
theorem ok_l_bent (T : Tx K mg) : FnOk P w K mg base CX0 8 (He.fAd K ("_law_bent", none)) T.fd_l_bent ["_law_deck_here", "_law_thing", "_law_depth"] (sp_l_bent K) := ok_bentN T 4
theorem b_l_rising (T : Tx K mg) : Binds K T.fd_l_rising ["_law_thing"] [] := T.F_l_rising.bindsN fun _ _ _ _ _ _ us hl => match us, hl with | [_], _ => rfl
theorem ok_l_rising (T : Tx K mg) : FnOk P w K mg base CX0 2 (He.fAd K ("_law_rising", none)) T.fd_l_rising ["_law_thing"] (sp_l_rising K) := by
  refine T.F_l_rising.ok sc_l_rising (fun vs H Q E h => len_l_rising h) (fun cdv A outer s H vs Q E hr h => ⟨t_l_rising K, PSs.nox ?_, pure_l_rising h⟩)
  exact (pss_cons (ps_if (pt_not (pt_val (pe_callB call_isi (by rfl) T.z_isinstance (by decide +kernel) (pa_cons (pv 0) (pa_cons (pe_bltn (v := .ty "tuple") (by rfl) T.z_tuple (by decide +kernel) rfl) pa_nil))))) (pss_one (ps_ret pe_bl)) pss_nil)
      (pss_cons (ps_set (i := 1) sc_l_rising.nd rfl (Or.inl rfl) (pe_un un_neg pe_int))
      (pss_cons (ps_for PassesOwn.never rfl (pi_tup (pv 0)) (pg_name (i := 2) sc_l_rising.nd rfl (Or.inl rfl)) (pss_cons (ps_if (PW.pt (pw_or (pt_not (pt_val (pe_call (ok_l_int T) (hr.mono (by decide)) (by rfl) T.g_l_int T.F_l_int.kp (b_l_int T) .nil pass0 (pa_cons (pv 2) pa_nil)))) (pw_or1 (pt_cmpR op_le (pv 2) (pv 1) (nomark _))))) (pss_one (ps_ret pe_bl)) pss_nil)
      (pss_one (ps_set (i := 1) sc_l_rising.nd rfl (Or.inl rfl) (pv 2)))))
      (pss_one (ps_ret pe_bl)))))
theorem b_l_is_shape (T : Tx K mg) : Binds K T.fd_l_is_shape ["_law_thing"] [] := T.F_l_is_shape.bindsN fun _ _ _ _ _ _ us hl => match us, hl with | [_], _ => rfl
theorem ok_l_is_shape (T : Tx K mg) : FnOk P w K mg base CX0 3 (He.fAd K ("_law_is_shape", none)) T.fd_l_is_shape ["_law_thing"] (sp_l_is_shape K) := by
  refine T.F_l_is_shape.ok sc_l_is_shape (fun vs H Q E h => len_l_is_shape h) (fun cdv A outer s H vs Q E hr h => ⟨t_l_is_shape K, PSs.nox ?_, pure_l_is_shape h⟩)
  exact (pss_cons (ps_if (PW.pt (pw_or (pt_not (pt_val (pe_callB call_isi (by rfl) T.z_isinstance (by decide +kernel) (pa_cons (pv 0) (pa_cons (pe_bltn (v := .ty "tuple") (by rfl) T.z_tuple (by decide +kernel) rfl) pa_nil))))) (pw_or1 (pt_cmpR op_ne (pe_callB call_len (by rfl) T.z_len PySem.boot_len (pa_cons (pv 0) pa_nil)) pe_int (nomark _))))) (pss_one (ps_ret pe_bl)) pss_nil)
      (pss_cons (ps_if (PW.pt (pw_or (pt_not (pt_val (pe_call (ok_l_rising T) (hr.mono (by decide)) (by rfl) T.g_l_rising T.F_l_rising.kp (b_l_rising T) .nil pass0 (pa_cons (pe_ix ix_seq (pv 0) pe_int (fun _ _ => rfl)) pa_nil)))) (pw_or (pt_cmpR op_gt (pe_callB call_len (by rfl) T.z_len PySem.boot_len (pa_cons (pe_ix ix_seq (pv 0) pe_int (fun _ _ => rfl)) pa_nil)) pe_int (nomark _)) (pw_or (pt_not (pt_val (pe_callB call_isi (by rfl) T.z_isinstance (by decide +kernel) (pa_cons (pe_ix ix_seq (pv 0) pe_int (fun _ _ => rfl)) (pa_cons (pe_bltn (v := .ty "tuple") (by rfl) T.z_tuple (by decide +kernel) rfl) pa_nil))))) (pw_or1 (pt_cmpR op_gt (pe_callB call_len (by rfl) T.z_len PySem.boot_len (pa_cons (pe_ix ix_seq (pv 0) pe_int (fun _ _ => rfl)) pa_nil)) pe_int (nomark _))))))) (pss_one (ps_ret pe_bl)) pss_nil)
      (pss_cons (ps_set (i := 1) sc_l_is_shape.nd rfl (Or.inl rfl) pe_dnewK)
      (pss_cons (ps_for PassesOwn.never rfl (pi_tup (pe_ix ix_seq (pv 0) pe_int (fun _ _ => rfl))) (pg_name (i := 2) sc_l_is_shape.nd rfl (Or.inl rfl)) (pss_one (ps_dput (hu_of hr) (pv 1) (pv 2) pe_bl rfl)))
      (pss_cons (ps_set (i := 3) sc_l_is_shape.nd rfl (Or.inl rfl) (pe_tup (pa_cons (pe_un un_neg pe_int) (pa_cons (pe_un un_neg pe_int) pa_nil))))
      (pss_cons (ps_for PassesOwn.never rfl (pi_tup (pe_ix ix_seq (pv 0) pe_int (fun _ _ => rfl))) (pg_name (i := 4) sc_l_is_shape.nd rfl (Or.inl rfl)) (pss_cons (ps_if (PW.pt (pw_or (pt_not (pt_val (pe_callB call_isi (by rfl) T.z_isinstance (by decide +kernel) (pa_cons (pv 4) (pa_cons (pe_bltn (v := .ty "tuple") (by rfl) T.z_tuple (by decide +kernel) rfl) pa_nil))))) (pw_or (pt_cmpR op_ne (pe_callB call_len (by rfl) T.z_len PySem.boot_len (pa_cons (pv 4) pa_nil)) pe_int (nomark _)) (pw_or (pt_not (pt_val (pe_call (ok_l_int T) (hr.mono (by decide)) (by rfl) T.g_l_int T.F_l_int.kp (b_l_int T) .nil pass0 (pa_cons (pe_ix ix_seq (pv 4) pe_int (fun _ _ => rfl)) pa_nil)))) (pw_or1 (pt_not (pt_val (pe_call (ok_l_int T) (hr.mono (by decide)) (by rfl) T.g_l_int T.F_l_int.kp (b_l_int T) .nil pass0 (pa_cons (pe_ix ix_seq (pv 4) pe_int (fun _ _ => rfl)) pa_nil))))))))) (pss_one (ps_ret pe_bl)) pss_nil)
      (pss_cons (ps_if (PW.pt (pw_or (pt_cmp (pc_dnotin (hu_of hr) (pe_ix ix_seq (pv 4) pe_int (fun _ _ => rfl)) (pv 1))) (pw_or (pt_cmp (pc_dnotin (hu_of hr) (pe_ix ix_seq (pv 4) pe_int (fun _ _ => rfl)) (pv 1))) (pw_or1 (pt_cmpR op_ge (pe_ix ix_seq (pv 4) pe_int (fun _ _ => rfl)) (pe_ix ix_seq (pv 4) pe_int (fun _ _ => rfl)) (nomark _)))))) (pss_one (ps_ret pe_bl)) pss_nil)
      (pss_cons (ps_if (PW.pt (pw_or (pt_cmpR op_lt (pe_ix ix_seq (pv 4) pe_int (fun _ _ => rfl)) (pe_ix ix_seq (pv 3) pe_int (fun _ _ => rfl)) (nomark _)) (pw_or1 (PW.pt (pw_and (pt_cmpR op_eq (pe_ix ix_seq (pv 4) pe_int (fun _ _ => rfl)) (pe_ix ix_seq (pv 3) pe_int (fun _ _ => rfl)) (nomark _)) (pw_and1 (pt_cmpR op_le (pe_ix ix_seq (pv 4) pe_int (fun _ _ => rfl)) (pe_ix ix_seq (pv 3) pe_int (fun _ _ => rfl)) (nomark _)))))))) (pss_one (ps_ret pe_bl)) pss_nil)
      (pss_one (ps_set (i := 3) sc_l_is_shape.nd rfl (Or.inl rfl) (pv 4)))))))
      (pss_one (ps_ret pe_bl))))))))
theorem b_law (T : Tx K mg) : Binds K T.fd_law ["_law_script"] [] := T.F_law.bindsN fun _ _ _ _ _ _ us hl => match us, hl with | [_], _ => rfl
theorem ok_law (T : Tx K mg) : FnOk P w K mg base CX0 9 (He.fAd K ("law", none)) T.fd_law ["_law_script"] (sp_law K) := by
  refine T.F_law.ok sc_law (fun vs H Q E h => len_law h) (fun cdv A outer s H vs Q E hr h => ⟨t_law K, PSs.nox ?_, pure_law T.more h⟩)
  exact (pss_cons (ps_set (i := 1) sc_law.nd rfl (Or.inl rfl) (pe_call (ok_l_deck T) (hr.mono (by decide)) (by rfl) T.g_l_deck T.F_l_deck.kp (b_l_deck T) .nil pass0 (pa_cons (pv 0) pa_nil)))
      (pss_cons (ps_set (i := 2) sc_law.nd rfl (Or.inl rfl) (pe_call (ok_l_draw T) (hr.mono (by decide)) (by rfl) T.g_l_draw T.F_l_draw.kp (b_l_draw T) .nil pass0 (pa_cons (pv 1) (pa_cons pe_int pa_nil))))
      (pss_cons (ps_if (pt_cmpR op_eq (pv 2) pe_int (nomark _)) (pss_one (ps_set (i := 3) sc_law.nd rfl (Or.inl rfl) (pe_call (ok_l_odd T) (hr.mono (by decide)) (by rfl) T.g_l_odd T.F_l_odd.kp (b_l_odd T) .nil pass0 (pa_cons (pv 1) pa_nil)))) (pss_one (ps_if (pt_cmpR op_eq (pv 2) pe_int (nomark _)) (pss_cons (ps_set (i := 3) sc_law.nd rfl (Or.inl rfl) (pe_tup (pa_cons (pe_tupRg rfl (by rfl) T.z_tuple (prg_1 (by rfl) T.z_range (pe_op op_add pe_int (pe_call (ok_l_draw T) (hr.mono (by decide)) (by rfl) T.g_l_draw T.F_l_draw.kp (b_l_draw T) .nil pass0 (pa_cons (pv 1) (pa_cons pe_int pa_nil)))))) (pa_cons (pe_tup pa_nil) pa_nil))))
      (pss_one (ps_if (pt_cmpR op_eq (pe_call (ok_l_draw T) (hr.mono (by decide)) (by rfl) T.g_l_draw T.F_l_draw.kp (b_l_draw T) .nil pass0 (pa_cons (pv 1) (pa_cons pe_int pa_nil))) pe_int (nomark _)) (pss_cons (ps_setLc (i := 5) (own := [("_law_k", 4)]) (g := (gName 4)) (tt := tYes) (te := (tTup (tCons (tC (.int 0)) (tCons (tC (.int 0)) tNil)))) rfl sc_law.nd rfl rfl (sw_true rfl rfl rfl (by decide +kernel)) (pi_range1 (by rfl) T.z_range (pa_cons (pe_op op_add pe_int (pe_call (ok_l_draw T) (hr.mono (by decide)) (by rfl) T.g_l_draw T.F_l_draw.kp (b_l_draw T) .nil pass0 (pa_cons (pv 1) (pa_cons pe_int pa_nil)))) pa_nil)) (blkOk_by (own := [("_law_k", 4)]) (N := N_law) (sc := defScope s_law) (by decide +kernel)) (fun _ _ _ _ _ => (pg_name (i := 4) sc_law.nd rfl (Or.inl rfl))) (fun _ _ _ _ _ => pts_nil) (fun _ _ _ _ _ => (pe_tup (pa_cons pe_int (pa_cons pe_int pa_nil)))))
      (pss_cons (ps_for PassesOwn.never rfl (pi_range1 (by rfl) T.z_range (pa_cons (pe_callB call_len (by rfl) T.z_len PySem.boot_len (pa_cons (pv 5) pa_nil)) pa_nil)) (pg_name (i := 4) sc_law.nd rfl (Or.inl rfl)) (pss_one (ps_asg (pe_tup (pa_cons (pe_op op_add pe_int (pe_op op_fdivW (pv 4) pe_int)) (pa_cons (pe_op op_mod (pv 4) pe_int) pa_nil))) (pg_sub (pv 5) (pv 4) set_list))))
      (pss_one (ps_set (i := 3) sc_law.nd rfl (Or.inl rfl) (pe_tup (pa_cons (pe_tupRg rfl (by rfl) T.z_tuple (prg_1 (by rfl) T.z_range pe_int)) (pa_cons (pe_callTy call_tuple_of (by rfl) T.z_tuple (by decide +kernel) (pa_cons (pv 5) pa_nil)) pa_nil))))))) pss_nil))) (pss_cons (ps_set (i := 3) sc_law.nd rfl (Or.inl rfl) (pe_call (ok_l_shape T) (hr.mono (by decide)) (by rfl) T.g_l_shape T.F_l_shape.kp (b_l_shape T) .nil pass0 (pa_cons (pv 1) (pa_cons pe_int pa_nil))))
      (pss_one (ps_for PassesOwn.never rfl (pi_range1 (by rfl) T.z_range (pa_cons (pe_op op_add pe_int (pe_call (ok_l_draw T) (hr.mono (by decide)) (by rfl) T.g_l_draw T.F_l_draw.kp (b_l_draw T) .nil pass0 (pa_cons (pv 1) (pa_cons pe_int pa_nil)))) pa_nil)) (pg_name (i := 4) sc_law.nd rfl (Or.inl rfl)) (pss_one (ps_set (i := 3) sc_law.nd rfl (Or.inl rfl) (pe_call (ok_l_bent T) (hr.mono (by decide)) (by rfl) T.g_l_bent T.F_l_bent.kp (b_l_bent T) .nil pass0 (pa_cons (pv 1) (pa_cons (pv 3) (pa_cons pe_int pa_nil))))))))))))
      (pss_cons (ps_set (i := 6) sc_law.nd rfl (Or.inl rfl) (pe_call (ok_l_is_shape T) (hr.mono (by decide)) (by rfl) T.g_l_is_shape T.F_l_is_shape.kp (b_l_is_shape T) .nil pass0 (pa_cons (pv 3) pa_nil)))
      (pss_cons (ps_set (i := 7) sc_law.nd rfl (Or.inl rfl) pe_non)
      (pss_cons (ps_set (i := 8) sc_law.nd rfl (Or.inl rfl) pe_non)
      (pss_cons (ps_try_as (i := 9) (tb := fun W => (tAsg (tCallS (sp_check K) (WE W) (tCons (tVar 3) tNil)) (gName 7))) (ts := fun xa xcls xd => (tAsg (tAndV (tCB (rIsX K xa xcls xd) (tCons (tVar 9) (tCons (tC (.ref (He.ga K "NoShape"))) tNil))) (tAndV (tCB (rIsX K xa xcls xd) (tCons (tVar 9) (tCons (tC (.ty "ValueError")) tNil))) (tNotV (tCB (rIsX K xa xcls xd) (tCons (tVar 9) (tCons (tC (.ref (He.ga K "TooMany"))) tNil)))))) (gName 8))) rfl rfl sc_law.nd rfl rfl ⟨rfl, by decide, .inl T.gc_HouseError⟩ takes0 (fun W pn xe tk _ => (pss_one (ps_set (i := 7) sc_law.nd rfl (Or.inl rfl) (pe_callS (ok_check T) (hr.mono (by decide)) (by rfl) T.g_check T.F_check.kp (b_check T) (fun σ => passAt tk σ) (pa_cons (pv 3) pa_nil))))) (fun xa oe xcls xd pn xhz xhf => (pss_one (ps_set (i := 8) sc_law.nd rfl (Or.inl rfl) (pe_and (pe_callB (call_isX xhz xhf) (by rfl) T.z_isinstance (by decide +kernel) (pa_cons (pv 9) (pa_cons (pe_glob (v := .ref (He.ga K "NoShape")) (by rfl) T.gc_NoShape rfl) pa_nil))) (pe_and (pe_callB (call_isX xhz xhf) (by rfl) T.z_isinstance (by decide +kernel) (pa_cons (pv 9) (pa_cons (pe_bltn (v := .ty "ValueError") (by rfl) T.z_ValueError (by decide +kernel) rfl) pa_nil))) (pe_one (pe_not (pe_callB (call_isX xhz xhf) (by rfl) T.z_isinstance (by decide +kernel) (pa_cons (pv 9) (pa_cons (pe_glob (v := .ref (He.ga K "TooMany")) (by rfl) T.gc_TooMany rfl) pa_nil)))))))))))
      (pss_cons (ps_if (pt_val (pv 6)) (pss_one (ps_ret (pe_and (pe_cmpR op_isN (pv 8) pe_non (nomark _)) (pe_one (pe_cmpR op_isBl (pv 7) pe_bl (nomark _)))))) pss_nil)
      (pss_one (ps_ret (pe_cmpR op_isBl (pv 8) pe_bl (nomark _))))))))))))
end
def d_is_int : He.DefD := ⟨("is_int", none), "is_int", "is_int", defArgs s_is_int, defBody s_is_int, defScope s_is_int, [], []⟩
def d_is_pair : He.DefD := ⟨("is_pair", none), "is_pair", "is_pair", defArgs s_is_pair, defBody s_is_pair, defScope s_is_pair, [], []⟩
def d_rises : He.DefD := ⟨("rises", none), "rises", "rises", defArgs s_rises, defBody s_rises, defScope s_rises, [], []⟩
def d_is_ints : He.DefD := ⟨("is_ints", none), "is_ints", "is_ints", defArgs s_is_ints, defBody s_is_ints, defScope s_is_ints, [], []⟩
def d_is_rising : He.DefD := ⟨("is_rising", none), "is_rising", "is_rising", defArgs s_is_rising, defBody s_is_rising, defScope s_is_rising, [], []⟩
def d_are_versions : He.DefD := ⟨("are_versions", none), "are_versions", "are_versions", defArgs s_are_versions, defBody s_are_versions, defScope s_are_versions, [], []⟩
def d_is_link : He.DefD := ⟨("is_link", none), "is_link", "is_link", defArgs s_is_link, defBody s_is_link, defScope s_is_link, [], []⟩
def d_are_links : He.DefD := ⟨("are_links", none), "are_links", "are_links", defArgs s_are_links, defBody s_are_links, defScope s_are_links, [], []⟩
def d_check : He.DefD := ⟨("check", none), "check", "check", defArgs s_check, defBody s_check, defScope s_check, [], []⟩
def d_l_deck : He.DefD := ⟨("_law_deck", none), "_law_deck", "_law_deck", defArgs s_l_deck, defBody s_l_deck, defScope s_l_deck, [], []⟩
def d_l_mixed : He.DefD := ⟨("_law_mixed", none), "_law_mixed", "_law_mixed", defArgs s_l_mixed, defBody s_l_mixed, defScope s_l_mixed, [], []⟩
def d_l_draw : He.DefD := ⟨("_law_draw", none), "_law_draw", "_law_draw", defArgs s_l_draw, defBody s_l_draw, defScope s_l_draw, [], []⟩
def d_l_int : He.DefD := ⟨("_law_int", none), "_law_int", "_law_int", defArgs s_l_int, defBody s_l_int, defScope s_l_int, [], []⟩
def d_l_shape : He.DefD := ⟨("_law_shape", none), "_law_shape", "_law_shape", defArgs s_l_shape, defBody s_l_shape, defScope s_l_shape, [], []⟩
def d_l_odd : He.DefD := ⟨("_law_odd", none), "_law_odd", "_law_odd", defArgs s_l_odd, defBody s_l_odd, defScope s_l_odd, [], []⟩
def d_l_bent : He.DefD := ⟨("_law_bent", none), "_law_bent", "_law_bent", defArgs s_l_bent, defBody s_l_bent, defScope s_l_bent, [], []⟩
def d_l_rising : He.DefD := ⟨("_law_rising", none), "_law_rising", "_law_rising", defArgs s_l_rising, defBody s_l_rising, defScope s_l_rising, [], []⟩
def d_l_is_shape : He.DefD := ⟨("_law_is_shape", none), "_law_is_shape", "_law_is_shape", defArgs s_l_is_shape, defBody s_l_is_shape, defScope s_l_is_shape, [], []⟩
def d_law : He.DefD := ⟨("law", none), "law", "law", defArgs s_law, defBody s_law, defScope s_law, [], []⟩
def fn : List He.DefD := [d_is_int, d_is_pair, d_rises, d_is_ints, d_is_rising, d_are_versions, d_is_link, d_are_links, d_check, d_l_deck, d_l_mixed, d_l_draw, d_l_int, d_l_shape, d_l_odd, d_l_bent, d_l_rising, d_l_is_shape, d_law]
def fa : List He.Fa := [.glo "is_int", .glo "is_pair", .glo "rises", .glo "is_ints", .glo "is_rising", .glo "are_versions", .glo "is_link", .glo "are_links", .glo "check", .glo "_law_deck", .glo "_law_mixed", .glo "_law_draw", .glo "_law_int", .glo "_law_shape", .glo "_law_odd", .glo "_law_bent", .glo "_law_rising", .glo "_law_is_shape", .glo "law", .free "ValueError", .free "all", .free "bool", .free "int", .free "isinstance", .free "len", .free "list", .free "range", .free "tuple", .free "zip", .int "MOST_LINKS" 2000, .int "MOST_VERSIONS" 400, .glo "HouseError", .glo "NoShape", .glo "TooMany", .exc "NoShape"]
abbrev R : PySem.W.OpenRow := PySem.W.OpenLaw.row PySem.Challenge.rw_fewasks_k12_no_shape
abbrev hk : PySem.W.Hook := Fw.hookY 4 fa fn Fw.exB
def ob (s : PySem.W.SharedT) : Fw.AlY := Fw.obsYG 4 fa fn Fw.exB (HandSHeadRun.getT s)
theorem ob_eq (s : PySem.W.SharedT) : ob s = hk.obs s.abs := Fw.obsYG_eq (HandSHeadRun.getT_eq s)
def loose : List Str := [("HouseError" : Str), ("TooMany" : Str), ("NoShape" : Str), ("is_int" : Str), ("is_pair" : Str), ("rises" : Str), ("is_ints" : Str), ("is_rising" : Str), ("check" : Str), ("are_versions" : Str), ("are_links" : Str), ("is_link" : Str), ("_law_deck" : Str), ("_law_mixed" : Str), ("_law_draw" : Str), ("_law_int" : Str), ("_law_shape" : Str), ("_law_odd" : Str), ("_law_bent" : Str), ("_law_rising" : Str), ("_law_is_shape" : Str), ("MOST_LINKS" : Str), ("MOST_VERSIONS" : Str)]
theorem run (w : World) : HandSHeadRun.RunEq R (PySem.W.view R.prog [27]) hk ob 4000 loose w := by
  intro os
  kernel_rfl
theorem facts {P : Program} {w : World} {K : PySem.W.Frag} {h : Heap} {mg : Str → Option Value} {f : Addr} (X : K.In h) (G : h.Ns mainGlobals mg) (hfa : mg ("law" : Str) = some (.ref f)) (c : He.SaysD fa fn K) (m : Fw.exB K = true) :
    ∃ fd : FuncData, (∀ (s : Shared) (v : Value), BindsTo s fd ⟨[v], []⟩ [("_law_script", v)]) ∧ ∀ base : Heap, K.In base → base.Ns mainGlobals mg → FnOk P w K mg base CX0 9 f fd ["_law_script"] (sp_law K) := by
  obtain ⟨fd0, F0⟩ := c.def_ 0 (d := d_is_int) rfl
  obtain ⟨fd1, F1⟩ := c.def_ 1 (d := d_is_pair) rfl
  obtain ⟨fd2, F2⟩ := c.def_ 2 (d := d_rises) rfl
  obtain ⟨fd3, F3⟩ := c.def_ 3 (d := d_is_ints) rfl
  obtain ⟨fd4, F4⟩ := c.def_ 4 (d := d_is_rising) rfl
  obtain ⟨fd5, F5⟩ := c.def_ 5 (d := d_are_versions) rfl
  obtain ⟨fd6, F6⟩ := c.def_ 6 (d := d_is_link) rfl
  obtain ⟨fd7, F7⟩ := c.def_ 7 (d := d_are_links) rfl
  obtain ⟨fd8, F8⟩ := c.def_ 8 (d := d_check) rfl
  obtain ⟨fd9, F9⟩ := c.def_ 9 (d := d_l_deck) rfl
  obtain ⟨fd10, F10⟩ := c.def_ 10 (d := d_l_mixed) rfl
  obtain ⟨fd11, F11⟩ := c.def_ 11 (d := d_l_draw) rfl
  obtain ⟨fd12, F12⟩ := c.def_ 12 (d := d_l_int) rfl
  obtain ⟨fd13, F13⟩ := c.def_ 13 (d := d_l_shape) rfl
  obtain ⟨fd14, F14⟩ := c.def_ 14 (d := d_l_odd) rfl
  obtain ⟨fd15, F15⟩ := c.def_ 15 (d := d_l_bent) rfl
  obtain ⟨fd16, F16⟩ := c.def_ 16 (d := d_l_rising) rfl
  obtain ⟨fd17, F17⟩ := c.def_ 17 (d := d_l_is_shape) rfl
  obtain ⟨fd18, F18⟩ := c.def_ 18 (d := d_law) rfl
  have e := hfa.symm.trans (He.glo_ok X G (c.fact 18 (f := .glo "law") rfl))
  cases e
  have b := FunD.bindsA (ps := ["_law_script"]) F18 fun _ _ _ _ _ _ us hl => match us, hl with | [_], _ => rfl
  exact ⟨fd18, fun s v => b s [v] rfl, fun base _ _ => ok_law (⟨fd0, F0, (He.glo_ok X G (c.fact 0 (f := .glo "is_int") rfl)), fd1, F1, (He.glo_ok X G (c.fact 1 (f := .glo "is_pair") rfl)), fd2, F2, (He.glo_ok X G (c.fact 2 (f := .glo "rises") rfl)), fd3, F3, (He.glo_ok X G (c.fact 3 (f := .glo "is_ints") rfl)), fd4, F4, (He.glo_ok X G (c.fact 4 (f := .glo "is_rising") rfl)), fd5, F5, (He.glo_ok X G (c.fact 5 (f := .glo "are_versions") rfl)), fd6, F6, (He.glo_ok X G (c.fact 6 (f := .glo "is_link") rfl)), fd7, F7, (He.glo_ok X G (c.fact 7 (f := .glo "are_links") rfl)), fd8, F8, (He.glo_ok X G (c.fact 8 (f := .glo "check") rfl)), fd9, F9, (He.glo_ok X G (c.fact 9 (f := .glo "_law_deck") rfl)), fd10, F10, (He.glo_ok X G (c.fact 10 (f := .glo "_law_mixed") rfl)), fd11, F11, (He.glo_ok X G (c.fact 11 (f := .glo "_law_draw") rfl)), fd12, F12, (He.glo_ok X G (c.fact 12 (f := .glo "_law_int") rfl)), fd13, F13, (He.glo_ok X G (c.fact 13 (f := .glo "_law_shape") rfl)), fd14, F14, (He.glo_ok X G (c.fact 14 (f := .glo "_law_odd") rfl)), fd15, F15, (He.glo_ok X G (c.fact 15 (f := .glo "_law_bent") rfl)), fd16, F16, (He.glo_ok X G (c.fact 16 (f := .glo "_law_rising") rfl)), fd17, F17, (He.glo_ok X G (c.fact 17 (f := .glo "_law_is_shape") rfl)), fd18, F18, (He.free_ok X G (c.fact 19 (f := .free "ValueError") rfl)), (He.free_ok X G (c.fact 20 (f := .free "all") rfl)), (He.free_ok X G (c.fact 21 (f := .free "bool") rfl)), (He.free_ok X G (c.fact 22 (f := .free "int") rfl)), (He.free_ok X G (c.fact 23 (f := .free "isinstance") rfl)), (He.free_ok X G (c.fact 24 (f := .free "len") rfl)), (He.free_ok X G (c.fact 25 (f := .free "list") rfl)), (He.free_ok X G (c.fact 26 (f := .free "range") rfl)), (He.free_ok X G (c.fact 27 (f := .free "tuple") rfl)), (He.free_ok X G (c.fact 28 (f := .free "zip") rfl)), (He.int_ok X G (c.fact 29 (f := .int "MOST_LINKS" 2000) rfl)), (He.int_ok X G (c.fact 30 (f := .int "MOST_VERSIONS" 400) rfl)), (He.glo_ok X G (c.fact 31 (f := .glo "HouseError") rfl)), (He.glo_ok X G (c.fact 32 (f := .glo "NoShape") rfl)), (He.glo_ok X G (c.fact 33 (f := .glo "TooMany") rfl)), (He.exc_ok (c.fact 34 (f := .exc "NoShape") rfl)), (Fw.kinds_of m)⟩ : Tx K mg)⟩
end K12
open PySem PySem.W PySem.Calls PyProof.Rows
set_option maxRecDepth 100000 in
set_option maxHeartbeats 0 in
theorem PySem.Challenge.cw_fewasks_k12_no_shape_holds : PySem.Challenge.rw_fewasks_k12_no_shape.Holds := by
  w_on; o_law
  refine HandSHeadRun.head_any (r := OpenLaw.row PySem.Challenge.rw_fewasks_k12_no_shape) (q := view (OpenLaw.row PySem.Challenge.rw_fewasks_k12_no_shape).prog [27]) (H := K12.hk) (ob := K12.ob) (M := 4000) (loose := K12.loose) (d := HandSHeadRun.topDef (OpenLaw.row PySem.Challenge.rw_fewasks_k12_no_shape).prog 27) (kwd := []) K12.ob_eq
    (by kernel_rfl) (fun s => by kernel_rfl) K12.run (by kernel_rfl) (by kernel_rfl) (by kernel_rfl) (by rfl) (by first | assumption | decide +kernel) (by decide +kernel) ⟨rfl, rfl, rfl, rfl, rfl, by decide +kernel⟩ ?hw ?hc
  case hw => w_witness2
  case hc =>
    refine L2.walk_ofE (l := PySem.Challenge.rw_fewasks_k12_no_shape) (n := 63) (k := 9) (x := "_law_script") (CX := L2.CX0) rfl (by decide) (by kernel_rfl) ⟨rfl, by decide, by decide⟩ ?F (fun _ _ _ _ z => z)
    intro w mg fa h Y G hmg0
    obtain ⟨K, KX, c, m⟩ := Y
    have hmg : mg ("law" : PySem.Str) = some (.ref fa) := by
      have e : (HandSHeadRun.topDef (OpenLaw.row PySem.Challenge.rw_fewasks_k12_no_shape).prog 27).name = ("law" : PySem.Str) := by kernel_rfl
      rw [← e]
      exact hmg0
    obtain ⟨fd, hb, hF⟩ := K12.facts (P := (PySem.Challenge.rw_fewasks_k12_no_shape).prog) (w := w) KX G hmg c m
    exact ⟨K, fd, Fw.sp_law K, KX, hb, fun H a ns hl _ hS => ⟨a, ns, rfl, hS, hl, fun _ => rfl⟩, hF⟩
