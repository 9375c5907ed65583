import PyProof.Rows.All
import Wide.All
import OpenK.AllK
import Wide.FinOn
import KE.KStateDown
import HandS.ForMost
import HandS.IsInst
import HandS.Conv
import HandS.Wide
import HandS.WideBits
import HandS.SortInts
import HandS.DictComp
import HandS.Zip
import HandS.Rev
import HandS.Flow
import HandS.Steps
import HandS.Defaults
import HandS.Head0
import HandS.Head1
import HandS.Head2
import HandS.HeadEnd
import HandS.HeadHook1
import HandS.HeadHook2
import HandS.Walk
import HandS.Text
import HandS.TupAny
import HandS.MakeKwOnly
import PySem.Challenge.RW_fewasks_k38_whole_joined
set_option Elab.async false
set_option linter.all false
set_option maxRecDepth 100000
set_option maxHeartbeats 4000000
namespace Fw
open PySem L2 RZ RT
/-! ### readings by name -/
abbrev rAddI : R2 := rI0 fun i j => .int (i + j)
abbrev rSubI : R2 := rI0 fun i j => .int (i - j)
abbrev rMulI : R2 := rI CMul fun i j => .int (i * j)
abbrev rDivI : R2 := rI CDivW fun i j => .int (i / j)
abbrev rModI : R2 := rI (fun _ j => 0 < j) fun i j => .int (i % j)
abbrev rPowI : R2 := rI CPow fun i j => .int (i ^ j.toNat)
abbrev rLtI : R2 := rI0 fun i j => .bl (decide (i < j))
abbrev rLeI : R2 := rI0 fun i j => .bl (decide (i ≤ j))
abbrev rGtI : R2 := rI0 fun i j => .bl (decide (j < i))
abbrev rGeI : R2 := rI0 fun i j => .bl (decide (j ≤ i))
abbrev rNegI : V → Hp → VK → Prop := rU fun i => .int (-i)
abbrev fIsN : R2 := fun x y H Q => y = .non ∧ Q (.bl (decide (x = .non))) H
abbrev fNotN : R2 := fun x y H Q => y = .non ∧ Q (.bl (!decide (x = .non))) H
def fLen (K : PySem.W.Frag) : List V → Hp → VK → Prop := fun xs H Q => ∃ x n, xs = [x] ∧ LenV K x H n ∧ Q (.int n) H
def fListOf (K : PySem.W.Frag) : List V → Hp → VK → Prop := fun xs H Q => ∃ p ys, xs = [.ref p] ∧ (SqL K H p ys ∨ SqT K H p ys) ∧ ∀ l, H l = none → Q (.ref l) (upd H l (.lst ys))
def fTupleOf (K : PySem.W.Frag) : List V → Hp → VK → Prop := fun xs H Q => ∃ p ys, xs = [.ref p] ∧ ((SqL K H p ys ∧ ∀ l, H l = none → Q (.ref l) (upd H l (.tup ys))) ∨ (SqT K H p ys ∧ Q (.ref p) H))
def fMin2 : List V → Hp → VK → Prop := fun xs H Q => ∃ i j, xs = [.int i, .int j] ∧ Q (.int (if j < i then j else i)) H
def fMax2 : List V → Hp → VK → Prop := fun xs H Q => ∃ i j, xs = [.int i, .int j] ∧ Q (.int (if j > i then j else i)) H
/-! ### steps -/
section
variable {K : PySem.W.Frag} {H : Hp} {p : Addr} {xs : List V} {i : Int} {v : V} {Q : VK}
theorem ixL (h : H p = some (.lst xs)) (ha : atI xs i = some v) (q : Q v H) : rIx K (.ref p) (.int i) H Q := .inl ⟨p, xs, i, v, rfl, rfl, .inl (.inl h), ha, q⟩
theorem ixT (h : H p = some (.tup xs)) (ha : atI xs i = some v) (q : Q v H) : rIx K (.ref p) (.int i) H Q := .inr (.inl ⟨p, xs, i, v, rfl, rfl, .inl (.inl h), ha, q⟩)
theorem lenL {σ : L2.St} (h : H p = some (.lst xs)) (q : Q (.int xs.length) H) : tNil σ H fun ys H2 => fLen K (.ref p :: ys) H2 Q := ⟨_, _, rfl, .inl ⟨xs, .inl (.inl h), rfl⟩, q⟩
theorem lenT {σ : L2.St} (h : H p = some (.tup xs)) (q : Q (.int xs.length) H) : tNil σ H fun ys H2 => fLen K (.ref p :: ys) H2 Q := ⟨_, _, rfl, .inr ⟨xs, .inl (.inl h), rfl⟩, q⟩
theorem sqL (h : H p = some (.lst xs)) : SqL K H p xs := .inl (.inl h)
theorem sqT (h : H p = some (.tup xs)) : SqT K H p xs := .inl (.inl h)
end
theorem updS {H : Hp} {a : Addr} {o : HO} : upd H a o a = some o := upd_same
theorem updN {H : Hp} {a b : Addr} {o : HO} {r : Option HO} (n : b ≠ a) (h : H b = r) : upd H a o b = r := by rw [upd_ne n]; exact h
theorem small100 {m : Int} (h : m.natAbs ≤ 1000000000000000000) : m.natAbs < 2 ^ 100 := Nat.lt_of_le_of_lt h (by decide)
/-- the number in a slot, as a measure -/
def slotN (k : Nat) (σ : L2.St) : Nat := match σ[k]? with
  | some (some (V.int n)) => n.toNat
  | _ => 0
theorem getLastD_of {l : List V} (h : l ≠ []) : l.getLastD .non = l.getLast h := by
  rw [List.getLastD_eq_getLast?, List.getLast?_eq_getLast h]
  rfl
theorem pow18 : (10 : Int) ^ (18 : Int).toNat = 1000000000000000000 := by decide
/-! ### the deck of a law -/
/-- the deck at D: the cells at c, the turn at most t -/
def Dk (c D : Addr) (ns : List Int) (t : Nat) (H : Hp) : Prop := c ≠ D ∧ H c = some (.lst (ns.map V.int)) ∧ ns.length ≤ 63 ∧
  ∃ i n u : Int, H D = some (.lst [.ref c, .int i, .int n, .int u]) ∧ 0 ≤ i ∧ i ≤ ns.length ∧ 0 ≤ n ∧ 0 ≤ u ∧ u ≤ t
def sp_l_deck (K : PySem.W.Frag) : Sp := fun vs H Q _ => ∃ (a : Addr) (ns : List Int), vs = [.ref a] ∧ SqL K H a (ns.map V.int) ∧ ns.length ≤ 63 ∧
  ∀ c D H', Same H H' → H c = none → H D = none → Dk c D ns 0 H' → Q (.ref D) H'
def sp_l_mixed (_ : PySem.W.Frag) : Sp := fun vs H Q _ => ∃ (c t : Int), vs = [.int c, .int t] ∧ 0 ≤ t ∧ t ≤ 1000000000 ∧ ∀ v : Int, Q (.int v) H
def sp_l_draw (_ : PySem.W.Frag) : Sp := fun vs H Q _ => ∃ (c D : Addr) (ns : List Int) (t : Nat) (m : Int), vs = [.ref D, .int m] ∧ Dk c D ns t H ∧ t < 1000000000 ∧ 0 < m ∧ m.natAbs < 2 ^ 100 ∧
  ∀ (v : Int) (H' : Hp), 0 ≤ v → v < m → Dk c D ns (t + 1) H' → (∀ b, b ≠ D → H' b = H b) → Q (.int v) H'
def sp_l_int (_ : PySem.W.Frag) : Sp := fun vs H Q _ => ∃ i : Int, vs = [.int i] ∧ Q (.bl true) H
abbrev N_l_deck : List Str := ["_law_script"]
def t_l_deck (K : PySem.W.Frag) : TS := (tRet (tLst (tCons (tCB (fListOf K) (tCons (tVar 0) tNil)) (tCons (tC (.int 0)) (tCons (tC (.int 0)) (tCons (tC (.int 0)) tNil))))))
abbrev N_l_mixed : List Str := ["_law_cell", "_law_turn"]
def t_l_mixed (K : PySem.W.Frag) : TS := (tRet (tOp rModI (tOp rPowI (tOp rAddI (tOp rAddI (tOp rModI (tVar 0) (tC (.int 2147483629))) (tOp rMulI (tVar 1) (tC (.int 1000003)))) (tC (.int 17))) (tC (.int 5))) (tC (.int 2147483647))))
abbrev N_l_draw : List Str := ["_law_deck_here", "_law_many", "_law_cells", "_law_found", "_law_number"]
def t_l_draw_in (K : PySem.W.Frag) : TS := (tSeq (tIfS (tTest (tOp rLtI (tOp (rIx K) (tVar 2) (tOp rSubI (tOp (rIx K) (tVar 0) (tC (.int 1))) (tC (.int 1)))) (tOp rPowI (tC (.int 10)) (tC (.int 18))))) (tRet (tOp rModI (tCall (sp_l_mixed K) [] E0 (tCons (tOp (rIx K) (tVar 2) (tOp rSubI (tOp (rIx K) (tVar 0) (tC (.int 1))) (tC (.int 1)))) (tCons (tOp (rIx K) (tVar 0) (tC (.int 3))) tNil))) (tVar 1))) tNext)
    (tAsg (tOp (rIx K) (tVar 2) (tOp rSubI (tOp (rIx K) (tVar 0) (tC (.int 1))) (tC (.int 1)))) (gSub (tVar 0) (tC (.int 2)) rSetL)))
def t_l_draw_last (K : PySem.W.Frag) : TS := (tRet (tOp rModI (tCall (sp_l_mixed K) [] E0 (tCons (tVar 4) (tCons (tOp (rIx K) (tVar 0) (tC (.int 3))) tNil))) (tVar 1)))
def t_l_draw_rest (K : PySem.W.Frag) : TS := (tSeq (tIfS (tTest (tOp rGtI (tOp (rIx K) (tVar 0) (tC (.int 2))) (tC (.int 0)))) (tSeq (tAsg (tOp rModI (tOp (rIx K) (tVar 0) (tC (.int 2))) (tVar 1)) (gName 3))
    (tSeq (tAsg (tOp rDivI (tOp (rIx K) (tVar 0) (tC (.int 2))) (tVar 1)) (gSub (tVar 0) (tC (.int 2)) rSetL))
    (tRet (tVar 3)))) tNext)
    (tSeq (tAsg (tOp rMulI (tOp (rIx K) (tVar 0) (tC (.int 3))) (tC (.int 48271))) (gName 4))
    (tSeq (tIfS (tTest (tOp rGtI (tCB (fLen K) (tCons (tVar 2) tNil)) (tC (.int 0)))) (tAsg (tOp rAddI (tVar 4) (tOp rModI (tOp (rIx K) (tVar 2) (tOp rModI (tOp rMulI (tOp (rIx K) (tVar 0) (tC (.int 3))) (tC (.int 7))) (tCB (fLen K) (tCons (tVar 2) tNil)))) (tC (.int 2147483629)))) (gName 4)) tNext)
    (t_l_draw_last K))))
def t_l_draw_mid (K : PySem.W.Frag) : TS := (tSeq (tIfS (tAnd (tTest (tOp rEq (tOp (rIx K) (tVar 0) (tC (.int 2))) (tC (.int 0)))) (tTest (tOp rLtI (tOp (rIx K) (tVar 0) (tC (.int 1))) (tCB (fLen K) (tCons (tVar 2) tNil))))) (tSeq (tAsg (tOp rAddI (tOp (rIx K) (tVar 0) (tC (.int 1))) (tC (.int 1))) (gSub (tVar 0) (tC (.int 1)) rSetL))
    (t_l_draw_in K)) tNext)
    (t_l_draw_rest K))
def t_l_draw (K : PySem.W.Frag) : TS := (tSeq (tAsg (tOp (rIx K) (tVar 0) (tC (.int 0))) (gName 2))
    (tSeq (tAsg (tOp rAddI (tOp (rIx K) (tVar 0) (tC (.int 3))) (tC (.int 1))) (gSub (tVar 0) (tC (.int 3)) rSetL))
    (t_l_draw_mid K)))
abbrev N_l_int : List Str := ["_law_thing"]
def t_l_int (K : PySem.W.Frag) : TS := (tRet (tAndV (tCB (rIsi K) (tCons (tVar 0) (tCons (tC (.ty "int")) tNil))) (tNotV (tCB (rIsi K) (tCons (tVar 0) (tCons (tC (.ty "bool")) tNil))))))
theorem pure_l_deck {K : PySem.W.Frag} {vs : List V} {H : Hp} {Q : VK} {E : XK} (h : sp_l_deck K vs H Q E) : t_l_deck K { nx := fun _ H' => Q .non H', rt := Q } (start N_l_deck vs) H := by
  obtain ⟨a, ns, rfl, hS, hl, k⟩ := h
  refine ⟨_, rfl, a, _, rfl, .inl hS, fun c nc => ⟨by show (4 : Nat) ≤ sizeLine; decide, fun D nD => ?_⟩⟩
  have ncD : c ≠ D := fun e => by rw [← e, updS] at nD; cases nD
  have nD0 : H D = none := by rw [upd_ne ncD.symm] at nD; exact nD
  refine k c D _ (fun b o e => updN (ne_of_none e nD0) (updN (ne_of_none e nc) e)) nc nD0 ⟨ncD, updN ncD updS, hl, 0, 0, 0, updS, Int.le_refl _, by omega, Int.le_refl _, Int.le_refl _, Int.le_refl _⟩
theorem pure_l_mixed {K : PySem.W.Frag} {vs : List V} {H : Hp} {Q : VK} {E : XK} (h : sp_l_mixed K vs H Q E) : t_l_mixed K { nx := fun _ H' => Q .non H', rt := Q } (start N_l_mixed vs) H := by
  obtain ⟨c, t, rfl, h0, h1, k⟩ := h
  refine ⟨_, rfl, _, _, rfl, rfl, (by show (0 : Int) < 2147483629; decide), _, rfl, _, _, rfl, rfl, .inr ⟨by decide, by decide⟩, _, _, rfl, rfl, _, _, rfl, rfl, _, _, rfl, rfl, ⟨by decide, by decide, ?_⟩, _, _, rfl, rfl, (by show (0 : Int) < 2147483647; decide), k _⟩
  have := Int.emod_nonneg c (show (2147483629 : Int) ≠ 0 by decide)
  have := Int.emod_lt_of_pos c (show (0 : Int) < 2147483629 by decide)
  omega
theorem pure_l_int {K : PySem.W.Frag} {vs : List V} {H : Hp} {Q : VK} {E : XK} (h : sp_l_int K vs H Q E) : t_l_int K { nx := fun _ H' => Q .non H', rt := Q } (start N_l_int vs) H := by
  obtain ⟨i, rfl, k⟩ := h
  refine ⟨_, rfl, _, _, _, _, true, rfl, .ty _, .base (.int i), kit_ty (by decide +kernel), _, rfl, iteT ?_⟩
  refine ⟨_, rfl, _, _, _, _, false, rfl, .ty _, .base (.int i), kit_ty (by decide +kernel), _, rfl, k⟩
theorem pure_l_draw {K : PySem.W.Frag} {vs : List V} {H : Hp} {Q : VK} {E : XK} (h : sp_l_draw K vs H Q E) : t_l_draw K { nx := fun _ H' => Q .non H', rt := Q } (start N_l_draw vs) H := by
  obtain ⟨c, D, ns, t, m, rfl, ⟨ncD, hc, hl, i, n, u, hD, i0, i1, n0, u0, u1⟩, ht, m0, m1, k⟩ := h
  have cells : ∀ {j : Int}, 0 ≤ j → j < ns.length → ∃ z : Int, atI (ns.map V.int) j = some (.int z) := fun {j} h0 h1 => by
    obtain ⟨q, rfl⟩ := Int.eq_ofNat_of_zero_le h0
    have hq : q < ns.length := by omega
    exact ⟨ns[q], atI_nat (by rw [List.getElem?_map, List.getElem?_eq_getElem hq]; rfl)⟩
  -- the rest, from any i and n
  have rest : ∀ (i n : Int) (H2 : Hp) (z3 z4 : Option V), 0 ≤ i → i ≤ ns.length → 0 ≤ n → H2 D = some (.lst [.ref c, .int i, .int n, .int (u + 1)]) → H2 c = some (.lst (ns.map V.int)) → (∀ b, b ≠ D → H2 b = H b) →
      t_l_draw_rest K { nx := fun _ H' => Q .non H', rt := Q } [some (.ref D), some (.int m), some (.ref c), z3, z4] H2 := by
    intro i n H2 z3 z4 i0 i1 n0 hD2 hc2 fr2
    have mod0 : ∀ x : Int, 0 ≤ x % m := fun x => Int.emod_nonneg x (by omega)
    have mod1 : ∀ x : Int, x % m < m := fun x => Int.emod_lt_of_pos x m0
    refine ⟨_, rfl, ixL hD2 rfl ⟨_, _, rfl, rfl, _, rfl, ite2 (fun e => ?_) (fun e => ?_)⟩⟩
    · have hn : 0 < n := of_decide_eq_true e
      refine ⟨_, rfl, ixL hD2 rfl ⟨_, rfl, _, _, rfl, rfl, m0, ?_⟩⟩
      refine ⟨_, rfl, ixL hD2 rfl ⟨_, rfl, _, _, rfl, rfl, wide_div m0 m1 (by decide) (by decide), _, rfl, D, _, _, 2, rfl, rfl, hD2, rfl, ?_⟩⟩
      refine ⟨_, rfl, k _ _ (mod0 n) (mod1 n) ⟨ncD, updN ncD hc2, hl, i, n / m, u + 1, updS, i0, i1, Int.ediv_nonneg n0 (by omega), by omega, by omega⟩ fun b nb => (upd_ne nb).trans (fr2 b nb)⟩
    · refine ⟨_, rfl, ixL hD2 rfl ⟨_, _, rfl, rfl, .inr ⟨by decide, by decide⟩, ?_⟩⟩
      have last : ∀ (y : Int), t_l_draw_last K { nx := fun _ H' => Q .non H', rt := Q } [some (.ref D), some (.int m), some (.ref c), z3, some (.int y)] H2 := fun y => by
        refine ⟨_, rfl, _, rfl, ixL hD2 rfl ⟨y, u + 1, rfl, by omega, by omega, fun v => ?_⟩⟩
        refine ⟨_, rfl, _, _, rfl, rfl, m0, k _ _ (mod0 v) (mod1 v) ⟨ncD, hc2, hl, i, n, u + 1, hD2, i0, i1, n0, by omega, by omega⟩ fr2⟩
      refine ⟨_, rfl, lenL hc2 ⟨_, _, rfl, rfl, _, rfl, ite2 (fun e => ?_) (fun e => ?_)⟩⟩
      · have hn : 0 < ns.length := by
          have q : (0 : Int) < (ns.map V.int).length := of_decide_eq_true e
          rw [List.length_map] at q
          omega
        have hlen : ((ns.map V.int).length : Int) = ns.length := by rw [List.length_map]
        obtain ⟨z, hz⟩ := cells (j := (u + 1) * 7 % ((ns.map V.int).length : Int)) (Int.emod_nonneg _ (by omega)) (by rw [hlen]; exact Int.emod_lt_of_pos _ (by omega))
        refine ⟨_, rfl, _, rfl, _, rfl, ixL hD2 rfl ⟨_, _, rfl, rfl, .inr ⟨by decide, by decide⟩, _, rfl, lenL hc2 ⟨_, _, rfl, rfl, (by show (0 : Int) < ((ns.map V.int).length : Int); omega), ixL hc2 hz ⟨_, _, rfl, rfl, (by show (0 : Int) < 2147483629; decide), _, _, rfl, rfl, ?_⟩⟩⟩⟩
        exact last _
      · exact last _
  have mid : ∀ (H1 : Hp) (z3 z4 : Option V), H1 D = some (.lst [.ref c, .int i, .int n, .int (u + 1)]) → H1 c = some (.lst (ns.map V.int)) → (∀ b, b ≠ D → H1 b = H b) →
      t_l_draw_mid K { nx := fun _ H' => Q .non H', rt := Q } [some (.ref D), some (.int m), some (.ref c), z3, z4] H1 := by
    intro H1 z3 z4 hD1 hc1 fr1
    refine ⟨_, rfl, ixL hD1 rfl ⟨rfl, _, rfl, ?_⟩⟩
    refine ite2 (fun e => ?_) (fun e => iteF (rest i n H1 _ _ i0 i1 n0 hD1 hc1 fr1))
    refine ⟨_, rfl, ixL hD1 rfl ⟨_, rfl, lenL hc1 ⟨_, _, rfl, rfl, _, rfl, ite2 (fun e2 => ?_) (fun e2 => rest i n H1 _ _ i0 i1 n0 hD1 hc1 fr1)⟩⟩⟩
    have hi : i < ns.length := by
      have q : i < ((ns.map V.int).length : Int) := of_decide_eq_true e2
      rw [List.length_map] at q
      exact q
    obtain ⟨z, hz⟩ := cells i0 hi
    have ei : i + 1 - 1 = i := by omega
    have inn : ∀ (H2 : Hp), H2 D = some (.lst [.ref c, .int (i + 1), .int n, .int (u + 1)]) → H2 c = some (.lst (ns.map V.int)) → (∀ b, b ≠ D → H2 b = H b) →
        t_l_draw_in K { nx := t_l_draw_rest K { nx := fun _ H' => Q .non H', rt := Q }, rt := Q } [some (.ref D), some (.int m), some (.ref c), z3, z4] H2 := by
      intro H2 hD2 hc2 fr2
      refine ⟨_, rfl, _, rfl, ixL hD2 rfl ⟨_, _, rfl, rfl, ixL hc2 (by rw [ei]; exact hz) ⟨_, _, rfl, rfl, ⟨by decide, by decide, by decide⟩, _, _, rfl, rfl, _, rfl, ite2 (fun e3 => ?_) (fun e3 => ?_)⟩⟩⟩
      · refine ⟨_, rfl, _, rfl, ixL hD2 rfl ⟨_, _, rfl, rfl, ixL hc2 (by rw [ei]; exact hz) ⟨_, rfl, ixL hD2 rfl ⟨z, u + 1, rfl, by omega, by omega, fun v => ?_⟩⟩⟩⟩
        refine ⟨_, rfl, _, _, rfl, rfl, m0, k _ _ (Int.emod_nonneg v (by omega)) (Int.emod_lt_of_pos v m0) ⟨ncD, hc2, hl, i + 1, n, u + 1, hD2, by omega, by omega, n0, by omega, by omega⟩ fr2⟩
      · have hz0 : ¬ z < 1000000000000000000 := fun q => e3 (decide_eq_true (by rw [pow18]; exact q))
        refine ⟨_, rfl, _, rfl, ixL hD2 rfl ⟨_, _, rfl, rfl, ixL hc2 (by rw [ei]; exact hz) ⟨_, rfl, D, _, _, 2, rfl, rfl, hD2, rfl, ?_⟩⟩⟩
        exact rest (i + 1) z _ _ _ (by omega) (by omega) (by omega) updS (updN ncD hc2) fun b nb => updN nb (fr2 b nb)
    refine ⟨_, rfl, ixL hD1 rfl ⟨_, _, rfl, rfl, _, rfl, D, _, _, 1, rfl, rfl, hD1, rfl, ?_⟩⟩
    exact inn _ updS (updN ncD hc1) fun b nb => updN nb (fr1 b nb)
  -- cells = deck[0]; deck[3] = deck[3] + 1
  refine ⟨_, rfl, ixL hD rfl ?_⟩
  refine ⟨_, rfl, ixL hD rfl ⟨_, _, rfl, rfl, _, rfl, D, _, _, 3, rfl, rfl, hD, rfl, ?_⟩⟩
  exact mid _ _ _ updS (updN ncD hc) fun b nb => upd_ne nb
/-! ### the same data, kind for kind -/
/-- two values of the same data, at most n deep -/
def SameV (H : Hp) : Nat → V → V → Prop
  | 0, _, _ => False
  | n + 1, x, y => (x = y ∧ (x = .non ∨ (∃ i, x = .int i) ∨ (∃ b, x = .bl b) ∨ ∃ z, x = .str z)) ∨
    ∃ p q xs ys, x = .ref p ∧ y = .ref q ∧ ((H p = some (.lst xs) ∧ H q = some (.lst ys)) ∨ (H p = some (.tup xs) ∧ H q = some (.tup ys))) ∧ xs.length = ys.length ∧ xs.length ≤ 100000 ∧
      ∀ (i : Nat) (a b : V), xs[i]? = some a → ys[i]? = some b → SameV H n a b
theorem SameV.int {H : Hp} {n : Nat} {i j : Int} (e : i = j) : SameV H (n + 1) (.int i) (.int j) := Or.inl ⟨by rw [e], .inr (.inl ⟨i, rfl⟩)⟩
theorem SameV.bl {H : Hp} {n : Nat} {i j : Bool} (e : i = j) : SameV H (n + 1) (.bl i) (.bl j) := Or.inl ⟨by rw [e], .inr (.inr (.inl ⟨i, rfl⟩))⟩
theorem SameV.tup {H : Hp} {n : Nat} {p q : Addr} {xs ys : List V} (h1 : H p = some (.tup xs)) (h2 : H q = some (.tup ys)) (hl : xs.length = ys.length) (hz : xs.length ≤ 100000) (h : ∀ (i : Nat) (a b : V), xs[i]? = some a → ys[i]? = some b → SameV H n a b) : SameV H (n + 1) (.ref p) (.ref q) :=
  Or.inr ⟨p, q, xs, ys, rfl, rfl, .inr ⟨h1, h2⟩, hl, hz, h⟩
theorem SameV.lst {H : Hp} {n : Nat} {p q : Addr} {xs ys : List V} (h1 : H p = some (.lst xs)) (h2 : H q = some (.lst ys)) (hl : xs.length = ys.length) (hz : xs.length ≤ 100000) (h : ∀ (i : Nat) (a b : V), xs[i]? = some a → ys[i]? = some b → SameV H n a b) : SameV H (n + 1) (.ref p) (.ref q) :=
  Or.inr ⟨p, q, xs, ys, rfl, rfl, .inl ⟨h1, h2⟩, hl, hz, h⟩
theorem SameV.ints {H : Hp} {n : Nat} {ns : List Int} : ∀ (i : Nat) (a b : V), (ns.map V.int)[i]? = some a → (ns.map V.int)[i]? = some b → SameV H (n + 1) a b := fun i a b h1 h2 => by
  have e : a = b := Option.some.inj (h1.symm.trans h2)
  rw [List.getElem?_map] at h1
  cases q : ns[i]? with
  | none => rw [q] at h1; cases h1
  | some z => rw [q] at h1; exact Or.inl ⟨e, .inr (.inl ⟨z, (Option.some.inj h1).symm⟩)⟩
def sp_sameN (_ : PySem.W.Frag) (n : Nat) : Sp := fun vs H Q _ => ∃ x y, vs = [x, y] ∧ SameV H n x y ∧ Q (.bl true) H
abbrev sp_l_same (K : PySem.W.Frag) : Sp := sp_sameN K 6
abbrev N_l_same : List Str := ["_law_found", "_law_due", "_law_k"]
def t_l_same_loop (K : PySem.W.Frag) (n : Nat) : TS := (tSeq (tIfS (tTest (tOp rNe (tCB (fLen K) (tCons (tVar 0) tNil)) (tCB (fLen K) (tCons (tVar 1) tNil)))) (tRet (tC (.bl false))) tNext)
    (tSeq (tFor (iRng1 (tCons (tCB (fLen K) (tCons (tVar 1) tNil)) tNil)) (gName 2) (tIfS (tNot (tB (tCall (sp_sameN K n) [] E0 (tCons (tOp (rIx K) (tVar 0) (tVar 2)) (tCons (tOp (rIx K) (tVar 1) (tVar 2)) tNil))))) (tRet (tC (.bl false))) tNext))
    (tRet (tC (.bl true)))))
def t_l_same_tail (K : PySem.W.Frag) (n : Nat) : TS := (tSeq (tIfS (tB (tCB (rIsi K) (tCons (tVar 1) (tCons (tC (.ty "bool")) tNil)))) (tRet (tAndV (tCB (rIsi K) (tCons (tVar 0) (tCons (tC (.ty "bool")) tNil))) (tOp rEq (tVar 0) (tVar 1)))) tNext)
    (tSeq (tIfS (tB (tCB (rIsi K) (tCons (tVar 1) (tCons (tC (.ty "int")) tNil)))) (tRet (tAndV (tCall (sp_l_int K) [] E0 (tCons (tVar 0) tNil)) (tOp rEq (tVar 0) (tVar 1)))) tNext)
    (tSeq (tIfS (tB (tCB (rIsi K) (tCons (tVar 1) (tCons (tC (.ty "str")) tNil)))) (tRet (tAndV (tCB (rIsi K) (tCons (tVar 0) (tCons (tC (.ty "str")) tNil))) (tOp rEq (tVar 0) (tVar 1)))) tNext)
    (tRet (tAndV (tOp fIsN (tVar 1) (tC .non)) (tOp fIsN (tVar 0) (tC .non)))))))
def t_l_same (K : PySem.W.Frag) (n : Nat) : TS := (tSeq (tIfS (tOr (tB (tCB (rIsi K) (tCons (tVar 1) (tCons (tC (.ty "tuple")) tNil)))) (tB (tCB (rIsi K) (tCons (tVar 1) (tCons (tC (.ty "list")) tNil))))) (tSeq (tIfS (tOr (tTest (tOp rNe (tCB (rIsi K) (tCons (tVar 1) (tCons (tC (.ty "tuple")) tNil))) (tCB (rIsi K) (tCons (tVar 0) (tCons (tC (.ty "tuple")) tNil))))) (tTest (tOp rNe (tCB (rIsi K) (tCons (tVar 1) (tCons (tC (.ty "list")) tNil))) (tCB (rIsi K) (tCons (tVar 0) (tCons (tC (.ty "list")) tNil)))))) (tRet (tC (.bl false))) tNext)
    (t_l_same_loop K n)) tNext)
    (t_l_same_tail K n))
section
variable {K : PySem.W.Frag} {H : Hp} {x : V} {Q : VK} {σ : L2.St} {c t : String} {b : Bool}
theorem isi (ty : TyX K H x (.type t)) (k : kitB t c = some b) (q : Q (.bl b) H) : tCons (tC (.ty c)) tNil σ H fun ys H2 => rIsi K (x :: ys) H2 Q := ⟨_, _, _, _, b, rfl, .ty _, ty, kit_ty k, q⟩
end
theorem k_it : kitB "int" "tuple" = some false := by decide +kernel
theorem k_il : kitB "int" "list" = some false := by decide +kernel
theorem k_ib : kitB "int" "bool" = some false := by decide +kernel
theorem k_ii : kitB "int" "int" = some true := by decide +kernel
theorem k_bt : kitB "bool" "tuple" = some false := by decide +kernel
theorem k_bl : kitB "bool" "list" = some false := by decide +kernel
theorem k_bb : kitB "bool" "bool" = some true := by decide +kernel
theorem k_bi : kitB "bool" "int" = some true := by decide +kernel
theorem k_st : kitB "str" "tuple" = some false := by decide +kernel
theorem k_sl : kitB "str" "list" = some false := by decide +kernel
theorem k_sb : kitB "str" "bool" = some false := by decide +kernel
theorem k_si : kitB "str" "int" = some false := by decide +kernel
theorem k_ss : kitB "str" "str" = some true := by decide +kernel
theorem k_nt : kitB "NoneType" "tuple" = some false := by decide +kernel
theorem k_nl : kitB "NoneType" "list" = some false := by decide +kernel
theorem k_nb : kitB "NoneType" "bool" = some false := by decide +kernel
theorem k_ni : kitB "NoneType" "int" = some false := by decide +kernel
theorem k_ns : kitB "NoneType" "str" = some false := by decide +kernel
theorem k_tt : kitB "tuple" "tuple" = some true := by decide +kernel
theorem k_tl : kitB "tuple" "list" = some false := by decide +kernel
theorem k_ti : kitB "tuple" "int" = some false := by decide +kernel
theorem k_tb : kitB "tuple" "bool" = some false := by decide +kernel
theorem k_lt : kitB "list" "tuple" = some false := by decide +kernel
theorem k_ll : kitB "list" "list" = some true := by decide +kernel
theorem k_li : kitB "list" "int" = some false := by decide +kernel
theorem k_lb : kitB "list" "bool" = some false := by decide +kernel
theorem len_le {n : Nat} (h : n ≤ 100000) : -(2 ^ 62 : Int) ≤ (n : Int) ∧ (n : Int) < 2 ^ 62 := by
  have e : (2 : Int) ^ 62 = 4611686018427387904 := by decide
  rw [e]
  omega
theorem pure_l_same {K : PySem.W.Frag} {n : Nat} {vs : List V} {H : Hp} {Q : VK} {E : XK} (h : sp_sameN K (n + 1) vs H Q E) : t_l_same K n { nx := fun _ H' => Q .non H', rt := Q } (start N_l_same vs) H := by
  obtain ⟨x, y, rfl, h, k⟩ := h
  rcases h with ⟨rfl, h⟩ | ⟨p, q, xs, ys, rfl, rfl, h, hl, hz, hs⟩
  · rcases h with rfl | ⟨i, rfl⟩ | ⟨b, rfl⟩ | ⟨z, rfl⟩
    · refine ⟨_, rfl, isi (.base .non) k_nt ⟨_, rfl, iteF ⟨_, rfl, isi (.base .non) k_nl ⟨_, rfl, iteF ?_⟩⟩⟩⟩
      refine ⟨_, rfl, isi (.base .non) k_nb ⟨_, rfl, iteF ?_⟩⟩
      refine ⟨_, rfl, isi (.base .non) k_ni ⟨_, rfl, iteF ?_⟩⟩
      refine ⟨_, rfl, isi (.base .non) k_ns ⟨_, rfl, iteF ?_⟩⟩
      exact ⟨_, rfl, rfl, _, rfl, iteT ⟨_, rfl, rfl, k⟩⟩
    · refine ⟨_, rfl, isi (.base (.int i)) k_it ⟨_, rfl, iteF ⟨_, rfl, isi (.base (.int i)) k_il ⟨_, rfl, iteF ?_⟩⟩⟩⟩
      refine ⟨_, rfl, isi (.base (.int i)) k_ib ⟨_, rfl, iteF ?_⟩⟩
      refine ⟨_, rfl, isi (.base (.int i)) k_ii ⟨_, rfl, iteT ?_⟩⟩
      refine ⟨_, rfl, i, rfl, _, rfl, iteT ⟨_, rfl, _, rfl, rfl, ?_⟩⟩
      rw [decide_eq_true rfl]
      exact k
    · refine ⟨_, rfl, isi (.base (.bl b)) k_bt ⟨_, rfl, iteF ⟨_, rfl, isi (.base (.bl b)) k_bl ⟨_, rfl, iteF ?_⟩⟩⟩⟩
      refine ⟨_, rfl, isi (.base (.bl b)) k_bb ⟨_, rfl, iteT ?_⟩⟩
      refine ⟨_, rfl, isi (.base (.bl b)) k_bb ⟨_, rfl, iteT ⟨_, rfl, _, rfl, rfl, ?_⟩⟩⟩
      rw [decide_eq_true rfl]
      exact k
    · refine ⟨_, rfl, isi (.base (.str z)) k_st ⟨_, rfl, iteF ⟨_, rfl, isi (.base (.str z)) k_sl ⟨_, rfl, iteF ?_⟩⟩⟩⟩
      refine ⟨_, rfl, isi (.base (.str z)) k_sb ⟨_, rfl, iteF ?_⟩⟩
      refine ⟨_, rfl, isi (.base (.str z)) k_si ⟨_, rfl, iteF ?_⟩⟩
      refine ⟨_, rfl, isi (.base (.str z)) k_ss ⟨_, rfl, iteT ?_⟩⟩
      refine ⟨_, rfl, isi (.base (.str z)) k_ss ⟨_, rfl, iteT ⟨_, rfl, _, rfl, rfl, ?_⟩⟩⟩
      rw [decide_eq_true rfl]
      exact k
  · -- the loop over both
    have loop : (∃ o, (H p = some o ∧ (o = .lst xs ∨ o = .tup xs))) → (∃ o, (H q = some o ∧ (o = .lst ys ∨ o = .tup ys))) → ∀ z2 : Option V,
        t_l_same_loop K n { nx := t_l_same_tail K n { nx := fun _ H' => Q .non H', rt := Q }, rt := Q } [some (.ref p), some (.ref q), z2] H := by
      intro hp hq z2
      have hlen : ∀ {r : Addr} {zs : List V} {R : VK} {σ : L2.St}, (∃ o, (H r = some o ∧ (o = .lst zs ∨ o = .tup zs))) → R (.int zs.length) H → tNil σ H fun ws H2 => fLen K (.ref r :: ws) H2 R := by
        rintro r zs R σ ⟨o, h1, rfl | rfl⟩ h2
        · exact lenL h1 h2
        · exact lenT h1 h2
      have hix : ∀ {r : Addr} {zs : List V} {R : VK} {i : Int} {v : V}, (∃ o, (H r = some o ∧ (o = .lst zs ∨ o = .tup zs))) → atI zs i = some v → R v H → rIx K (.ref r) (.int i) H R := by
        rintro r zs R i v ⟨o, h1, rfl | rfl⟩ h2 h3
        · exact ixL h1 h2 h3
        · exact ixT h1 h2 h3
      refine ⟨_, rfl, hlen hp ⟨_, rfl, hlen hq ⟨rfl, _, rfl, ?_⟩⟩⟩
      rw [decide_eq_true (show V.int (xs.length : Int) = V.int (ys.length : Int) by rw [hl])]
      refine iteF ?_
      refine ⟨_, rfl, hlen hq ⟨_, rfl, (len_le (by omega)).1, (len_le (by omega)).2, for_range (lo := 0) (n := ((ys.length : Int)).toNat) (fun i σ H' => H' = H ∧ ∃ z, σ = [some (.ref p), some (.ref q), z]) ⟨rfl, _, rfl⟩ ?_ ?_⟩⟩
      · rintro i σ H' hi ⟨rfl, z, rfl⟩
        have hi1 : i < ys.length := by omega
        have hi2 : i < xs.length := by omega
        have e1 : atI xs (0 + (i : Int)) = some xs[i] := by rw [Int.zero_add]; exact atI_nat (List.getElem?_eq_getElem hi2)
        have e2 : atI ys (0 + (i : Int)) = some ys[i] := by rw [Int.zero_add]; exact atI_nat (List.getElem?_eq_getElem hi1)
        refine ⟨_, rfl, _, rfl, hix hp e1 ⟨_, rfl, _, rfl, hix hq e2 ⟨_, _, rfl, hs i _ _ (List.getElem?_eq_getElem hi2) (List.getElem?_eq_getElem hi1), _, rfl, iteF ?_⟩⟩⟩
        exact ⟨rfl, _, rfl⟩
      · rintro σ H' ⟨rfl, z, rfl⟩
        exact k
    rcases h with ⟨h1, h2⟩ | ⟨h1, h2⟩
    · have t1 : TyX K H (.ref p) (.type "list") := .base (.lst h1)
      have t2 : TyX K H (.ref q) (.type "list") := .base (.lst h2)
      refine ⟨_, rfl, isi t2 k_lt ⟨_, rfl, iteF ⟨_, rfl, isi t2 k_ll ⟨_, rfl, iteT ?_⟩⟩⟩⟩
      refine ⟨_, rfl, isi t2 k_lt ⟨_, rfl, isi t1 k_lt ⟨rfl, _, rfl, iteF ⟨_, rfl, isi t2 k_ll ⟨_, rfl, isi t1 k_ll ⟨rfl, _, rfl, iteF ?_⟩⟩⟩⟩⟩⟩
      exact loop ⟨_, h1, .inl rfl⟩ ⟨_, h2, .inl rfl⟩ _
    · have t1 : TyX K H (.ref p) (.type "tuple") := .base (.tup h1)
      have t2 : TyX K H (.ref q) (.type "tuple") := .base (.tup h2)
      refine ⟨_, rfl, isi t2 k_tt ⟨_, rfl, iteT ?_⟩⟩
      refine ⟨_, rfl, isi t2 k_tt ⟨_, rfl, isi t1 k_tt ⟨rfl, _, rfl, iteF ⟨_, rfl, isi t2 k_tl ⟨_, rfl, isi t1 k_tl ⟨rfl, _, rfl, iteF ?_⟩⟩⟩⟩⟩⟩
      exact loop ⟨_, h1, .inr rfl⟩ ⟨_, h2, .inr rfl⟩ _
def sp_law (K : PySem.W.Frag) : Sp := fun vs H Q _ => ∃ (a : Addr) (ns : List Int), vs = [.ref a] ∧ SqL K H a (ns.map V.int) ∧ ns.length ≤ 63 ∧ ∀ H', Q (.bl true) H'
section
variable {K : PySem.W.Frag} {vs : List V} {H : Hp} {Q : VK} {E : XK}
theorem len_law (h : sp_law K vs H Q E) : vs.length = 1 := by
  obtain ⟨_, _, rfl, _⟩ := h
  rfl
theorem len_l_deck (h : sp_l_deck K vs H Q E) : vs.length = 1 := by
  obtain ⟨_, _, rfl, _⟩ := h
  rfl
theorem len_l_mixed (h : sp_l_mixed K vs H Q E) : vs.length = 2 := by
  obtain ⟨_, _, rfl, _⟩ := h
  rfl
theorem len_l_draw (h : sp_l_draw K vs H Q E) : vs.length = 2 := by
  obtain ⟨_, _, _, _, _, rfl, _⟩ := h
  rfl
theorem len_l_int (h : sp_l_int K vs H Q E) : vs.length = 1 := by
  obtain ⟨_, rfl, _⟩ := h
  rfl
theorem len_sameN {n : Nat} (h : sp_sameN K n vs H Q E) : vs.length = 2 := by
  obtain ⟨_, _, rfl, _⟩ := h
  rfl
end
/-! ### comprehensions whose elements change nothing -/
section
variable {K : PySem.W.Frag} {a : Addr} {xs ys : List V} {g : TG} {tt : TT} {te : TE} {vs : List Nat} {σ : L2.St} {H1 : Hp} {D : Addr} {Qd : Hp → Prop}
/-- [e for x in xs], xs a tuple, ys the values in order -/
theorem lc_mapT (hq : ∀ acc, SqT K (upd H1 D (.lst acc)) a xs) (hl : ys.length = xs.length) (hz : xs.length ≤ 100000)
    (hs : ∀ (i : Nat) (x y : V) (acc : List V) (R : VK), xs[i]? = some x → ys[i]? = some y → R y (upd H1 D (.lst acc)) → g x (wipe σ vs) (upd H1 D (.lst acc)) fun σ2 H2 => wipe σ2 vs = wipe σ vs ∧ tt σ2 H2 fun b H3 => if b = true then te σ2 H3 R else False)
    (hd : Qd (upd H1 D (.lst ys))) (mt : ∀ σ H P P', (∀ b H1, P b H1 → P' b H1) → tt σ H P → tt σ H P') (mg : ∀ v σ H P P', (∀ σ1 H1, P σ1 H1 → P' σ1 H1) → g v σ H P → g v σ H P') :
    ∃ W : Nat → Nat → Hp → Prop, (∃ m, W 0 m (upd H1 D (.lst []))) ∧ ∀ i m H, W i m H →
      ((Itt K a).stop i H ∧ Qd H) ∨ ((Itt K a).go i H ∧ ∃ Nx : Hp → Prop, (∀ H', Nx H' → ∃ m', m' < m ∧ W (i + 1) m' H') ∧ ∀ x H', (Itt K a).yld i H x H' → g x (wipe σ vs) H' fun σ2 H2 => wipe σ2 vs = wipe σ vs ∧ tt σ2 H2 fun b H3 =>
        if b = true then te σ2 H3 fun y H4 => ∃ acc, H4 D = some (.lst acc) ∧ acc.length < sizeLine ∧ Nx (upd H4 D (.lst (acc ++ [y]))) else Nx H3) := by
  refine lc_tup (K := K) (a := a) (xs := xs) (fun i H => H = upd H1 D (.lst (ys.take i))) (by rw [List.take_zero]) (fun i H _ e => by rw [e]; exact hq _) (fun i x H hx e => ?_) (fun H e => by
    rw [e, List.take_of_length_le (by omega)]
    exact hd)
  subst e
  have hi : i < ys.length := by
    have := (List.getElem?_eq_some_iff.mp hx).1
    omega
  refine mg _ _ _ _ _ (fun σ1 H2 q => ⟨q.1, mt _ _ _ _ (fun b H3 q2 => ?_) q.2⟩) (hs i x ys[i] (ys.take i) (fun y H4 => ∃ acc, H4 D = some (.lst acc) ∧ acc.length < sizeLine ∧ upd H4 D (.lst (acc ++ [y])) = upd H1 D (.lst (ys.take (i + 1)))) hx (List.getElem?_eq_getElem hi) ⟨ys.take i, upd_same, Nat.lt_of_le_of_lt (by rw [List.length_take]; omega : (ys.take i).length ≤ 100000) (by decide), by rw [upd_upd, List.take_add_one, List.getElem?_eq_getElem hi]; rfl⟩)
  cases b with
  | true => exact q2
  | false => exact q2.elim
theorem lc_mapL (hq : ∀ acc, SqL K (upd H1 D (.lst acc)) a xs) (hl : ys.length = xs.length) (hz : xs.length ≤ 100000)
    (hs : ∀ (i : Nat) (x y : V) (acc : List V) (R : VK), xs[i]? = some x → ys[i]? = some y → R y (upd H1 D (.lst acc)) → g x (wipe σ vs) (upd H1 D (.lst acc)) fun σ2 H2 => wipe σ2 vs = wipe σ vs ∧ tt σ2 H2 fun b H3 => if b = true then te σ2 H3 R else False)
    (hd : Qd (upd H1 D (.lst ys))) (mt : ∀ σ H P P', (∀ b H1, P b H1 → P' b H1) → tt σ H P → tt σ H P') (mg : ∀ v σ H P P', (∀ σ1 H1, P σ1 H1 → P' σ1 H1) → g v σ H P → g v σ H P') :
    ∃ W : Nat → Nat → Hp → Prop, (∃ m, W 0 m (upd H1 D (.lst []))) ∧ ∀ i m H, W i m H →
      ((Itl K a).stop i H ∧ Qd H) ∨ ((Itl K a).go i H ∧ ∃ Nx : Hp → Prop, (∀ H', Nx H' → ∃ m', m' < m ∧ W (i + 1) m' H') ∧ ∀ x H', (Itl K a).yld i H x H' → g x (wipe σ vs) H' fun σ2 H2 => wipe σ2 vs = wipe σ vs ∧ tt σ2 H2 fun b H3 =>
        if b = true then te σ2 H3 fun y H4 => ∃ acc, H4 D = some (.lst acc) ∧ acc.length < sizeLine ∧ Nx (upd H4 D (.lst (acc ++ [y]))) else Nx H3) := by
  refine lc_list (K := K) (a := a) (xs := xs) (fun i H => H = upd H1 D (.lst (ys.take i))) (by rw [List.take_zero]) (fun i H _ e => by rw [e]; exact hq _) (fun i x H hx e => ?_) (fun H e => by
    rw [e, List.take_of_length_le (by omega)]
    exact hd)
  subst e
  have hi : i < ys.length := by
    have := (List.getElem?_eq_some_iff.mp hx).1
    omega
  refine mg _ _ _ _ _ (fun σ1 H2 q => ⟨q.1, mt _ _ _ _ (fun b H3 q2 => ?_) q.2⟩) (hs i x ys[i] (ys.take i) (fun y H4 => ∃ acc, H4 D = some (.lst acc) ∧ acc.length < sizeLine ∧ upd H4 D (.lst (acc ++ [y])) = upd H1 D (.lst (ys.take (i + 1)))) hx (List.getElem?_eq_getElem hi) ⟨ys.take i, upd_same, Nat.lt_of_le_of_lt (by rw [List.length_take]; omega : (ys.take i).length ≤ 100000) (by decide), by rw [upd_upd, List.take_add_one, List.getElem?_eq_getElem hi]; rfl⟩)
  cases b with
  | true => exact q2
  | false => exact q2.elim
theorem mono_yes : ∀ (σ : L2.St) (H : Hp) (P P' : Bool → Hp → Prop), (∀ b H1, P b H1 → P' b H1) → tYes σ H P → tYes σ H P' := fun _ _ _ _ f h => f _ _ h
theorem mono_gName {k : Nat} : ∀ (v : V) (σ : L2.St) (H : Hp) (P P' : L2.St → Hp → Prop), (∀ σ1 H1, P σ1 H1 → P' σ1 H1) → gName k v σ H P → gName k v σ H P' := fun _ _ _ _ _ f h => f _ _ h
end
end Fw

set_option Elab.async false
set_option linter.all false
set_option maxRecDepth 100000
set_option maxHeartbeats 4000000
namespace Fw
open PySem PySem.Spec PyProof.Rows L2
theorem meets_ext (l b : Addr) (xs ys : Array Value) (n m : Nat) (od : Option Addr) (sl : Array (Option Value)) (short : ¬(!xs.isEmpty && Builtin.List.listTooLong (xs.size + ys.size)) = true) (z1 : xs.size ≤ sizeLine) (z2 : xs.size + ys.size ≤ sizeLine + 1) :
    Meets (Builtin.«list.extend» ⟨[.ref l, .ref b], []⟩) (fun _ R s => s.heap.get? l = some ⟨.type "list", none, .seq xs n, #[]⟩ ∧ s.heap.get? b = some ⟨.type "tuple", od, .seq ys m, sl⟩ ∧ R (.ok (.ret Value.none)) { s with heap := s.heap.update l (Obj.mapSeq fun x => x ++ ys), toks := s.toks }) :=
  .of_wp fun prog w A R s h => by
    obtain ⟨hp, g, d, tk, os⟩ := s
    obtain ⟨hl, hb, h⟩ := h
    have f1 := AutoSeq1.idx_int
    have f2 := AutoSeq1.sub_tuple_tuple
    have f3 := AutoSeq1.sub_list_list
    have f4 := AutoSeq1.sub_tuple_list
    have f5 := AutoSeq1.sub_list_tuple
    have hz' : (xs ++ ys).size ≤ sizeLine + 1 := by rw [Array.size_append]; exact z2
    wp_walk using (wpAny_updateSeq hl rfl (hz := z1) (_hz' := hz')), AutoSeq1.wpAny_loadPart' hl, AutoSeq1.wpAny_loadPart' hb
    exact ⟨_, rfl, h⟩
/-- l.extend(b): b another list, or a tuple -/
def rExtendA (K : PySem.W.Frag) : V → List V → Hp → VK → Prop := fun x vs H Q => ∃ (l b : Addr) (xs ys : List V), x = .ref l ∧ vs = [.ref b] ∧ H l = some (.lst xs) ∧ (H b = some (.lst ys) ∨ H b = some (.tup ys)) ∧ xs.length + ys.length ≤ 100000 ∧ Q .non (upd H l (.lst (xs ++ ys)))
theorem mt_extendA {X : Cx} : MtM X "list.extend" (rExtendA X.K) := by
  intro pins s σ H x vs v us Q inv rx rs rd
  obtain ⟨l, b, xs, ys, rfl, rfl, hl, hb, few, q⟩ := rd
  have few2 : xs.length + ys.length ≤ sizeLine := Nat.le_trans few (by decide)
  rcases hb with hb | hb
  · exact mt_extend pins s σ H _ _ v us Q inv rx rs ⟨l, b, xs, ys, rfl, rfl, hl, hb, few2, q⟩
  · cases rx
    obtain ⟨u, rfl, ru⟩ := rs.one
    cases ru
    obtain ⟨_, its, n, r, e0, e⟩ := inv.lstM hl
    obtain ⟨_, its2, r2, o, e2, c2, m, d2⟩ := (show ObjOk X.prog X.w H s.heap b (.tup ys) from inv.hok b _ hb)
    obtain ⟨oc, od, dt, sl⟩ := o
    simp only at c2 d2
    subst c2 d2
    have l2 := r2.length
    have sz : its.toArray.size + its2.toArray.size ≤ sizeLine := by rw [List.size_toArray, List.size_toArray]; omega
    have lng : ¬ (!its.toArray.isEmpty && Builtin.List.listTooLong (its.toArray.size + its2.toArray.size)) = true := by
      rw [notLongL sz, Bool.and_false]
      exact Bool.false_ne_true
    refine call_meets F.slot_list_extend ⟨_, e, rfl⟩ F.entry_list_extend (F.args_list_extend_2 _ _) (meets_ext l b its.toArray its2.toArray n m od sl lng (by rw [List.size_toArray]; omega) (by omega)) ⟨e, e2, ?_⟩
    refine ⟨.non, _, inv.lset (its' := its ++ its2) hl e (by simp) (r.append r2) ?_, rfl, q⟩
    rw [List.length_append]
    omega
end Fw

set_option Elab.async false
set_option linter.all false
set_option maxRecDepth 100000
set_option maxHeartbeats 4000000
namespace Fw
open PySem L2 RZ RT
theorem Dk.upd {c D q : Addr} {ns : List Int} {t : Nat} {H : Hp} {o : HO} (d : Dk c D ns t H) (h1 : q ≠ c) (h2 : q ≠ D) : Dk c D ns t (L2.upd H q o) := by
  obtain ⟨a, b, e, i, n, u, h, r⟩ := d
  exact ⟨a, updN h1.symm b, e, i, n, u, updN h2.symm h, r⟩
theorem Dk.le {c D : Addr} {ns : List Int} {t t' : Nat} {H : Hp} (d : Dk c D ns t H) (h : t ≤ t') : Dk c D ns t' H := by
  obtain ⟨a, b, e, i, n, u, hh, r1, r2, r3, r4, r5⟩ := d
  exact ⟨a, b, e, i, n, u, hh, r1, r2, r3, r4, by omega⟩
theorem Dk.someD {c D : Addr} {ns : List Int} {t : Nat} {H : Hp} (d : Dk c D ns t H) : ∃ xs, H D = some (.lst xs) := by
  obtain ⟨_, _, _, _, _, _, h, _⟩ := d
  exact ⟨_, h⟩
theorem Dk.someC {c D : Addr} {ns : List Int} {t : Nat} {H : Hp} (d : Dk c D ns t H) : ∃ xs, H c = some (.lst xs) := ⟨_, d.2.1⟩
theorem Dk.neD {c D q : Addr} {ns : List Int} {t : Nat} {H : Hp} (d : Dk c D ns t H) (h : H q = none) : q ≠ D := by
  obtain ⟨xs, e⟩ := d.someD
  exact (ne_of_none e h).symm
theorem Dk.neC {c D q : Addr} {ns : List Int} {t : Nat} {H : Hp} (d : Dk c D ns t H) (h : H q = none) : q ≠ c := by
  obtain ⟨xs, e⟩ := d.someC
  exact (ne_of_none e h).symm
/-- all but the deck stands -/
def Kp (D : Addr) (H H' : Hp) : Prop := ∀ b o, H b = some o → b ≠ D → H' b = some o
theorem Kp.refl (D : Addr) (H : Hp) : Kp D H H := fun _ _ e _ => e
theorem Kp.trans {D : Addr} {H H1 H2 : Hp} (a : Kp D H H1) (b : Kp D H1 H2) : Kp D H H2 := fun x o e n => b x o (a x o e n) n
theorem Kp.fr {D : Addr} {H H' : Hp} (f : ∀ b, b ≠ D → H' b = H b) : Kp D H H' := fun b o e n => by rw [f b n]; exact e
theorem Kp.new {D q : Addr} {H : Hp} {o : HO} (n : H q = none) : Kp D H (L2.upd H q o) := fun b u e _ => updN (ne_of_none e n) e
theorem Kp.of_same {D : Addr} {H H' : Hp} (s : Same H H') : Kp D H H' := fun b o e _ => s b o e
theorem Kp.tup {D : Addr} {H H' : Hp} {c : Addr} {ns : List Int} {t : Nat} (k : Kp D H H') (d : Dk c D ns t H) (a : Addr) (xs : List V) (h : H a = some (.tup xs)) : H' a = some (.tup xs) := by
  obtain ⟨ys, e⟩ := d.someD
  exact k a _ h (ne_of h e (by intro z; cases z))
/-- what was free at first, behind what keeps -/
theorem Kp.free {D q : Addr} {H H' : Hp} (k : Kp D H H') (h : H' q = none) (n : q ≠ D) : H q = none := by
  cases e : H q with
  | none => rfl
  | some o => rw [k q o e n] at h; cases h
end Fw

set_option Elab.async false
set_option linter.all false
set_option maxRecDepth 100000
set_option maxHeartbeats 4000000
namespace Fw
open PySem L2 RZ RT
abbrev rLeS : R2 := fun x y H Q => ∃ i j, x = .str i ∧ y = .str j ∧ Q (.bl (!decide (j.cps.toList < i.cps.toList))) H
abbrev rLtS : R2 := fun x y H Q => ∃ i j, x = .str i ∧ y = .str j ∧ Q (.bl (decide (i.cps.toList < j.cps.toList))) H
def fOrd : List V → Hp → VK → Prop := fun xs H Q => ∃ x, xs = [.str x] ∧ x.length = 1 ∧ Q (.int (x.cps.getD 0 0 : Nat)) H
def fJoin (K : PySem.W.Frag) : V → List V → Hp → VK → Prop := fun x xs H Q => ∃ a p, ∃ ys : List Str, x = .str a ∧ xs = [.ref p] ∧ (SqL K H p (ys.map V.str) ∨ SqT K H p (ys.map V.str)) ∧ (ys.map (·.length)).sum + ys.length * a.length ≤ 16777216 ∧ Q (.str (Txt.join a ys)) H
theorem ixS {K : PySem.W.Frag} {H : Hp} {z : Str} {i : Int} {c : Nat} {Q : VK} (hz : z.length ≤ 1000) (ha : atI z.cps.toList i = some c) (q : Q (.str ⟨#[c]⟩) H) : rIx K (.str z) (.int i) H Q := .inr (.inr ⟨z, i, c, rfl, rfl, Nat.le_trans hz (by decide), ha, q⟩)
theorem lenS {K : PySem.W.Frag} {H : Hp} {z : Str} {Q : VK} {σ : L2.St} (hz : z.length ≤ 1000) (q : Q (.int z.length) H) : tNil σ H fun ys H2 => fLen K (.str z :: ys) H2 Q := ⟨_, _, rfl, ⟨Nat.le_trans hz (by decide), rfl⟩, q⟩
theorem Same.upd {H : Hp} {p : Addr} {o : HO} (n : H p = none) : Same H (upd H p o) := fun b u e => updN (ne_of_none e n) e
theorem Same.updI {H H' : Hp} {p : Addr} {o : HO} (s : Same H H') (n : H p = none) : Same H (L2.upd H' p o) := fun b u e => updN (ne_of_none e n) (s b u e)
/-- a comprehension whose elements may make new things, nothing else -/
theorem lc_grow {J : It} {n : Nat} {G : Hp → Prop} {Y : Nat → Hp → V → Hp → Prop} (w : Walk J n G Y) (hY : ∀ i H x H', Y i H x H' → H' = H) {k : Nat} {te : TE} {vs : List Nat} {σ : L2.St} {H1 : Hp} {D : Addr} {Qd : Hp → Prop} {ys : List V}
    (hD : H1 D = none) (hl : ys.length = n) (hz : n ≤ 100000) (hG : ∀ H', Same H1 H' → G H')
    (hs : ∀ (i : Nat) (x y : V) (H' : Hp) (R : VK), i < n → Y i H' x H' → ys[i]? = some y → Same H1 H' → (∀ H'', Same H' H'' → R y H'') → wipe ((wipe σ vs).set k (some x)) vs = wipe σ vs ∧ te ((wipe σ vs).set k (some x)) H' R)
    (hd : ∀ H', Same H1 H' → H' D = some (.lst ys) → Qd H') :
    ∃ W : Nat → Nat → Hp → Prop, (∃ m, W 0 m (L2.upd H1 D (.lst []))) ∧ ∀ i m H, W i m H →
      (J.stop i H ∧ Qd H) ∨ (J.go i H ∧ ∃ Nx : Hp → Prop, (∀ H', Nx H' → ∃ m', m' < m ∧ W (i + 1) m' H') ∧ ∀ x H', J.yld i H x H' → gName k x (wipe σ vs) H' fun σ2 H2 => wipe σ2 vs = wipe σ vs ∧ tYes σ2 H2 fun b H3 =>
        if b = true then te σ2 H3 fun y H4 => ∃ acc, H4 D = some (.lst acc) ∧ acc.length < sizeLine ∧ Nx (L2.upd H4 D (.lst (acc ++ [y]))) else Nx H3) := by
  refine lc_it w (fun i H => Same H1 H ∧ H D = some (.lst (ys.take i))) ⟨Same.upd hD, updS⟩ (fun i H _ p => hG H p.1) (fun i x H H' hi p hy => ?_) (fun H p => hd H p.1 (by rw [p.2, List.take_of_length_le (by omega)]))
  have e := hY i H x H' hy
  subst e
  have hi2 : i < ys.length := by omega
  obtain ⟨q1, q2⟩ := hs i x ys[i] H' (fun y H4 => ∃ acc, H4 D = some (.lst acc) ∧ acc.length < sizeLine ∧ (Same H1 (L2.upd H4 D (.lst (acc ++ [y]))) ∧ L2.upd H4 D (.lst (acc ++ [y])) D = some (.lst (ys.take (i + 1))))) hi hy (List.getElem?_eq_getElem hi2) p.1 (fun H'' s => ⟨_, s _ _ p.2, Nat.lt_of_le_of_lt (by rw [List.length_take]; omega : (ys.take i).length ≤ 100000) (by decide), Same.updI (Same.trans p.1 s) hD, by rw [updS, List.take_add_one, List.getElem?_eq_getElem hi2]; rfl⟩)
  exact ⟨q1, q2⟩
/-- the same where each element draws: what it gives keeps P -/
theorem lc_deck {J : It} {n : Nat} {Y : Nat → Hp → V → Hp → Prop} (w : Walk J n (fun _ => True) Y) (hY : ∀ i H x H', Y i H x H' → H' = H) {α : Type} (f : α → V) (P : α → Prop) (st : Nat) {k : Nat} {te : TE} {vs : List Nat} {σ : L2.St} {H1 : Hp} {L : Addr} {Qd : Hp → Prop} {c D : Addr} {ns : List Int} {t : Nat}
    (hL : H1 L = none) (dk : Dk c D ns t H1) (hz : n ≤ 100000)
    (hs : ∀ (i : Nat) (x : V) (H' : Hp) (R : VK), i < n → Kp D H1 H' → Dk c D ns (t + st * i) H' → (∀ y H'', P y → Kp D H' H'' → Dk c D ns (t + st * i + st) H'' → R (f y) H'') → wipe ((wipe σ vs).set k (some x)) vs = wipe σ vs ∧ te ((wipe σ vs).set k (some x)) H' R)
    (hd : ∀ (ys : List α) (H' : Hp), ys.length = n → (∀ y ∈ ys, P y) → Kp D H1 H' → Dk c D ns (t + st * n) H' → H' L = some (.lst (ys.map f)) → Qd H') :
    ∃ W : Nat → Nat → Hp → Prop, (∃ m, W 0 m (L2.upd H1 L (.lst []))) ∧ ∀ i m H, W i m H →
      (J.stop i H ∧ Qd H) ∨ (J.go i H ∧ ∃ Nx : Hp → Prop, (∀ H', Nx H' → ∃ m', m' < m ∧ W (i + 1) m' H') ∧ ∀ x H', J.yld i H x H' → gName k x (wipe σ vs) H' fun σ2 H2 => wipe σ2 vs = wipe σ vs ∧ tYes σ2 H2 fun b H3 =>
        if b = true then te σ2 H3 fun y H4 => ∃ acc, H4 L = some (.lst acc) ∧ acc.length < sizeLine ∧ Nx (L2.upd H4 L (.lst (acc ++ [y]))) else Nx H3) := by
  have nLD : L ≠ D := dk.neD hL
  have nLC : L ≠ c := dk.neC hL
  refine lc_it w (fun i H => ∃ ys : List α, ys.length = i ∧ (∀ y ∈ ys, P y) ∧ Kp D H1 H ∧ Dk c D ns (t + st * i) H ∧ H L = some (.lst (ys.map f))) ⟨[], rfl, (fun _ h => by cases h), .new hL, dk.upd nLC nLD, updS⟩ (fun _ _ _ _ => True.intro) ?_ ?_
  · rintro i x H H' hi ⟨ys, hl, hp, kp, dk2, hLs⟩ hy
    have e := hY i H x H' hy
    subst e
    obtain ⟨q1, q2⟩ := hs i x H' (fun y H4 => ∃ acc, H4 L = some (.lst acc) ∧ acc.length < sizeLine ∧ ∃ ys : List α, ys.length = i + 1 ∧ (∀ y ∈ ys, P y) ∧ Kp D H1 (L2.upd H4 L (.lst (acc ++ [y]))) ∧ Dk c D ns (t + st * (i + 1)) (L2.upd H4 L (.lst (acc ++ [y]))) ∧ L2.upd H4 L (.lst (acc ++ [y])) L = some (.lst (ys.map f))) hi kp dk2 (fun y H'' py k2 d2 => by
      refine ⟨_, k2 _ _ hLs nLD, Nat.lt_of_le_of_lt (by rw [List.length_map]; omega : (ys.map f).length ≤ 100000) (by decide), ys ++ [y], by rw [List.length_append, hl]; rfl, fun z hz2 => ?_, fun b o e n => updN (ne_of_none e hL) ((kp.trans k2) b o e n), ?_, by rw [updS, List.map_append]; rfl⟩
      · rcases List.mem_append.mp hz2 with h | h
        · exact hp z h
        · cases List.mem_singleton.mp h
          exact py
      · have e2 : t + st * (i + 1) = t + st * i + st := by rw [Nat.mul_add, Nat.mul_one, Nat.add_assoc]
        rw [e2]
        exact d2.upd nLC nLD)
    exact ⟨q1, q2⟩
  · rintro H ⟨ys, hl, hp, kp, dk2, hLs⟩
    exact hd ys H hl hp kp dk2 hLs
/-! ### the same data, where looking makes new things -/
theorem SameV.mono {H H' : Hp} (s : Same H H') : ∀ {n : Nat} {x y : V}, SameV H n x y → SameV H' n x y
  | 0, _, _, h => h
  | n + 1, x, y, h => by
    rcases h with h | ⟨p, q, xs, ys, rfl, rfl, h, hl, hz, hs⟩
    · exact .inl h
    · refine .inr ⟨p, q, xs, ys, rfl, rfl, h.imp (fun h => ⟨s _ _ h.1, s _ _ h.2⟩) (fun h => ⟨s _ _ h.1, s _ _ h.2⟩), hl, hz, fun i a b h1 h2 => (hs i a b h1 h2).mono s⟩
theorem SameV.strs {H : Hp} {n : Nat} {zs : List Str} : ∀ (i : Nat) (a b : V), (zs.map V.str)[i]? = some a → (zs.map V.str)[i]? = some b → SameV H (n + 1) a b := fun i a b h1 h2 => by
  have e : a = b := Option.some.inj (h1.symm.trans h2)
  rw [List.getElem?_map] at h1
  cases q : zs[i]? with
  | none => rw [q] at h1; cases h1
  | some z => rw [q] at h1; exact Or.inl ⟨e, .inr (.inr (.inr ⟨z, (Option.some.inj h1).symm⟩))⟩
def sp_same2N (_ : PySem.W.Frag) (n : Nat) : Sp := fun vs H Q _ => ∃ x y, vs = [x, y] ∧ SameV H n x y ∧ ∀ H', Same H H' → Q (.bl true) H'
abbrev sp_l_same2 (K : PySem.W.Frag) : Sp := sp_same2N K 6
theorem len_same2N {K : PySem.W.Frag} {vs : List V} {H : Hp} {Q : VK} {E : XK} {n : Nat} (h : sp_same2N K n vs H Q E) : vs.length = 2 := by
  obtain ⟨_, _, rfl, _⟩ := h
  rfl
def t_l_same2_loop (K : PySem.W.Frag) (n : Nat) : TS := (tSeq (tIfS (tTest (tOp rNe (tCB (fLen K) (tCons (tVar 0) tNil)) (tCB (fLen K) (tCons (tVar 1) tNil)))) (tRet (tC (.bl false))) tNext)
    (tSeq (tFor (iRng1 (tCons (tCB (fLen K) (tCons (tVar 1) tNil)) tNil)) (gName 2) (tIfS (tNot (tB (tCall (sp_same2N K n) [] E0 (tCons (tOp (rIx K) (tVar 0) (tVar 2)) (tCons (tOp (rIx K) (tVar 1) (tVar 2)) tNil))))) (tRet (tC (.bl false))) tNext))
    (tRet (tC (.bl true)))))
def t_l_same2_tail (K : PySem.W.Frag) (n : Nat) : TS := (tSeq (tIfS (tB (tCB (rIsi K) (tCons (tVar 1) (tCons (tC (.ty "dict")) tNil)))) tNever tNext)
    (tSeq (tIfS (tB (tCB (rIsi K) (tCons (tVar 1) (tCons (tC (.ty "bool")) tNil)))) (tRet (tAndV (tCB (rIsi K) (tCons (tVar 0) (tCons (tC (.ty "bool")) tNil))) (tOp rEq (tVar 0) (tVar 1)))) tNext)
    (tSeq (tIfS (tB (tCB (rIsi K) (tCons (tVar 1) (tCons (tC (.ty "int")) tNil)))) (tRet (tAndV (tCall (sp_l_int K) [] E0 (tCons (tVar 0) tNil)) (tOp rEq (tVar 0) (tVar 1)))) tNext)
    (tSeq (tIfS (tB (tCB (rIsi K) (tCons (tVar 1) (tCons (tC (.ty "str")) tNil)))) (tRet (tAndV (tCB (rIsi K) (tCons (tVar 0) (tCons (tC (.ty "str")) tNil))) (tOp rEq (tVar 0) (tVar 1)))) tNext)
    (tRet (tAndV (tOp fIsN (tVar 1) (tC .non)) (tOp fIsN (tVar 0) (tC .non))))))))
def t_l_same2 (K : PySem.W.Frag) (n : Nat) : TS := (tSeq (tIfS (tB (tCB (rIsiT K) (tCons (tVar 1) (tCons (tTup (tCons (tC (.ty "tuple")) (tCons (tC (.ty "list")) tNil))) tNil)))) (tSeq (tIfS (tOr (tTest (tOp rNe (tCB (rIsi K) (tCons (tVar 1) (tCons (tC (.ty "tuple")) tNil))) (tCB (rIsi K) (tCons (tVar 0) (tCons (tC (.ty "tuple")) tNil))))) (tTest (tOp rNe (tCB (rIsi K) (tCons (tVar 1) (tCons (tC (.ty "list")) tNil))) (tCB (rIsi K) (tCons (tVar 0) (tCons (tC (.ty "list")) tNil)))))) (tRet (tC (.bl false))) tNext)
    (t_l_same2_loop K n)) tNext)
    (t_l_same2_tail K n))
section
variable {K : PySem.W.Frag} {H : Hp} {x : V} {Q : VK} {σ : L2.St} {t : String} {b : Bool}
/-- isinstance(x, (tuple, list)) -/
theorem isi2 (ty : ∀ H', Same H H' → TyX K H' x (.type t)) {b1 b2 : Bool} (k1 : kitB t "tuple" = some b1) (k2 : kitB t "list" = some b2) (q : ∀ T, H T = none → Q (.bl (b1 || b2)) (upd H T (.tup [.ty "tuple", .ty "list"]))) :
    tCons (tTup (tCons (tC (.ty "tuple")) (tCons (tC (.ty "list")) tNil))) tNil σ H fun ys H2 => rIsiT K (x :: ys) H2 Q := by
  refine ⟨by show (2 : Nat) ≤ sizeLine; decide, fun T nT => ⟨x, T, _, _, [.type "tuple", .type "list"], (b1 || b2), rfl, updS, .cons (.ty _) (.cons (.ty _) .nil), ty _ (Same.upd nT), ?_, q T nT⟩⟩
  refine kitAny_cons (kit_ty k1) (fun e => ?_) (fun e => by rw [e]; rfl)
  subst e
  exact kitAny_cons (kit_ty k2) (fun e => by subst e; exact kitAny_nil) (fun e => by rw [e]; rfl)
end
theorem k_id : kitB "int" "dict" = some false := by decide +kernel
theorem k_bd : kitB "bool" "dict" = some false := by decide +kernel
theorem k_sd : kitB "str" "dict" = some false := by decide +kernel
theorem k_nd : kitB "NoneType" "dict" = some false := by decide +kernel
theorem pure_l_same2 {K : PySem.W.Frag} {n : Nat} {vs : List V} {H : Hp} {Q : VK} {E : XK} (h : sp_same2N K (n + 1) vs H Q E) : t_l_same2 K n { nx := fun _ H' => Q .non H', rt := Q } (start N_l_same vs) H := by
  obtain ⟨x, y, rfl, h, k⟩ := h
  rcases h with ⟨rfl, h⟩ | ⟨p, q, xs, ys, rfl, rfl, h, hl, hz, hs⟩
  · rcases h with rfl | ⟨i, rfl⟩ | ⟨b, rfl⟩ | ⟨z, rfl⟩
    · refine ⟨_, rfl, isi2 (fun _ _ => .base .non) k_nt k_nl fun T nT => ⟨_, rfl, iteF ?_⟩⟩
      refine ⟨_, rfl, isi (.base .non) k_nd ⟨_, rfl, iteF ?_⟩⟩
      refine ⟨_, rfl, isi (.base .non) k_nb ⟨_, rfl, iteF ?_⟩⟩
      refine ⟨_, rfl, isi (.base .non) k_ni ⟨_, rfl, iteF ?_⟩⟩
      refine ⟨_, rfl, isi (.base .non) k_ns ⟨_, rfl, iteF ?_⟩⟩
      exact ⟨_, rfl, rfl, _, rfl, iteT ⟨_, rfl, rfl, k _ (Same.upd nT)⟩⟩
    · refine ⟨_, rfl, isi2 (fun _ _ => .base (.int i)) k_it k_il fun T nT => ⟨_, rfl, iteF ?_⟩⟩
      refine ⟨_, rfl, isi (.base (.int i)) k_id ⟨_, rfl, iteF ?_⟩⟩
      refine ⟨_, rfl, isi (.base (.int i)) k_ib ⟨_, rfl, iteF ?_⟩⟩
      refine ⟨_, rfl, isi (.base (.int i)) k_ii ⟨_, rfl, iteT ?_⟩⟩
      refine ⟨_, rfl, i, rfl, _, rfl, iteT ⟨_, rfl, _, rfl, rfl, ?_⟩⟩
      rw [decide_eq_true rfl]
      exact k _ (Same.upd nT)
    · refine ⟨_, rfl, isi2 (fun _ _ => .base (.bl b)) k_bt k_bl fun T nT => ⟨_, rfl, iteF ?_⟩⟩
      refine ⟨_, rfl, isi (.base (.bl b)) k_bd ⟨_, rfl, iteF ?_⟩⟩
      refine ⟨_, rfl, isi (.base (.bl b)) k_bb ⟨_, rfl, iteT ?_⟩⟩
      refine ⟨_, rfl, isi (.base (.bl b)) k_bb ⟨_, rfl, iteT ⟨_, rfl, _, rfl, rfl, ?_⟩⟩⟩
      rw [decide_eq_true rfl]
      exact k _ (Same.upd nT)
    · refine ⟨_, rfl, isi2 (fun _ _ => .base (.str z)) k_st k_sl fun T nT => ⟨_, rfl, iteF ?_⟩⟩
      refine ⟨_, rfl, isi (.base (.str z)) k_sd ⟨_, rfl, iteF ?_⟩⟩
      refine ⟨_, rfl, isi (.base (.str z)) k_sb ⟨_, rfl, iteF ?_⟩⟩
      refine ⟨_, rfl, isi (.base (.str z)) k_si ⟨_, rfl, iteF ?_⟩⟩
      refine ⟨_, rfl, isi (.base (.str z)) k_ss ⟨_, rfl, iteT ?_⟩⟩
      refine ⟨_, rfl, isi (.base (.str z)) k_ss ⟨_, rfl, iteT ⟨_, rfl, _, rfl, rfl, ?_⟩⟩⟩
      rw [decide_eq_true rfl]
      exact k _ (Same.upd nT)
  · have loop : ∀ H0 : Hp, Same H H0 → (∃ o, (H p = some o ∧ (o = .lst xs ∨ o = .tup xs))) → (∃ o, (H q = some o ∧ (o = .lst ys ∨ o = .tup ys))) → ∀ z2 : Option V,
        t_l_same2_loop K n { nx := t_l_same2_tail K n { nx := fun _ H' => Q .non H', rt := Q }, rt := Q } [some (.ref p), some (.ref q), z2] H0 := by
      intro H0 s0 hp hq z2
      have hlen : ∀ {r : Addr} {zs : List V} {R : VK} {σ : L2.St} {H1 : Hp}, (∃ o, (H r = some o ∧ (o = .lst zs ∨ o = .tup zs))) → Same H H1 → R (.int zs.length) H1 → tNil σ H1 fun ws H2 => fLen K (.ref r :: ws) H2 R := by
        rintro r zs R σ H1 ⟨o, h1, rfl | rfl⟩ s h2
        · exact lenL (s _ _ h1) h2
        · exact lenT (s _ _ h1) h2
      have hix : ∀ {r : Addr} {zs : List V} {R : VK} {i : Int} {v : V} {H1 : Hp}, (∃ o, (H r = some o ∧ (o = .lst zs ∨ o = .tup zs))) → Same H H1 → atI zs i = some v → R v H1 → rIx K (.ref r) (.int i) H1 R := by
        rintro r zs R i v H1 ⟨o, h1, rfl | rfl⟩ s h2 h3
        · exact ixL (s _ _ h1) h2 h3
        · exact ixT (s _ _ h1) h2 h3
      refine ⟨_, rfl, hlen hp s0 ⟨_, rfl, hlen hq s0 ⟨rfl, _, rfl, ?_⟩⟩⟩
      rw [decide_eq_true (show V.int (xs.length : Int) = V.int (ys.length : Int) by rw [hl])]
      refine iteF ?_
      refine ⟨_, rfl, hlen hq s0 ⟨_, rfl, (len_le (by omega)).1, (len_le (by omega)).2, for_range (lo := 0) (n := ((ys.length : Int)).toNat) (fun i σ H' => Same H H' ∧ ∃ z, σ = [some (.ref p), some (.ref q), z]) ⟨s0, _, rfl⟩ ?_ ?_⟩⟩
      · rintro i σ H' hi ⟨s1, z, rfl⟩
        have hi1 : i < ys.length := by omega
        have hi2 : i < xs.length := by omega
        have e1 : atI xs (0 + (i : Int)) = some xs[i] := by rw [Int.zero_add]; exact atI_nat (List.getElem?_eq_getElem hi2)
        have e2 : atI ys (0 + (i : Int)) = some ys[i] := by rw [Int.zero_add]; exact atI_nat (List.getElem?_eq_getElem hi1)
        refine ⟨_, rfl, _, rfl, hix hp s1 e1 ⟨_, rfl, _, rfl, hix hq s1 e2 ⟨_, _, rfl, (hs i _ _ (List.getElem?_eq_getElem hi2) (List.getElem?_eq_getElem hi1)).mono s1, fun H2 s2 => ⟨_, rfl, iteF ?_⟩⟩⟩⟩
        exact ⟨s1.trans s2, _, rfl⟩
      · rintro σ H' ⟨s1, z, rfl⟩
        exact k _ s1
    rcases h with ⟨h1, h2⟩ | ⟨h1, h2⟩
    · have t1 : ∀ H', Same H H' → TyX K H' (.ref p) (.type "list") := fun H' s => .base (.lst (s _ _ h1))
      have t2 : ∀ H', Same H H' → TyX K H' (.ref q) (.type "list") := fun H' s => .base (.lst (s _ _ h2))
      refine ⟨_, rfl, isi2 t2 k_lt k_ll fun T nT => ⟨_, rfl, iteT ?_⟩⟩
      have s0 : Same H (upd H T (.tup [.ty "tuple", .ty "list"])) := Same.upd nT
      refine ⟨_, rfl, isi (t2 _ s0) k_lt ⟨_, rfl, isi (t1 _ s0) k_lt ⟨rfl, _, rfl, iteF ⟨_, rfl, isi (t2 _ s0) k_ll ⟨_, rfl, isi (t1 _ s0) k_ll ⟨rfl, _, rfl, iteF ?_⟩⟩⟩⟩⟩⟩
      exact loop _ s0 ⟨_, h1, .inl rfl⟩ ⟨_, h2, .inl rfl⟩ _
    · have t1 : ∀ H', Same H H' → TyX K H' (.ref p) (.type "tuple") := fun H' s => .base (.tup (s _ _ h1))
      have t2 : ∀ H', Same H H' → TyX K H' (.ref q) (.type "tuple") := fun H' s => .base (.tup (s _ _ h2))
      refine ⟨_, rfl, isi2 t2 k_tt k_tl fun T nT => ⟨_, rfl, iteT ?_⟩⟩
      have s0 : Same H (upd H T (.tup [.ty "tuple", .ty "list"])) := Same.upd nT
      refine ⟨_, rfl, isi (t2 _ s0) k_tt ⟨_, rfl, isi (t1 _ s0) k_tt ⟨rfl, _, rfl, iteF ⟨_, rfl, isi (t2 _ s0) k_tl ⟨_, rfl, isi (t1 _ s0) k_tl ⟨rfl, _, rfl, iteF ?_⟩⟩⟩⟩⟩⟩
      exact loop _ s0 ⟨_, h1, .inr rfl⟩ ⟨_, h2, .inr rfl⟩ _
end Fw

set_option Elab.async false
set_option linter.all false
set_option maxRecDepth 100000
set_option maxHeartbeats 4000000
namespace Fw
open PySem L2 RZ RT
/-! ### rows, pieces, scripts -/
def OkC (c : Nat) : Prop := 32 ≤ c ∧ c ≤ 126 ∧ c ≠ 37
def OkS (z : Str) : Prop := z.cps.size ≤ 40 ∧ ∀ c ∈ z.cps.toList, OkC c
inductive Pc where
  | take (b m : Nat)
  | put (rs : List Str)
def Pc.n : Pc → Nat
  | .take _ m => m
  | .put rs => rs.length
def Pc.ok : Pc → Prop
  | .take _ m => 1 ≤ m
  | .put rs => rs ≠ [] ∧ ∀ z ∈ rs, OkS z
def Pc.fits (L : Nat) : Pc → Prop
  | .take b m => b + m ≤ L
  | .put _ => True
def Pc.mk (bs : List Str) : Pc → List Str
  | .take b m => (bs.drop b).take m
  | .put rs => rs
def Pc.cost (t p : Int) : Pc → Int
  | .take _ _ => t
  | .put rs => p * (rs.length : Int)
def total (ps : List Pc) : Nat := (ps.map Pc.n).sum
def makes (bs : List Str) (ps : List Pc) : List Str := (ps.map (Pc.mk bs)).flatten
def cost (t p : Int) (ps : List Pc) : Int := (ps.map (Pc.cost t p)).sum
structure ScOk (ps : List Pc) : Prop where
  ok : ∀ p ∈ ps, p.ok
  few : total ps ≤ 40
theorem Pc.one {p : Pc} (h : p.ok) : 1 ≤ p.n := by
  cases p with
  | take b m => exact h
  | put rs => exact List.length_pos_iff.mpr h.1
theorem len_le_total : ∀ {ps : List Pc}, (∀ p ∈ ps, p.ok) → ps.length ≤ total ps
  | [], _ => Nat.le_refl _
  | p :: ps, h => by
    have a := len_le_total (ps := ps) fun q hq => h q (List.mem_cons_of_mem _ hq)
    have b := Pc.one (h p (List.mem_cons_self ..))
    show ps.length + 1 ≤ p.n + (ps.map Pc.n).sum
    have e : total ps = (ps.map Pc.n).sum := rfl
    omega
theorem ScOk.len {ps : List Pc} (h : ScOk ps) : ps.length ≤ 40 := Nat.le_trans (len_le_total h.ok) h.few
theorem n_le_total : ∀ {ps : List Pc} {p : Pc}, p ∈ ps → p.n ≤ total ps
  | q :: ps, p, h => by
    have e : total (q :: ps) = q.n + total ps := rfl
    rcases List.mem_cons.mp h with h | h
    · rw [h, e]; omega
    · have := n_le_total h
      omega
theorem mk_len {bs : List Str} {p : Pc} (h : p.fits bs.length) : (p.mk bs).length = p.n := by
  cases p with
  | take b m =>
    show ((bs.drop b).take m).length = m
    have h : b + m ≤ bs.length := h
    rw [List.length_take, List.length_drop]
    omega
  | put rs => rfl
theorem makes_len {bs : List Str} : ∀ {ps : List Pc}, (∀ p ∈ ps, p.fits bs.length) → (makes bs ps).length = total ps
  | [], _ => rfl
  | p :: ps, h => by
    show (p.mk bs ++ makes bs ps).length = p.n + total ps
    rw [List.length_append, mk_len (h p (List.mem_cons_self ..)), makes_len fun q hq => h q (List.mem_cons_of_mem _ hq)]
/-! ### as they stand in the heap -/
def TM (H H' : Hp) : Prop := ∀ (a : Addr) (xs : List V), H a = some (.tup xs) → H' a = some (.tup xs)
theorem TM.of {H H' : Hp} (s : Same H H') : TM H H' := fun a xs h => s _ _ h
theorem TM.trans {H H1 H2 : Hp} (a : TM H H1) (b : TM H1 H2) : TM H H2 := fun x xs h => b _ _ (a _ _ h)
theorem Kp.tm {D : Addr} {H H' : Hp} {c : Addr} {ns : List Int} {t : Nat} (k : Kp D H H') (d : Dk c D ns t H) : TM H H' := fun a xs h => k.tup d a xs h
def RwAt (H : Hp) (a : Addr) (rs : List Str) : Prop := H a = some (.tup (rs.map V.str))
def PcAt (H : Hp) (a : Addr) : Pc → Prop
  | .take b m => H a = some (.tup [.str "take", .int (b : Int), .int (m : Int)])
  | .put rs => ∃ r, H a = some (.tup [.str "put", .ref r]) ∧ RwAt H r rs
theorem PcAt.mono {H H' : Hp} {a : Addr} {p : Pc} (h : PcAt H a p) (s : TM H H') : PcAt H' a p := by
  cases p with
  | take b m => exact s _ _ h
  | put rs =>
    obtain ⟨r, h1, h2⟩ := h
    exact ⟨r, s _ _ h1, s _ _ h2⟩
/-- the pieces at these addresses -/
def PsAt (H : Hp) (as : List Addr) (ps : List Pc) : Prop := as.length = ps.length ∧ ∀ (i : Nat) (a : Addr) (p : Pc), as[i]? = some a → ps[i]? = some p → PcAt H a p
theorem PsAt.mono {H H' : Hp} {as : List Addr} {ps : List Pc} (h : PsAt H as ps) (s : TM H H') : PsAt H' as ps := ⟨h.1, fun i a p h1 h2 => (h.2 i a p h1 h2).mono s⟩
theorem PsAt.nil {H : Hp} : PsAt H [] [] := ⟨rfl, fun i a p h => by cases h⟩
theorem PsAt.snoc {H : Hp} {as : List Addr} {ps : List Pc} {T : Addr} {p : Pc} (h : PsAt H as ps) (hT : PcAt H T p) : PsAt H (as ++ [T]) (ps ++ [p]) := by
  refine ⟨by rw [List.length_append, List.length_append, h.1]; rfl, fun i a m h1 h2 => ?_⟩
  by_cases hi : i < as.length
  · rw [List.getElem?_append_left hi] at h1
    rw [List.getElem?_append_left (by rw [← h.1]; exact hi)] at h2
    exact h.2 i a m h1 h2
  · have hi2 : i < (as ++ [T]).length := (List.getElem?_eq_some_iff.mp h1).1
    rw [List.length_append, List.length_singleton] at hi2
    have e : i = as.length := by omega
    rw [List.getElem?_append_right (by omega), e, Nat.sub_self] at h1
    rw [List.getElem?_append_right (by rw [← h.1]; omega), e, h.1, Nat.sub_self] at h2
    cases Option.some.inj h1
    cases Option.some.inj h2
    exact hT
def ScAt (H : Hp) (s : Addr) (ps : List Pc) : Prop := ∃ as : List Addr, H s = some (.tup (as.map V.ref)) ∧ PsAt H as ps
theorem ScAt.mono {H H' : Hp} {s : Addr} {ps : List Pc} (h : ScAt H s ps) (m : TM H H') : ScAt H' s ps := by
  obtain ⟨as, h1, h2⟩ := h
  exact ⟨as, m _ _ h1, h2.mono m⟩
/-- the i-th value of a script's tuple -/
theorem sc_get {as : List Addr} {ps : List Pc} {H : Hp} {i : Nat} {x : V} (h : PsAt H as ps) (hx : (as.map V.ref)[i]? = some x) : ∃ a p, x = .ref a ∧ as[i]? = some a ∧ ps[i]? = some p ∧ PcAt H a p := by
  rw [List.getElem?_map] at hx
  cases q : as[i]? with
  | none => rw [q] at hx; cases hx
  | some a =>
    rw [q] at hx
    have hi : i < ps.length := by rw [← h.1]; exact (List.getElem?_eq_some_iff.mp q).1
    exact ⟨a, ps[i], (Option.some.inj hx).symm, rfl, List.getElem?_eq_getElem hi, h.2 i a _ q (List.getElem?_eq_getElem hi)⟩
theorem put_take : decide (V.str "put" = V.str "take") = false := decide_eq_false (by intro h; injection h with h; exact absurd h (by decide +kernel))
theorem take_put : decide (V.str "take" = V.str "put") = false := decide_eq_false (by intro h; injection h with h; exact absurd h (by decide +kernel))
/-- the word of a piece, its other parts -/
theorem PcAt.word {K : PySem.W.Frag} {H : Hp} {a : Addr} {p : Pc} {Q : VK} (h : PcAt H a p) (ht : ∀ b m, p = .take b m → Q (.str "take") H) (hp : ∀ rs, p = .put rs → Q (.str "put") H) : rIx K (.ref a) (.int 0) H Q := by
  cases p with
  | take b m => exact ixT h rfl (ht b m rfl)
  | put rs => obtain ⟨r, h1, h2⟩ := h; exact ixT h1 rfl (hp rs rfl)
/-! ### forms of texts -/
def sp_is_sign (_ : PySem.W.Frag) : Sp := fun vs H Q _ => ∃ c : Nat, vs = [.str ⟨#[c]⟩] ∧ OkC c ∧ Q (.bl true) H
def sp_is_text (_ : PySem.W.Frag) : Sp := fun vs H Q _ => ∃ z : Str, vs = [.str z] ∧ OkS z ∧ ∀ H', Same H H' → Q (.bl true) H'
def sp_is_row (_ : PySem.W.Frag) : Sp := fun vs H Q _ => ∃ z : Str, vs = [.str z] ∧ OkS z ∧ ∀ H', Same H H' → Q (.bl true) H'
def sp_is_intI (_ : PySem.W.Frag) : Sp := fun vs H Q _ => ∃ i : Int, vs = [.int i] ∧ Q (.bl true) H
def sp_is_pairT (_ : PySem.W.Frag) : Sp := fun vs H Q _ => ∃ (a : Addr) (x y : V), vs = [.ref a] ∧ H a = some (.tup [x, y]) ∧ Q (.bl true) H
def sp_are_put (_ : PySem.W.Frag) : Sp := fun vs H Q _ => ∃ (a : Addr) (rs : List Str), vs = [.ref a] ∧ RwAt H a rs ∧ rs ≠ [] ∧ rs.length ≤ 1000 ∧ (∀ z ∈ rs, OkS z) ∧ ∀ H', Same H H' → Q (.bl true) H'
def sp_rows_in (_ : PySem.W.Frag) : Sp := fun vs H Q _ => ∃ (a : Addr) (p : Pc), vs = [.ref a] ∧ PcAt H a p ∧ Q (.int (p.n : Int)) H
def sp_is_piece (_ : PySem.W.Frag) : Sp := fun vs H Q _ => ∃ (a : Addr) (p : Pc), vs = [.ref a] ∧ PcAt H a p ∧ p.ok ∧ p.n ≤ 1000 ∧ ∀ H', Same H H' → Q (.bl true) H'
def sp_is_script (_ : PySem.W.Frag) : Sp := fun vs H Q _ => ∃ (a : Addr) (ps : List Pc), vs = [.ref a] ∧ ScAt H a ps ∧ ScOk ps ∧ ∀ H', Same H H' → Q (.bl true) H'
def sp_is_right_over (_ : PySem.W.Frag) : Sp := fun vs H Q _ => ∃ (B a : Addr) (bs : List Str) (ps : List Pc), vs = [.ref B, .ref a] ∧ RwAt H B bs ∧ ScAt H a ps ∧ ScOk ps ∧ (∀ p ∈ ps, p.fits bs.length) ∧ ∀ H', Same H H' → Q (.bl true) H'
def sp_refuse_wrong (_ : PySem.W.Frag) : Sp := fun vs H Q _ => ∃ (B a : Addr) (bs : List Str) (ps : List Pc), vs = [.ref B, .ref a] ∧ RwAt H B bs ∧ ScAt H a ps ∧ ScOk ps ∧ (∀ p ∈ ps, p.fits bs.length) ∧ ∀ H', Same H H' → Q .non H'
def sp_made (_ : PySem.W.Frag) : Sp := fun vs H Q _ => ∃ (B a : Addr) (bs : List Str) (ps : List Pc), vs = [.ref B, .ref a] ∧ RwAt H B bs ∧ ScAt H a ps ∧ ScOk ps ∧ (∀ p ∈ ps, p.fits bs.length) ∧ ∀ (r : Addr) (H' : Hp), Same H H' → RwAt H' r (makes bs ps) → Q (.ref r) H'
abbrev sp_done (K : PySem.W.Frag) : Sp := sp_made K
abbrev sp_l_made (K : PySem.W.Frag) : Sp := sp_made K
def sp_price (_ : PySem.W.Frag) : Sp := fun vs H Q _ => ∃ (a : Addr) (ps : List Pc) (t p : Int), vs = [.ref a, .int t, .int p] ∧ ScAt H a ps ∧ ScOk ps ∧ 0 ≤ t ∧ t ≤ 10000000 ∧ 0 ≤ p ∧ p ≤ 10000000 ∧ ∀ H', Same H H' → Q (.int (cost t p ps)) H'
def sp_l_cost (_ : PySem.W.Frag) : Sp := fun vs H Q _ => ∃ (a : Addr) (ps : List Pc) (t p : Int), vs = [.ref a, .int t, .int p] ∧ ScAt H a ps ∧ ScOk ps ∧ 0 ≤ t ∧ t ≤ 10000000 ∧ 0 ≤ p ∧ p ≤ 10000000 ∧ Q (.int (cost t p ps)) H
section
variable {K : PySem.W.Frag} {vs : List V} {H : Hp} {Q : VK} {E : XK}
theorem len_is_sign (h : sp_is_sign K vs H Q E) : vs.length = 1 := by obtain ⟨_, rfl, _⟩ := h; rfl
theorem len_is_text (h : sp_is_text K vs H Q E) : vs.length = 1 := by obtain ⟨_, rfl, _⟩ := h; rfl
theorem len_is_row (h : sp_is_row K vs H Q E) : vs.length = 1 := by obtain ⟨_, rfl, _⟩ := h; rfl
theorem len_is_intI (h : sp_is_intI K vs H Q E) : vs.length = 1 := by obtain ⟨_, rfl, _⟩ := h; rfl
theorem len_is_pairT (h : sp_is_pairT K vs H Q E) : vs.length = 1 := by obtain ⟨_, _, _, rfl, _⟩ := h; rfl
theorem len_are_put (h : sp_are_put K vs H Q E) : vs.length = 1 := by obtain ⟨_, _, rfl, _⟩ := h; rfl
theorem len_rows_in (h : sp_rows_in K vs H Q E) : vs.length = 1 := by obtain ⟨_, _, rfl, _⟩ := h; rfl
theorem len_is_piece (h : sp_is_piece K vs H Q E) : vs.length = 1 := by obtain ⟨_, _, rfl, _⟩ := h; rfl
theorem len_is_script (h : sp_is_script K vs H Q E) : vs.length = 1 := by obtain ⟨_, _, rfl, _⟩ := h; rfl
theorem len_is_right_over (h : sp_is_right_over K vs H Q E) : vs.length = 2 := by obtain ⟨_, _, _, _, rfl, _⟩ := h; rfl
theorem len_refuse_wrong (h : sp_refuse_wrong K vs H Q E) : vs.length = 2 := by obtain ⟨_, _, _, _, rfl, _⟩ := h; rfl
theorem len_made (h : sp_made K vs H Q E) : vs.length = 2 := by obtain ⟨_, _, _, _, rfl, _⟩ := h; rfl
theorem len_done (h : sp_done K vs H Q E) : vs.length = 2 := len_made h
theorem len_l_made (h : sp_l_made K vs H Q E) : vs.length = 2 := len_made h
theorem len_price (h : sp_price K vs H Q E) : vs.length = 3 := by obtain ⟨_, _, _, _, rfl, _⟩ := h; rfl
theorem len_l_cost (h : sp_l_cost K vs H Q E) : vs.length = 3 := by obtain ⟨_, _, _, _, rfl, _⟩ := h; rfl
end
abbrev N_is_int : List Str := ["thing"]
def t_is_int (K : PySem.W.Frag) : TS := (tRet (tAndV (tCB (rIsi K) (tCons (tVar 0) (tCons (tC (.ty "int")) tNil))) (tNotV (tCB (rIsi K) (tCons (tVar 0) (tCons (tC (.ty "bool")) tNil))))))
abbrev N_is_text : List Str := ["thing", "sign"]
def t_is_text (K : PySem.W.Frag) : TS := (tRet (tAndV (tCB (rIsi K) (tCons (tVar 0) (tCons (tC (.ty "str")) tNil))) (tCB (rAll K) (tCons (tLc (iStr (tVar 0)) (gName 1) tYes (tCall (sp_is_sign K) [] E0 (tCons (tVar 1) tNil)) [1]) tNil))))
abbrev N_is_sign : List Str := ["sign"]
def t_is_sign (K : PySem.W.Frag) : TS := (tRet (tAndV (tChain rLeS rLeS (tC (.str " ")) (tVar 0) (tC (.str "~"))) (tOp rNe (tCB fOrd (tCons (tVar 0) tNil)) (tC (.int 37)))))
abbrev N_is_pair : List Str := ["thing"]
def t_is_pair (K : PySem.W.Frag) : TS := (tRet (tAndV (tCB (rIsi K) (tCons (tVar 0) (tCons (tC (.ty "tuple")) tNil))) (tOp rEq (tCB (fLen K) (tCons (tVar 0) tNil)) (tC (.int 2)))))
abbrev N_is_row : List Str := ["thing"]
def t_is_row (K : PySem.W.Frag) : TS := (tRet (tAndV (tCall (sp_is_text K) [] E0 (tCons (tVar 0) tNil)) (tOp rLeI (tCB (fLen K) (tCons (tVar 0) tNil)) (tC (.int 40)))))
abbrev N_is_script : List Str := ["thing", "piece"]
def t_is_script (K : PySem.W.Frag) : TS := (tSeq (tIfS (tOr (tNot (tB (tCB (rIsi K) (tCons (tVar 0) (tCons (tC (.ty "tuple")) tNil))))) (tNot (tB (tCB (rAll K) (tCons (tLc (iTup K (tVar 0)) (gName 1) tYes (tCall (sp_is_piece K) [] E0 (tCons (tVar 1) tNil)) [1]) tNil))))) (tRet (tC (.bl false))) tNext)
    (tRet (tOp rLeI (tCB (rSum K) (tCons (tLc (iTup K (tVar 0)) (gName 1) tYes (tCall (sp_rows_in K) [] E0 (tCons (tVar 1) tNil)) [1]) tNil)) (tC (.int 40)))))
abbrev N_is_piece : List Str := ["thing"]
def t_is_piece (K : PySem.W.Frag) : TS := (tSeq (tIfS (tOr (tNot (tB (tCB (rIsi K) (tCons (tVar 0) (tCons (tC (.ty "tuple")) tNil))))) (tTest (tOp rEq (tCB (fLen K) (tCons (tVar 0) tNil)) (tC (.int 0))))) (tRet (tC (.bl false))) tNext)
    (tSeq (tIfS (tTest (tOp rEq (tOp (rIx K) (tVar 0) (tC (.int 0))) (tC (.str "take")))) (tRet (tAndV (tOp rEq (tCB (fLen K) (tCons (tVar 0) tNil)) (tC (.int 3))) (tAndV (tCall (sp_is_intI K) [] E0 (tCons (tOp (rIx K) (tVar 0) (tC (.int 1))) tNil)) (tAndV (tCall (sp_is_intI K) [] E0 (tCons (tOp (rIx K) (tVar 0) (tC (.int 2))) tNil)) (tAndV (tOp rGeI (tOp (rIx K) (tVar 0) (tC (.int 1))) (tC (.int 0))) (tOp rGeI (tOp (rIx K) (tVar 0) (tC (.int 2))) (tC (.int 1)))))))) tNext)
    (tRet (tAndV (tOp rEq (tOp (rIx K) (tVar 0) (tC (.int 0))) (tC (.str "put"))) (tAndV (tCall (sp_is_pairT K) [] E0 (tCons (tVar 0) tNil)) (tCall (sp_are_put K) [] E0 (tCons (tOp (rIx K) (tVar 0) (tC (.int 1))) tNil)))))))
abbrev N_are_put : List Str := ["thing", "row"]
def t_are_put (K : PySem.W.Frag) : TS := (tRet (tAndV (tCB (rIsi K) (tCons (tVar 0) (tCons (tC (.ty "tuple")) tNil))) (tAndV (tOp rGtI (tCB (fLen K) (tCons (tVar 0) tNil)) (tC (.int 0))) (tCB (rAll K) (tCons (tLc (iTup K (tVar 0)) (gName 1) tYes (tCall (sp_is_row K) [] E0 (tCons (tVar 1) tNil)) [1]) tNil)))))
abbrev N_rows_in : List Str := ["piece"]
def t_rows_in (K : PySem.W.Frag) : TS := (tRet (tIf (tTest (tOp rEq (tOp (rIx K) (tVar 0) (tC (.int 0))) (tC (.str "put")))) (tCB (fLen K) (tCons (tOp (rIx K) (tVar 0) (tC (.int 1))) tNil)) (tOp (rIx K) (tVar 0) (tC (.int 2)))))
abbrev N_is_right_over : List Str := ["base", "thing", "piece"]
def t_is_right_over (K : PySem.W.Frag) : TS := (tSeq (tIfS (tNot (tB (tCall (sp_is_script K) [] E0 (tCons (tVar 1) tNil)))) (tRet (tC (.bl false))) tNext)
    (tRet (tCB (rAll K) (tCons (tLc (iTup K (tVar 1)) (gName 2) tYes (tOrV (tOp rEq (tOp (rIx K) (tVar 2) (tC (.int 0))) (tC (.str "put"))) (tOp rLeI (tOp rAddI (tOp (rIx K) (tVar 2) (tC (.int 1))) (tOp (rIx K) (tVar 2) (tC (.int 2)))) (tCB (fLen K) (tCons (tVar 0) tNil)))) [2]) tNil))))
abbrev N_refuse_wrong : List Str := ["base", "thing"]
def t_refuse_wrong (K : PySem.W.Frag) : TS := (tIfS (tNot (tB (tCall (sp_is_right_over K) [] E0 (tCons (tVar 0) (tCons (tVar 1) tNil))))) tNever tNext)
abbrev N_done : List Str := ["base", "script"]
def t_done (K : PySem.W.Frag) : TS := (tSeq (tDrop (tCall (sp_refuse_wrong K) [] E0 (tCons (tVar 0) (tCons (tVar 1) tNil))))
    (tRet (tCall (sp_made K) [] E0 (tCons (tVar 0) (tCons (tVar 1) tNil)))))
abbrev N_made : List Str := ["base", "script", "rows", "piece"]
def t_made (K : PySem.W.Frag) : TS := (tSeq (tAsg (tLst tNil) (gName 2))
    (tSeq (tFor (iTup K (tVar 1)) (gName 3) (tDrop (tBM K "list" (rExtendA K) (tVar 2) (tCons (tIf (tTest (tOp rEq (tOp (rIx K) (tVar 3) (tC (.int 0))) (tC (.str "put")))) (tOp (rIx K) (tVar 3) (tC (.int 1))) (tSl (rSlA K) (tVar 0) (tPart (tOp (rIx K) (tVar 3) (tC (.int 1)))) (tPart (tOp rAddI (tOp (rIx K) (tVar 3) (tC (.int 1))) (tOp (rIx K) (tVar 3) (tC (.int 2))))))) tNil))))
    (tRet (tCB (fTupleOf K) (tCons (tVar 2) tNil)))))
abbrev N_price : List Str := ["script", "take", "put", "piece"]
def t_price (K : PySem.W.Frag) : TS := (tSeq (tIfS (tNot (tB (tCall (sp_is_script K) [] E0 (tCons (tVar 0) tNil)))) tNever tNext)
    (tRet (tCB (rSum K) (tCons (tLc (iTup K (tVar 0)) (gName 3) tYes (tIf (tTest (tOp rEq (tOp (rIx K) (tVar 3) (tC (.int 0))) (tC (.str "put")))) (tOp rMulI (tVar 2) (tCall (sp_rows_in K) [] E0 (tCons (tVar 3) tNil))) (tVar 1)) [3]) tNil))))
abbrev N_l_made : List Str := ["_law_base", "_law_pieces", "_law_made_here", "_law_piece", "_law_k", "_law_line"]
def t_l_made (K : PySem.W.Frag) : TS := (tSeq (tAsg (tLst tNil) (gName 2))
    (tSeq (tFor (iTup K (tVar 1)) (gName 3) (tIfS (tTest (tOp rEq (tOp (rIx K) (tVar 3) (tC (.int 0))) (tC (.str "take")))) (tFor (iRng1 (tCons (tOp (rIx K) (tVar 3) (tC (.int 2))) tNil)) (gName 4) (tDrop (tBM K "list" rAppend (tVar 2) (tCons (tOp (rIx K) (tVar 0) (tOp rAddI (tOp (rIx K) (tVar 3) (tC (.int 1))) (tVar 4))) tNil)))) (tFor (iTup K (tOp (rIx K) (tVar 3) (tC (.int 1)))) (gName 5) (tDrop (tBM K "list" rAppend (tVar 2) (tCons (tVar 5) tNil))))))
    (tRet (tCB (fTupleOf K) (tCons (tVar 2) tNil)))))
abbrev N_l_cost : List Str := ["_law_pieces", "_law_by_take", "_law_by_put", "_law_total", "_law_piece"]
def t_l_cost (K : PySem.W.Frag) : TS := (tSeq (tAsg (tC (.int 0)) (gName 3))
    (tSeq (tFor (iTup K (tVar 0)) (gName 4) (tIfS (tTest (tOp rEq (tOp (rIx K) (tVar 4) (tC (.int 0))) (tC (.str "take")))) (tAsg (tOp rAddI (tVar 3) (tVar 1)) (gName 3)) (tAsg (tOp rAddI (tVar 3) (tOp rMulI (tVar 2) (tCB (fLen K) (tCons (tOp (rIx K) (tVar 4) (tC (.int 1))) tNil)))) (gName 3))))
    (tRet (tVar 3))))
theorem blT {p : Prop} [Decidable p] {Q : VK} {H : Hp} (h : p) (q : Q (.bl true) H) : Q (.bl (decide p)) H := by rw [decide_eq_true h]; exact q
theorem blF {p : Prop} [Decidable p] {Q : VK} {H : Hp} (h : ¬ p) (q : Q (.bl false) H) : Q (.bl (decide p)) H := by rw [decide_eq_false h]; exact q
theorem rep_get {n i : Nat} {y : V} {x : V} (h : (List.replicate n x)[i]? = some y) : y = x := by
  obtain ⟨_, e⟩ := List.getElem?_eq_some_iff.mp h
  rw [← e, List.getElem_replicate]
theorem all_rep (n : Nat) : (List.replicate n true).all id = true := by
  rw [List.all_eq_true]
  intro x hx
  rw [List.eq_of_mem_replicate hx]
  rfl
theorem yStr {z : Str} : ∀ (i : Nat) (H : Hp) (x : V) (H' : Hp), (H' = H ∧ ∃ c, z.cps[i]? = some c ∧ x = .str ⟨#[c]⟩) → H' = H := fun _ _ _ _ h => h.1
theorem yAt {xs : List V} : ∀ (i : Nat) (H : Hp) (x : V) (H' : Hp), YAt xs i H x H' → H' = H := fun _ _ _ _ h => h.1
theorem yFn {f : Nat → V} : ∀ (i : Nat) (H : Hp) (x : V) (H' : Hp), YFn f i H x H' → H' = H := fun _ _ _ _ h => h.1
theorem blank_le {c : Nat} (h : 32 ≤ c) : (!decide ((⟨#[c]⟩ : Str).cps.toList < (" " : Str).cps.toList)) = true := by
  have e : (" " : Str).cps.toList = [32] := by decide +kernel
  rw [e]
  show (!decide ([c] < [32])) = true
  rw [decide_eq_false]
  · rfl
  · intro h2
    rcases List.cons_lt_cons_iff.mp h2 with h3 | h3
    · omega
    · exact absurd h3.2 (by decide)
theorem le_tilde {c : Nat} (h : c ≤ 126) : (!decide (("~" : Str).cps.toList < (⟨#[c]⟩ : Str).cps.toList)) = true := by
  have e : ("~" : Str).cps.toList = [126] := by decide +kernel
  rw [e]
  show (!decide ([126] < [c])) = true
  rw [decide_eq_false]
  · rfl
  · intro h2
    rcases List.cons_lt_cons_iff.mp h2 with h3 | h3
    · omega
    · exact absurd h3.2 (by decide)
section
variable {K : PySem.W.Frag} {vs : List V} {H : Hp} {Q : VK} {E : XK}
theorem pure_is_intI (h : sp_is_intI K vs H Q E) : t_is_int K { nx := fun _ H' => Q .non H', rt := Q } (start N_is_int vs) H := by
  obtain ⟨i, rfl, k⟩ := h
  exact ⟨_, rfl, isi (.base (.int i)) k_ii ⟨_, rfl, iteT ⟨_, rfl, isi (.base (.int i)) k_ib ⟨_, rfl, k⟩⟩⟩⟩
theorem pure_is_pairT (h : sp_is_pairT K vs H Q E) : t_is_pair K { nx := fun _ H' => Q .non H', rt := Q } (start N_is_pair vs) H := by
  obtain ⟨a, x, y, rfl, ha, k⟩ := h
  exact ⟨_, rfl, isi (.base (.tup ha)) k_tt ⟨_, rfl, iteT ⟨_, rfl, lenT ha ⟨rfl, k⟩⟩⟩⟩
theorem pure_is_sign (h : sp_is_sign K vs H Q E) : t_is_sign K { nx := fun _ H' => Q .non H', rt := Q } (start N_is_sign vs) H := by
  obtain ⟨c, rfl, ⟨h1, h2, h3⟩, k⟩ := h
  refine ⟨_, rfl, _, _, rfl, rfl, _, rfl, ?_⟩
  rw [blank_le h1]
  refine iteT ⟨_, _, rfl, rfl, _, rfl, ?_⟩
  rw [le_tilde h2]
  refine iteT ⟨_, rfl, _, rfl, rfl, rfl, ?_⟩
  have e : decide (V.int (((⟨#[c]⟩ : Str).cps.getD 0 0 : Nat) : Int) = V.int 37) = false := decide_eq_false (by
    intro h
    injection h with h
    have h : (c : Int) = 37 := h
    omega)
  rw [e]
  exact k
theorem pure_is_text (h : sp_is_text K vs H Q E) : t_is_text K { nx := fun _ H' => Q .non H', rt := Q } (start N_is_text vs) H := by
  obtain ⟨z, rfl, ⟨h1, h2⟩, k⟩ := h
  refine ⟨_, rfl, isi (.base (.str z)) k_ss ⟨_, rfl, iteT ⟨_, rfl, z, rfl, fun L nL => ?_⟩⟩⟩
  refine lc_grow walk_str yStr (ys := List.replicate z.cps.size (.bl true)) nL List.length_replicate (by omega) (fun _ _ => True.intro) ?_ ?_
  · rintro i x y H' R hi ⟨_, c, hc, rfl⟩ hy s r
    refine ⟨rfl, ⟨_, rfl, c, rfl, ?_, ?_⟩⟩
    · exact h2 c (by obtain ⟨q1, q2⟩ := Array.getElem?_eq_some_iff.mp hc; rw [← q2]; exact Array.getElem_mem_toList q1)
    · rw [← rep_get hy]
      exact r _ (Same.refl _)
  · intro H' s hL
    refine ⟨L, List.replicate z.cps.size true, rfl, sqL (by rw [hL, List.map_replicate]), ?_⟩
    rw [all_rep]
    exact k _ s
theorem pure_is_row (h : sp_is_row K vs H Q E) : t_is_row K { nx := fun _ H' => Q .non H', rt := Q } (start N_is_row vs) H := by
  obtain ⟨z, rfl, o, k⟩ := h
  refine ⟨_, rfl, z, rfl, o, fun H' s => ⟨_, rfl, iteT ⟨_, rfl, lenS (Nat.le_trans o.1 (by decide)) ⟨_, _, rfl, rfl, ?_⟩⟩⟩⟩
  exact blT (Q := Q) (show ((z.length : Nat) : Int) ≤ 40 by have := o.1; show ((z.cps.size : Nat) : Int) ≤ 40; omega) (k _ s)
theorem pure_are_put (h : sp_are_put K vs H Q E) : t_are_put K { nx := fun _ H' => Q .non H', rt := Q } (start N_are_put vs) H := by
  obtain ⟨a, rs, rfl, ha, h0, hz, ho, k⟩ := h
  refine ⟨_, rfl, isi (.base (.tup ha)) k_tt ⟨_, rfl, iteT ⟨_, rfl, lenT ha ⟨_, _, rfl, rfl, _, rfl, ?_⟩⟩⟩⟩
  have hl : 0 < rs.length := List.length_pos_iff.mpr h0
  rw [decide_eq_true (show (0 : Int) < ((rs.map V.str).length : Int) by rw [List.length_map]; omega)]
  refine iteT ⟨_, rfl, a, rfl, ⟨_, sqT ha⟩, fun L nL => ?_⟩
  refine lc_grow (walk_tup (xs := rs.map V.str)) yAt (ys := List.replicate (rs.map V.str).length (.bl true)) nL List.length_replicate (by rw [List.length_map]; omega) (fun H' s => sqT (s _ _ ha)) ?_ ?_
  · rintro i x y H' R hi ⟨_, hx⟩ hy s r
    rw [List.getElem?_map] at hx
    cases q : rs[i]? with
    | none => rw [q] at hx; cases hx
    | some z =>
      rw [q] at hx
      cases Option.some.inj hx
      refine ⟨rfl, ⟨_, rfl, z, rfl, ho z (List.mem_of_getElem? q), ?_⟩⟩
      rw [rep_get hy] at r
      exact r
  · intro H' s hL
    refine ⟨L, List.replicate (rs.map V.str).length true, rfl, sqL (by rw [hL, List.map_replicate]), ?_⟩
    rw [all_rep]
    exact k _ s
theorem pure_rows_in (h : sp_rows_in K vs H Q E) : t_rows_in K { nx := fun _ H' => Q .non H', rt := Q } (start N_rows_in vs) H := by
  obtain ⟨a, p, rfl, ha, k⟩ := h
  cases p with
  | take b m =>
    refine ⟨_, rfl, ixT ha rfl ⟨rfl, _, rfl, ?_⟩⟩
    rw [take_put]
    exact iteF ⟨_, rfl, ixT ha rfl k⟩
  | put rs =>
    obtain ⟨r, h1, h2⟩ := ha
    refine ⟨_, rfl, ixT h1 rfl ⟨rfl, _, rfl, ?_⟩⟩
    rw [decide_eq_true rfl]
    refine iteT ⟨_, rfl, ixT h1 rfl (lenT h2 ?_)⟩
    rw [List.length_map]
    exact k
theorem pure_is_piece (h : sp_is_piece K vs H Q E) : t_is_piece K { nx := fun _ H' => Q .non H', rt := Q } (start N_is_piece vs) H := by
  obtain ⟨a, p, rfl, ha, ok, hz, k⟩ := h
  cases p with
  | take b m =>
    have ok : 1 ≤ m := ok
    refine ⟨_, rfl, isi (.base (.tup ha)) k_tt ⟨_, rfl, iteF ⟨_, rfl, lenT ha ⟨rfl, _, rfl, ?_⟩⟩⟩⟩
    refine iteF ⟨_, rfl, ixT ha rfl ⟨rfl, _, rfl, ?_⟩⟩
    rw [decide_eq_true rfl]
    refine iteT ⟨_, rfl, lenT ha ⟨rfl, _, rfl, iteT ?_⟩⟩
    refine ⟨_, rfl, ixT ha rfl ⟨_, rfl, _, rfl, iteT ⟨_, rfl, ixT ha rfl ⟨_, rfl, _, rfl, iteT ?_⟩⟩⟩⟩
    refine ⟨_, rfl, ixT ha rfl ⟨_, _, rfl, rfl, _, rfl, ?_⟩⟩
    rw [decide_eq_true (show (0 : Int) ≤ (b : Int) by omega)]
    refine iteT ⟨_, rfl, ixT ha rfl ⟨_, _, rfl, rfl, ?_⟩⟩
    exact blT (Q := Q) (show (1 : Int) ≤ (m : Int) by omega) (k _ (Same.refl _))
  | put rs =>
    obtain ⟨r, h1, h2⟩ := ha
    refine ⟨_, rfl, isi (.base (.tup h1)) k_tt ⟨_, rfl, iteF ⟨_, rfl, lenT h1 ⟨rfl, _, rfl, ?_⟩⟩⟩⟩
    refine iteF ⟨_, rfl, ixT h1 rfl ⟨rfl, _, rfl, ?_⟩⟩
    rw [put_take]
    refine iteF ⟨_, rfl, ixT h1 rfl ⟨rfl, _, rfl, ?_⟩⟩
    rw [decide_eq_true rfl]
    refine iteT ⟨_, rfl, a, _, _, rfl, h1, _, rfl, iteT ⟨_, rfl, ixT h1 rfl ⟨r, rs, rfl, h2, ok.1, hz, ok.2, k⟩⟩⟩
theorem pure_is_script (h : sp_is_script K vs H Q E) : t_is_script K { nx := fun _ H' => Q .non H', rt := Q } (start N_is_script vs) H := by
  obtain ⟨a, ps, rfl, ⟨as, ha, hp⟩, ok, k⟩ := h
  have hl : (as.map V.ref).length = ps.length := by rw [List.length_map, hp.1]
  have hz := ok.len
  refine ⟨_, rfl, isi (.base (.tup ha)) k_tt ⟨_, rfl, iteF ⟨_, rfl, a, rfl, ⟨_, sqT ha⟩, fun L nL => ?_⟩⟩⟩
  refine lc_grow (walk_tup (xs := as.map V.ref)) yAt (ys := List.replicate (as.map V.ref).length (.bl true)) nL List.length_replicate (by omega) (fun H' s => sqT (s _ _ ha)) ?_ ?_
  · rintro i x y H' R hi ⟨_, hx⟩ hy s r
    obtain ⟨b, p, rfl, h1, h2, h3⟩ := sc_get (hp.mono (.of s)) hx
    refine ⟨rfl, ⟨_, rfl, b, p, rfl, h3, ok.ok p (List.mem_of_getElem? h2), ?_, ?_⟩⟩
    · have := n_le_total (List.mem_of_getElem? h2)
      have := ok.few
      omega
    · rw [rep_get hy] at r
      exact r
  · intro H1 s1 hL
    refine ⟨L, List.replicate (as.map V.ref).length true, rfl, sqL (by rw [hL, List.map_replicate]), ?_⟩
    rw [all_rep]
    refine ⟨_, rfl, iteF ⟨_, rfl, a, rfl, ⟨_, sqT (s1 _ _ ha)⟩, fun L2 nL2 => ?_⟩⟩
    refine lc_grow (walk_tup (xs := as.map V.ref)) yAt (ys := (ps.map fun p => (p.n : Int)).map V.int) nL2 (by rw [List.length_map, List.length_map, hl]) (by omega) (fun H' s => sqT (s _ _ (s1 _ _ ha))) ?_ ?_
    · rintro i x y H' R hi ⟨_, hx⟩ hy s r
      obtain ⟨b, p, rfl, h1, h2, h3⟩ := sc_get (hp.mono (.of (s1.trans s))) hx
      rw [List.getElem?_map, List.getElem?_map, h2] at hy
      cases Option.some.inj hy
      exact ⟨rfl, ⟨_, rfl, b, p, rfl, h3, r _ (Same.refl _)⟩⟩
    · intro H2 s2 hL2
      refine ⟨L2, _, rfl, sqL hL2, _, _, rfl, rfl, ?_⟩
      have e : (ps.map fun p => (p.n : Int)).sum = ((total ps : Nat) : Int) := by
        unfold total
        clear hp ha hl hz k ok s1 s2 hL hL2
        induction ps with
        | nil => rfl
        | cons p ps ih =>
          rw [List.map_cons, List.map_cons, List.sum_cons, List.sum_cons, ih]
          omega
      rw [e]
      exact blT (Q := Q) (show ((total ps : Nat) : Int) ≤ 40 by have := ok.few; omega) (k _ (s1.trans s2))
theorem pure_is_right_over (h : sp_is_right_over K vs H Q E) : t_is_right_over K { nx := fun _ H' => Q .non H', rt := Q } (start N_is_right_over vs) H := by
  obtain ⟨B, a, bs, ps, rfl, hB, sc, ok, fit, k⟩ := h
  refine ⟨_, rfl, a, ps, rfl, sc, ok, fun H1 s1 => ⟨_, rfl, iteF ?_⟩⟩
  obtain ⟨as, ha, hp⟩ := sc.mono (.of s1)
  have hB1 : H1 B = some (.tup (bs.map V.str)) := s1 _ _ hB
  have hl : (as.map V.ref).length = ps.length := by rw [List.length_map, hp.1]
  have hz := ok.len
  refine ⟨_, rfl, a, rfl, ⟨_, sqT ha⟩, fun L nL => ?_⟩
  refine lc_grow (walk_tup (xs := as.map V.ref)) yAt (ys := List.replicate (as.map V.ref).length (.bl true)) nL List.length_replicate (by omega) (fun H' s => sqT (s _ _ ha)) ?_ ?_
  · rintro i x y H' R hi ⟨_, hx⟩ hy s r
    obtain ⟨b, p, rfl, h1, h2, h3⟩ := sc_get (hp.mono (.of s)) hx
    have f := fit p (List.mem_of_getElem? h2)
    rw [rep_get hy] at r
    refine ⟨rfl, ?_⟩
    cases p with
    | take c m =>
      have f : c + m ≤ bs.length := f
      refine ⟨_, rfl, ixT h3 rfl ⟨rfl, _, rfl, ?_⟩⟩
      rw [take_put]
      refine iteF ⟨_, rfl, ixT h3 rfl ⟨_, rfl, ixT h3 rfl ⟨_, _, rfl, rfl, _, rfl, lenT (s _ _ hB1) ⟨_, _, rfl, rfl, ?_⟩⟩⟩⟩
      exact blT (Q := R) (show (c : Int) + (m : Int) ≤ ((bs.map V.str).length : Int) by rw [List.length_map]; omega) (r _ (Same.refl _))
    | put rs =>
      obtain ⟨q, h4, h5⟩ := h3
      refine ⟨_, rfl, ixT h4 rfl ⟨rfl, _, rfl, ?_⟩⟩
      rw [decide_eq_true rfl]
      exact iteT (r _ (Same.refl _))
  · intro H2 s2 hL
    refine ⟨L, List.replicate (as.map V.ref).length true, rfl, sqL (by rw [hL, List.map_replicate]), ?_⟩
    rw [all_rep]
    exact k _ (s1.trans s2)
theorem pure_refuse_wrong (h : sp_refuse_wrong K vs H Q E) : t_refuse_wrong K { nx := fun _ H' => Q .non H', rt := Q } (start N_refuse_wrong vs) H := by
  obtain ⟨B, a, bs, ps, rfl, hB, sc, ok, fit, k⟩ := h
  exact ⟨_, rfl, _, rfl, B, a, bs, ps, rfl, hB, sc, ok, fit, fun H1 s1 => ⟨_, rfl, iteF (k _ s1)⟩⟩
theorem pure_done (h : sp_done K vs H Q E) : t_done K { nx := fun _ H' => Q .non H', rt := Q } (start N_done vs) H := by
  obtain ⟨B, a, bs, ps, rfl, hB, sc, ok, fit, k⟩ := h
  refine ⟨_, rfl, _, rfl, B, a, bs, ps, rfl, hB, sc, ok, fit, fun H1 s1 => ?_⟩
  exact ⟨_, rfl, _, rfl, B, a, bs, ps, rfl, s1 _ _ hB, sc.mono (.of s1), ok, fit, fun r H2 s2 => k r H2 (s1.trans s2)⟩
theorem total_take_le {ps : List Pc} (i : Nat) : total (ps.take i) ≤ total ps := by
  have e : total ps = total (ps.take i) + total (ps.drop i) := by
    unfold total
    rw [← List.sum_append, ← List.map_append, List.take_append_drop]
  omega
theorem makes_snoc {bs : List Str} {ps : List Pc} {p : Pc} {i : Nat} (h : ps[i]? = some p) : makes bs (ps.take (i + 1)) = makes bs (ps.take i) ++ p.mk bs := by
  unfold makes
  rw [List.take_add_one, h, List.map_append, List.flatten_append]
  show _ ++ (p.mk bs ++ []) = _
  rw [List.append_nil]
theorem fits_take {ps : List Pc} {L : Nat} (fit : ∀ p ∈ ps, p.fits L) (i : Nat) : ∀ p ∈ ps.take i, p.fits L := fun p hp => fit p (List.mem_of_mem_take hp)
/-- a stretch of a tuple of texts, as a slice tells it -/
theorem slA {B : Addr} {bs : List Str} {b m : Nat} (hB : H B = some (.tup (bs.map V.str))) (f : b + m ≤ bs.length) (q : ∀ (r : Addr) (H' : Hp), Same H H' → RwAt H' r ((bs.drop b).take m) → Q (.ref r) H') : rSlA K (.ref B) (some (b : Int)) (some ((b : Int) + (m : Int))) H Q := by
  have e1 : HT.sIx (bs.map V.str).length 0 (some (b : Int)) = b := by rw [HT.sIx_nat, List.length_map]; omega
  have e2 : HT.sIx (bs.map V.str).length (bs.map V.str).length (some ((b : Int) + (m : Int))) = b + m := by
    rw [show ((b : Int) + (m : Int)) = ((b + m : Nat) : Int) by omega, HT.sIx_nat, List.length_map]
    omega
  refine ⟨B, _, rfl, sqT hB, fun e => ?_, fun e r nr => ?_⟩
  · rw [e1, e2, List.length_map] at e
    obtain ⟨rfl, e⟩ := e
    refine q B H (Same.refl _) ?_
    show H B = _
    rw [hB, List.drop_zero, List.take_of_length_le (by omega)]
  · refine q r _ (Same.upd nr) ?_
    show upd H r _ r = _
    rw [updS]
    unfold cutV
    rw [e1, e2, Nat.add_sub_cancel_left, ← List.map_drop, ← List.map_take]
theorem pure_made (h : sp_made K vs H Q E) : t_made K { nx := fun _ H' => Q .non H', rt := Q } (start N_made vs) H := by
  obtain ⟨B, a, bs, ps, rfl, hB, ⟨as, ha, hp⟩, ok, fit, k⟩ := h
  refine ⟨Nat.zero_le _, fun L nL => ⟨_, rfl, a, rfl, ⟨_, sqT (updN (ne_of_none ha nL) ha)⟩, ?_⟩⟩
  refine for_tup (K := K) (a := a) (xs := as.map V.ref) (fun i σ H' => Same H H' ∧ H' L = some (.lst ((makes bs (ps.take i)).map V.str)) ∧ ∃ z, σ = [some (.ref B), some (.ref a), some (.ref L), z]) ⟨Same.upd nL, updS, none, rfl⟩ (fun i σ H' _ p => sqT (p.1 _ _ ha)) ?_ ?_
  · rintro i x σ H' hx ⟨s, hL, z, rfl⟩
    obtain ⟨c, p, rfl, h1, h2, h3⟩ := sc_get (hp.mono (.of s)) hx
    have f := fit p (List.mem_of_getElem? h2)
    have ok1 := ok.few
    have l1 := makes_len (bs := bs) (fits_take fit i)
    have l2 := total_take_le (ps := ps) i
    have l3 := mk_len f
    have l4 := n_le_total (List.mem_of_getElem? h2)
    have go : ∀ (r : Addr) (H2 : Hp), Same H' H2 → RwAt H2 r (p.mk bs) → rExtendA K (.ref L) [.ref r] H2 fun _ H3 => Same H H3 ∧ H3 L = some (.lst ((makes bs (ps.take (i + 1))).map V.str)) ∧ ∃ z, ([some (.ref B), some (.ref a), some (.ref L), some (.ref c)] : L2.St) = [some (.ref B), some (.ref a), some (.ref L), z] := by
      intro r H2 s2 hr
      refine ⟨L, r, _, _, rfl, rfl, s2 _ _ hL, .inr hr, by rw [List.length_map, List.length_map]; omega, Same.updI (s.trans s2) nL, ?_, _, rfl⟩
      rw [updS, makes_snoc h2, List.map_append]
    refine ⟨_, rfl, .inl ⟨rfl, _, sqL hL⟩, ?_⟩
    cases p with
    | take b m =>
      refine ⟨_, rfl, ixT h3 rfl ⟨rfl, _, rfl, ?_⟩⟩
      rw [take_put]
      refine iteF ⟨_, rfl, _, rfl, ixT h3 rfl ⟨_, rfl, _, rfl, ixT h3 rfl ⟨_, rfl, ixT h3 rfl ⟨_, _, rfl, rfl, _, rfl, ?_⟩⟩⟩⟩
      exact slA (s _ _ hB) f go
    | put rs =>
      obtain ⟨q, h4, h5⟩ := h3
      refine ⟨_, rfl, ixT h4 rfl ⟨rfl, _, rfl, ?_⟩⟩
      rw [decide_eq_true rfl]
      refine iteT ⟨_, rfl, ixT h4 rfl ?_⟩
      exact go q _ (Same.refl _) h5
  · rintro σ H' ⟨s, hL, z, rfl⟩
    rw [List.length_map, hp.1, List.take_of_length_le (Nat.le_refl _)] at hL
    exact ⟨_, rfl, L, _, rfl, .inl ⟨sqL hL, fun r nr => k r _ (s.trans (Same.upd nr)) updS⟩⟩
theorem pure_price (h : sp_price K vs H Q E) : t_price K { nx := fun _ H' => Q .non H', rt := Q } (start N_price vs) H := by
  obtain ⟨a, ps, t, p, rfl, sc, ok, t0, t1, p0, p1, k⟩ := h
  refine ⟨_, rfl, a, ps, rfl, sc, ok, fun H1 s1 => ⟨_, rfl, iteF ?_⟩⟩
  obtain ⟨as, ha, hp⟩ := sc.mono (.of s1)
  have hl : (as.map V.ref).length = ps.length := by rw [List.length_map, hp.1]
  have hz := ok.len
  refine ⟨_, rfl, a, rfl, ⟨_, sqT ha⟩, fun L nL => ?_⟩
  refine lc_grow (walk_tup (xs := as.map V.ref)) yAt (ys := (ps.map (Pc.cost t p)).map V.int) nL (by rw [List.length_map, List.length_map, hl]) (by omega) (fun H' s => sqT (s _ _ ha)) ?_ ?_
  · rintro i x y H' R hi ⟨_, hx⟩ hy s r
    obtain ⟨b, q, rfl, h1, h2, h3⟩ := sc_get (hp.mono (.of s)) hx
    rw [List.getElem?_map, List.getElem?_map, h2] at hy
    cases Option.some.inj hy
    refine ⟨rfl, ?_⟩
    cases q with
    | take c m =>
      refine ⟨_, rfl, ixT h3 rfl ⟨rfl, _, rfl, ?_⟩⟩
      rw [take_put]
      exact iteF ⟨_, rfl, r _ (Same.refl _)⟩
    | put rs =>
      have h30 := h3
      obtain ⟨q, h4, h5⟩ := h3
      refine ⟨_, rfl, ixT h4 rfl ⟨rfl, _, rfl, ?_⟩⟩
      rw [decide_eq_true rfl]
      exact iteT ⟨_, rfl, _, rfl, b, .put rs, rfl, h30, _, _, rfl, rfl, .inl ⟨by omega, by omega⟩, r _ (Same.refl _)⟩
  · intro H2 s2 hL
    exact ⟨L, _, rfl, sqL hL, k _ (s1.trans s2)⟩
theorem cost_snoc {t p : Int} {ps : List Pc} {q : Pc} {i : Nat} (h : ps[i]? = some q) : cost t p (ps.take (i + 1)) = cost t p (ps.take i) + q.cost t p := by
  unfold cost
  rw [List.take_add_one, h, List.map_append, List.sum_append]
  show _ + (q.cost t p + 0) = _
  omega
theorem pure_l_cost (h : sp_l_cost K vs H Q E) : t_l_cost K { nx := fun _ H' => Q .non H', rt := Q } (start N_l_cost vs) H := by
  obtain ⟨a, ps, t, p, rfl, ⟨as, ha, hp⟩, ok, t0, t1, p0, p1, k⟩ := h
  refine ⟨_, rfl, a, rfl, ⟨_, sqT ha⟩, ?_⟩
  refine for_tup (K := K) (a := a) (xs := as.map V.ref) (fun i σ H' => H' = H ∧ ∃ z, σ = [some (.ref a), some (.int t), some (.int p), some (.int (cost t p (ps.take i))), z]) ⟨rfl, none, rfl⟩ (fun i σ H' _ p => by rw [p.1]; exact sqT ha) ?_ ?_
  · rintro i x σ H' hx ⟨rfl, z, rfl⟩
    obtain ⟨b, q, rfl, h1, h2, h3⟩ := sc_get hp hx
    cases q with
    | take c m =>
      refine ⟨_, rfl, ixT h3 rfl ⟨rfl, _, rfl, ?_⟩⟩
      rw [decide_eq_true rfl]
      refine iteT ⟨_, rfl, _, rfl, _, _, rfl, rfl, rfl, some (.ref b), ?_⟩
      rw [cost_snoc h2]
      rfl
    | put rs =>
      obtain ⟨q, h4, h5⟩ := h3
      refine ⟨_, rfl, ixT h4 rfl ⟨rfl, _, rfl, ?_⟩⟩
      rw [put_take]
      refine iteF ⟨_, rfl, _, rfl, _, rfl, ixT h4 rfl (lenT h5 ⟨_, _, rfl, rfl, .inl ⟨by omega, by omega⟩, _, _, rfl, rfl, rfl, some (.ref b), ?_⟩)⟩
      rw [cost_snoc h2, List.length_map]
      rfl
  · rintro σ H' ⟨rfl, z, rfl⟩
    rw [List.length_map, hp.1, List.take_of_length_le (Nat.le_refl _)]
    exact ⟨_, rfl, k⟩
theorem pure_l_made (h : sp_l_made K vs H Q E) : t_l_made K { nx := fun _ H' => Q .non H', rt := Q } (start N_l_made vs) H := by
  obtain ⟨B, a, bs, ps, rfl, hB, ⟨as, ha, hp⟩, ok, fit, k⟩ := h
  refine ⟨Nat.zero_le _, fun L nL => ⟨_, rfl, a, rfl, ⟨_, sqT (updN (ne_of_none ha nL) ha)⟩, ?_⟩⟩
  refine for_tup (K := K) (a := a) (xs := as.map V.ref) (fun i σ H' => Same H H' ∧ H' L = some (.lst ((makes bs (ps.take i)).map V.str)) ∧ ∃ z3 z4 z5, σ = [some (.ref B), some (.ref a), some (.ref L), z3, z4, z5]) ⟨Same.upd nL, updS, none, none, none, rfl⟩ (fun i σ H' _ p => sqT (p.1 _ _ ha)) ?_ ?_
  · rintro i x σ H' hx ⟨s, hL, z3, z4, z5, rfl⟩
    obtain ⟨c, p, rfl, h1, h2, h3⟩ := sc_get (hp.mono (.of s)) hx
    have f := fit p (List.mem_of_getElem? h2)
    have ok1 := ok.few
    have l1 := makes_len (bs := bs) (fits_take fit i)
    have l2 := total_take_le (ps := ps) i
    have l3 := mk_len f
    have l4 := n_le_total (List.mem_of_getElem? h2)
    have nLm : ∀ (H2 : Hp) (ws : List V), Same H H2 → Same H (upd H2 L (.lst ws)) := fun H2 ws s2 => Same.updI s2 nL
    cases p with
    | take b m =>
      have f : b + m ≤ bs.length := f
      have l4 : m ≤ total ps := l4
      refine ⟨_, rfl, ixT h3 rfl ⟨rfl, _, rfl, ?_⟩⟩
      rw [decide_eq_true rfl]
      refine iteT ⟨_, rfl, ixT h3 rfl ⟨_, rfl, (len_le (by omega)).1, (len_le (by omega)).2, ?_⟩⟩
      refine for_range (lo := 0) (n := ((m : Nat) : Int).toNat) (fun j σ H2 => Same H H2 ∧ H2 L = some (.lst ((makes bs (ps.take i) ++ (bs.drop b).take j).map V.str)) ∧ ∃ z4, σ = [some (.ref B), some (.ref a), some (.ref L), some (.ref c), z4, z5]) ⟨s, by rw [hL, List.take_zero, List.append_nil], _, rfl⟩ ?_ ?_
      · rintro j σ H2 hj ⟨s2, hL2, z4, rfl⟩
        have hj2 : b + j < bs.length := by omega
        have g : atI (bs.map V.str) ((b : Int) + (0 + (j : Int))) = some (.str bs[b + j]) := by
          rw [show (b : Int) + (0 + (j : Int)) = ((b + j : Nat) : Int) by omega]
          exact atI_nat (by rw [List.getElem?_map, List.getElem?_eq_getElem hj2]; rfl)
        have h32 : H2 c = some (.tup [.str "take", .int (b : Int), .int (m : Int)]) := by
          have := (hp.mono (.of s2)).2 i c _ h1 h2
          exact this
        refine ⟨_, rfl, .inl ⟨rfl, _, sqL hL2⟩, _, rfl, _, rfl, ixT h32 rfl ⟨_, rfl, _, _, rfl, rfl, ixT (s2 _ _ hB) g ⟨L, _, _, rfl, rfl, hL2, ?_, ?_⟩⟩⟩
        · rw [List.length_map, List.length_append, List.length_take, List.length_drop]
          exact Nat.lt_of_le_of_lt (show _ ≤ 1000 by omega) (by decide)
        · refine ⟨nLm _ _ s2, ?_, _, rfl⟩
          rw [updS, List.take_add_one, List.getElem?_drop, List.getElem?_eq_getElem hj2]
          simp only [List.map_append, List.append_assoc]
          rfl
      · rintro σ H2 ⟨s2, hL2, z4, rfl⟩
        refine ⟨s2, ?_, _, _, _, rfl⟩
        rw [hL2, makes_snoc h2, show ((m : Nat) : Int).toNat = m by omega]
        rfl
    | put rs =>
      obtain ⟨q, h4, h5⟩ := h3
      refine ⟨_, rfl, ixT h4 rfl ⟨rfl, _, rfl, ?_⟩⟩
      rw [put_take]
      have l4 : rs.length ≤ total ps := l4
      refine iteF ⟨_, rfl, ixT h4 rfl ⟨q, rfl, ⟨_, sqT h5⟩, ?_⟩⟩
      have nLq : q ≠ L := ne_of h5 hL (by intro z; cases z)
      refine for_tup (K := K) (a := q) (xs := rs.map V.str) (fun j σ H2 => Same H H2 ∧ H2 q = some (.tup (rs.map V.str)) ∧ H2 L = some (.lst ((makes bs (ps.take i) ++ rs.take j).map V.str)) ∧ ∃ z5, σ = [some (.ref B), some (.ref a), some (.ref L), some (.ref c), z4, z5]) ⟨s, h5, by rw [hL, List.take_zero, List.append_nil], _, rfl⟩ (fun j σ H2 _ p => sqT p.2.1) ?_ ?_
      · rintro j x σ H2 hx2 ⟨s2, hq2, hL2, z5, rfl⟩
        rw [List.getElem?_map] at hx2
        cases e : rs[j]? with
        | none => rw [e] at hx2; cases hx2
        | some z =>
          rw [e] at hx2
          cases Option.some.inj hx2
          have hj := (List.getElem?_eq_some_iff.mp e).1
          refine ⟨_, rfl, .inl ⟨rfl, _, sqL hL2⟩, _, rfl, L, _, _, rfl, rfl, hL2, ?_, ?_⟩
          · rw [List.length_map, List.length_append, List.length_take]
            exact Nat.lt_of_le_of_lt (show _ ≤ 1000 by omega) (by decide)
          · refine ⟨nLm _ _ s2, updN nLq hq2, ?_, _, rfl⟩
            rw [updS, List.take_add_one, e]
            simp only [List.map_append, List.append_assoc]
            rfl
      · rintro σ H2 ⟨s2, hq2, hL2, z5, rfl⟩
        refine ⟨s2, ?_, _, _, _, rfl⟩
        rw [hL2, makes_snoc h2, List.length_map, List.take_of_length_le (Nat.le_refl _)]
        rfl
  · rintro σ H' ⟨s, hL, z3, z4, z5, rfl⟩
    rw [List.length_map, hp.1, List.take_of_length_le (Nat.le_refl _)] at hL
    exact ⟨_, rfl, L, _, rfl, .inl ⟨sqL hL, fun r nr => k r _ (s.trans (Same.upd nr)) updS⟩⟩
end
end Fw

set_option Elab.async false
set_option linter.all false
set_option maxRecDepth 100000
set_option maxHeartbeats 4000000
namespace Fw
open PySem L2 RZ RT
def StAt (H : Hp) (S : Addr) (st : List Str) : Prop := H S = some (.lst (st.map V.str)) ∧ 0 < st.length ∧ st.length ≤ 5 ∧ ∀ z ∈ st, OkS z
theorem StAt.kp {D : Addr} {H H' : Hp} {S : Addr} {st : List Str} (h : StAt H S st) (k : Kp D H H') (n : S ≠ D) : StAt H' S st := ⟨k _ _ h.1 n, h.2⟩
theorem StAt.same {H H' : Hp} {S : Addr} {st : List Str} (h : StAt H S st) (k : Same H H') : StAt H' S st := ⟨k _ _ h.1, h.2⟩
theorem Dk.same {c D : Addr} {ns : List Int} {t : Nat} {H H' : Hp} (d : Dk c D ns t H) (s : Same H H') : Dk c D ns t H' := by
  obtain ⟨a, b, e, i, n, u, h, r⟩ := d
  exact ⟨a, s _ _ b, e, i, n, u, s _ _ h, r⟩
def sp_l_text (_ : PySem.W.Frag) : Sp := fun vs H Q _ => ∃ (c D : Addr) (ns : List Int) (t : Nat) (size : Int), vs = [.ref D, .int size] ∧ Dk c D ns t H ∧ 0 ≤ size ∧ size ≤ 40 ∧ t + 50 < 1000000000 ∧
  ∀ (z : Str) (H' : Hp), OkS z → Kp D H H' → Dk c D ns (t + 50) H' → Q (.str z) H'
def sp_l_stock (_ : PySem.W.Frag) : Sp := fun vs H Q _ => ∃ (c D : Addr) (ns : List Int) (t : Nat), vs = [.ref D] ∧ Dk c D ns t H ∧ t + 300 < 1000000000 ∧
  ∀ (S : Addr) (st : List Str) (H' : Hp), StAt H' S st → H S = none → Kp D H H' → Dk c D ns (t + 300) H' → Q (.ref S) H'
def sp_l_lines (_ : PySem.W.Frag) : Sp := fun vs H Q _ => ∃ (c D S : Addr) (ns : List Int) (t : Nat) (st : List Str) (most : Int), vs = [.ref D, .ref S, .int most] ∧ Dk c D ns t H ∧ StAt H S st ∧ S ≠ D ∧ 0 ≤ most ∧ most ≤ 40 ∧ t + 50 < 1000000000 ∧
  ∀ (a : Addr) (bs : List Str) (H' : Hp), RwAt H' a bs → (∀ z ∈ bs, z ∈ st) → (bs.length : Int) ≤ most → Kp D H H' → Dk c D ns (t + 50) H' → Q (.ref a) H'
def sp_l_most (_ : PySem.W.Frag) : Sp := fun vs H Q _ => ∃ (c D : Addr) (ns : List Int) (t : Nat), vs = [.ref D] ∧ Dk c D ns t H ∧ t + 1 < 1000000000 ∧
  ∀ (m : Int) (H' : Hp), 0 ≤ m → m ≤ 40 → Kp D H H' → Dk c D ns (t + 1) H' → Q (.int m) H'
def sp_l_script (_ : PySem.W.Frag) : Sp := fun vs H Q _ => ∃ (c D B S : Addr) (ns : List Int) (t : Nat) (bs st : List Str) (most : Int), vs = [.ref D, .ref B, .ref S, .int most] ∧ Dk c D ns t H ∧ RwAt H B bs ∧ bs.length ≤ 1000 ∧ StAt H S st ∧ S ≠ D ∧ 0 ≤ most ∧ most ≤ 40 ∧ t + 300 < 1000000000 ∧
  ∀ (a : Addr) (ps : List Pc) (H' : Hp), ScAt H' a ps → ScOk ps → (∀ p ∈ ps, p.fits bs.length) → (total ps : Int) ≤ most → (∀ p ∈ ps, ∀ rs, p = .put rs → ∀ z ∈ rs, z ∈ st) → Kp D H H' → Dk c D ns (t + 300) H' → Q (.ref a) H'
section
variable {K : PySem.W.Frag} {vs : List V} {H : Hp} {Q : VK} {E : XK}
theorem len_l_text (h : sp_l_text K vs H Q E) : vs.length = 2 := by obtain ⟨_, _, _, _, _, rfl, _⟩ := h; rfl
theorem len_l_stock (h : sp_l_stock K vs H Q E) : vs.length = 1 := by obtain ⟨_, _, _, _, rfl, _⟩ := h; rfl
theorem len_l_lines (h : sp_l_lines K vs H Q E) : vs.length = 3 := by obtain ⟨_, _, _, _, _, _, _, rfl, _⟩ := h; rfl
theorem len_l_most (h : sp_l_most K vs H Q E) : vs.length = 1 := by obtain ⟨_, _, _, _, rfl, _⟩ := h; rfl
theorem len_l_script (h : sp_l_script K vs H Q E) : vs.length = 4 := by obtain ⟨_, _, _, _, _, _, _, _, _, rfl, _⟩ := h; rfl
end
abbrev N_l_text : List Str := ["_law_deck_here", "_law_size", "_law_signs", "_law_k"]
def t_l_text_rest (K : PySem.W.Frag) : TS := (tRet (tM1 (fJoin K) (tC (.str "")) (tLc (iRng1 (tCons (tCall (sp_l_draw K) [] E0 (tCons (tVar 0) (tCons (tOp rAddI (tVar 1) (tC (.int 1))) tNil))) tNil)) (gName 3) tYes (tOp (rIx K) (tVar 2) (tCall (sp_l_draw K) [] E0 (tCons (tVar 0) (tCons (tCB (fLen K) (tCons (tVar 2) tNil)) tNil)))) [3])))
def t_l_text (K : PySem.W.Frag) : TS := (tSeq (tAsg (tC (.str " !\"#$&'()*+,-./0123456789:;<=>?@ABCDEFGHIJKLMNOPQRSTUVWXYZ[\\]^_`abcdefghijklmnopqrstuvwxyz{|}~")) (gName 2))
    (tSeq (tIfS (tTest (tOp rEq (tCall (sp_l_draw K) [] E0 (tCons (tVar 0) (tCons (tC (.int 2)) tNil))) (tC (.int 0)))) (tAsg (tC (.str "ab")) (gName 2)) tNext)
    (t_l_text_rest K)))
abbrev N_l_stock : List Str := ["_law_deck_here", "_law_longest", "_law_k"]
def t_l_stock_rest (K : PySem.W.Frag) : TS := (tRet (tLc (iRng1 (tCons (tOp rAddI (tC (.int 1)) (tCall (sp_l_draw K) [] E0 (tCons (tVar 0) (tCons (tC (.int 5)) tNil)))) tNil)) (gName 2) tYes (tCall (sp_l_text K) [] E0 (tCons (tVar 0) (tCons (tVar 1) tNil))) [2]))
def t_l_stock (K : PySem.W.Frag) : TS := (tSeq (tAsg (tC (.int 4)) (gName 1))
    (tSeq (tIfS (tTest (tOp rEq (tCall (sp_l_draw K) [] E0 (tCons (tVar 0) (tCons (tC (.int 6)) tNil))) (tC (.int 0)))) (tAsg (tC (.int 40)) (gName 1)) tNext)
    (t_l_stock_rest K)))
abbrev N_l_lines : List Str := ["_law_deck_here", "_law_stock_here", "_law_most_here", "_law_k"]
def t_l_lines (K : PySem.W.Frag) : TS := (tRet (tCB (fTupleOf K) (tCons (tLc (iRng1 (tCons (tCall (sp_l_draw K) [] E0 (tCons (tVar 0) (tCons (tOp rAddI (tVar 2) (tC (.int 1))) tNil))) tNil)) (gName 3) tYes (tOp (rIx K) (tVar 1) (tCall (sp_l_draw K) [] E0 (tCons (tVar 0) (tCons (tCB (fLen K) (tCons (tVar 1) tNil)) tNil)))) [3]) tNil)))
abbrev N_l_most : List Str := ["_law_deck_here"]
def t_l_most (K : PySem.W.Frag) : TS := (tSeq (tIfS (tTest (tOp rEq (tCall (sp_l_draw K) [] E0 (tCons (tVar 0) (tCons (tC (.int 8)) tNil))) (tC (.int 0)))) (tRet (tC (.int 40))) tNext)
    (tRet (tC (.int 9))))
abbrev N_l_script : List Str := ["_law_deck_here", "_law_base", "_law_stock_here", "_law_most_here", "_law_pieces", "_law_room", "_law_begin", "_law_many", "_law_k"]
def t_l_script_take (K : PySem.W.Frag) : TS := (tSeq (tAsg (tOp rAddI (tC (.int 1)) (tCall (sp_l_draw K) [] E0 (tCons (tVar 0) (tCons (tCB fMin2 (tCons (tVar 5) (tCons (tOp rSubI (tCB (fLen K) (tCons (tVar 1) tNil)) (tVar 6)) tNil))) tNil)))) (gName 7))
    (tDrop (tBM K "list" rAppend (tVar 4) (tCons (tTup (tCons (tC (.str "take")) (tCons (tVar 6) (tCons (tVar 7) tNil)))) tNil))))
def t_l_script_put (K : PySem.W.Frag) : TS := (tSeq (tAsg (tOp rAddI (tC (.int 1)) (tCall (sp_l_draw K) [] E0 (tCons (tVar 0) (tCons (tCB fMin2 (tCons (tVar 5) (tCons (tC (.int 3)) tNil))) tNil)))) (gName 7))
    (tDrop (tBM K "list" rAppend (tVar 4) (tCons (tTup (tCons (tC (.str "put")) (tCons (tCB (fTupleOf K) (tCons (tLc (iRng1 (tCons (tVar 7) tNil)) (gName 8) tYes (tOp (rIx K) (tVar 2) (tCall (sp_l_draw K) [] E0 (tCons (tVar 0) (tCons (tCB (fLen K) (tCons (tVar 2) tNil)) tNil)))) [8]) tNil)) tNil))) tNil))))
def t_l_script_end (K : PySem.W.Frag) : TS := (tAsg (tOp rSubI (tVar 5) (tVar 7)) (gName 5))
def t_l_script_turn (K : PySem.W.Frag) : TS := (tSeq (tIfS (tAnd (tTest (tOp rGtI (tCB (fLen K) (tCons (tVar 1) tNil)) (tC (.int 0)))) (tTest (tOp rGtI (tCall (sp_l_draw K) [] E0 (tCons (tVar 0) (tCons (tC (.int 3)) tNil))) (tC (.int 0))))) (tSeq (tAsg (tCall (sp_l_draw K) [] E0 (tCons (tVar 0) (tCons (tCB (fLen K) (tCons (tVar 1) tNil)) tNil))) (gName 6))
    (t_l_script_take K)) (t_l_script_put K))
    (t_l_script_end K))
def t_l_script (K : PySem.W.Frag) : TS := (tSeq (tAsg (tLst tNil) (gName 4))
    (tSeq (tAsg (tCall (sp_l_draw K) [] E0 (tCons (tVar 0) (tCons (tOp rAddI (tVar 3) (tC (.int 1))) tNil))) (gName 5))
    (tSeq (tWhile (tTest (tOp rGtI (tVar 5) (tC (.int 0)))) (t_l_script_turn K))
    (tRet (tCB (fTupleOf K) (tCons (tVar 4) tNil))))))
theorem join_chars (ys : List Nat) : Txt.join ("" : Str) ((ys.map fun c => (⟨#[c]⟩ : Str))) = ⟨ys.toArray⟩ := by
  have e : ("" : Str) = ⟨#[]⟩ := by decide +kernel
  rw [e]
  unfold Txt.join
  have h := PyProof.Rows.join_nil_signs ⟨ys.toArray⟩
  rw [← StrLaws.glued_eq_join] at h
  exact h
theorem sum_ones : ∀ ys : List Nat, ((ys.map fun c => (⟨#[c]⟩ : Str)).map (·.length)).sum = ys.length
  | [] => rfl
  | y :: ys => by
    rw [List.map_cons, List.map_cons, List.sum_cons, sum_ones ys, List.length_cons]
    show 1 + ys.length = _
    omega
section
variable {K : PySem.W.Frag} {vs : List V} {H : Hp} {Q : VK} {E : XK}
theorem text_rest {c D : Addr} {ns : List Int} {t : Nat} {size : Int} {S : Str} {z3 : Option V} (dk : Dk c D ns t H) (s0 : 0 ≤ size) (s1 : size ≤ 40) (ht : t + 45 < 1000000000) (l0 : 0 < S.cps.size) (l1 : S.cps.size ≤ 100) (ok : ∀ x ∈ S.cps.toList, OkC x)
    (k : ∀ (z : Str) (H' : Hp), OkS z → Kp D H H' → Dk c D ns (t + 45) H' → Q (.str z) H') : t_l_text_rest K { nx := fun _ H' => Q .non H', rt := Q } [some (.ref D), some (.int size), some (.str S), z3] H := by
  refine ⟨⟨_, rfl⟩, _, rfl, _, rfl, _, _, rfl, rfl, c, D, ns, t, size + 1, rfl, dk, by omega, by omega, small100 (by omega), fun n H1 n0 n1 d1 fr1 => ⟨_, rfl, by omega, by omega, fun L nL => ?_⟩⟩
  refine lc_deck (walk_range (lo := 0) (n := n.toNat)) yFn (fun x : Nat => V.str ⟨#[x]⟩) OkC 1 nL d1 (by omega) ?_ ?_
  · intro i x H2 R hi kp d2 r
    refine ⟨rfl, ⟨_, rfl, _, rfl, _, rfl, lenS (Nat.le_trans l1 (by decide)) ⟨c, D, ns, _, _, rfl, d2, by omega, (show (0 : Int) < (S.length : Int) by show (0 : Int) < (S.cps.size : Int); omega), small100 (show ((S.cps.size : Nat) : Int).natAbs ≤ _ by omega), fun v H3 v0 v1 d3 fr3 => ?_⟩⟩⟩
    obtain ⟨j, rfl⟩ := Int.eq_ofNat_of_zero_le v0
    have hj : j < S.cps.toList.length := by
      have : ((j : Nat) : Int) < ((S.cps.size : Nat) : Int) := v1
      rw [Array.length_toList]
      omega
    exact ixS (Nat.le_trans l1 (by decide)) (atI_nat (List.getElem?_eq_getElem hj)) (r _ _ (ok _ (List.getElem_mem hj)) (.fr fr3) d3)
  · intro ys H2 hl hp kp d2 hL
    have hlen : ys.length ≤ 40 := by omega
    refine ⟨_, L, (ys.map fun c => (⟨#[c]⟩ : Str)), rfl, rfl, .inl (sqL (by rw [hL, List.map_map]; rfl)), ?_, ?_⟩
    · rw [sum_ones, List.length_map]
      show ys.length + ys.length * 0 ≤ _
      omega
    · rw [join_chars]
      refine k _ _ ⟨?_, ?_⟩ ((Kp.fr fr1).trans kp) (d2.le (by omega))
      · show ys.toArray.size ≤ 40
        rw [List.size_toArray]
        exact hlen
      · intro x hx
        exact hp x hx
theorem signs_ok : ∀ x ∈ (" !\"#$&'()*+,-./0123456789:;<=>?@ABCDEFGHIJKLMNOPQRSTUVWXYZ[\\]^_`abcdefghijklmnopqrstuvwxyz{|}~" : Str).cps.toList, OkC x := by
  have h : ((" !\"#$&'()*+,-./0123456789:;<=>?@ABCDEFGHIJKLMNOPQRSTUVWXYZ[\\]^_`abcdefghijklmnopqrstuvwxyz{|}~" : Str).cps.toList.all fun x => decide (32 ≤ x) && (decide (x ≤ 126) && !decide (x = 37))) = true := by decide +kernel
  intro x hx
  have := List.all_eq_true.mp h x hx
  simp only [Bool.and_eq_true, decide_eq_true_eq, Bool.not_eq_true', decide_eq_false_iff_not] at this
  exact ⟨this.1, this.2.1, this.2.2⟩
theorem ab_ok : ∀ x ∈ ("ab" : Str).cps.toList, OkC x := by
  have h : (("ab" : Str).cps.toList.all fun x => decide (32 ≤ x) && (decide (x ≤ 126) && !decide (x = 37))) = true := by decide +kernel
  intro x hx
  have := List.all_eq_true.mp h x hx
  simp only [Bool.and_eq_true, decide_eq_true_eq, Bool.not_eq_true', decide_eq_false_iff_not] at this
  exact ⟨this.1, this.2.1, this.2.2⟩
theorem pure_l_text (h : sp_l_text K vs H Q E) : t_l_text K { nx := fun _ H' => Q .non H', rt := Q } (start N_l_text vs) H := by
  obtain ⟨c, D, ns, t, size, rfl, dk, s0, s1, ht, k⟩ := h
  refine ⟨_, rfl, c, D, ns, t, 2, rfl, dk, by omega, by decide, by decide, fun v H1 v0 v1 d1 fr1 => ⟨rfl, _, rfl, ite2 (fun _ => ?_) (fun _ => ?_)⟩⟩
  · exact text_rest d1 s0 s1 (by omega) (by decide +kernel) (by decide +kernel) ab_ok fun z H2 o kp d2 => k z H2 o ((Kp.fr fr1).trans kp) (d2.le (by omega))
  · exact text_rest d1 s0 s1 (by omega) (by decide +kernel) (by decide +kernel) signs_ok fun z H2 o kp d2 => k z H2 o ((Kp.fr fr1).trans kp) (d2.le (by omega))
theorem stock_rest {c D : Addr} {ns : List Int} {t : Nat} {size : Int} {z2 : Option V} (dk : Dk c D ns t H) (s0 : 0 ≤ size) (s1 : size ≤ 40) (ht : t + 299 < 1000000000)
    (k : ∀ (S : Addr) (st : List Str) (H' : Hp), StAt H' S st → H S = none → Kp D H H' → Dk c D ns (t + 299) H' → Q (.ref S) H') : t_l_stock_rest K { nx := fun _ H' => Q .non H', rt := Q } [some (.ref D), some (.int size), z2] H := by
  refine ⟨_, rfl, c, D, ns, t, 5, rfl, dk, by omega, by decide, by decide, fun n H1 n0 n1 d1 fr1 => ⟨_, _, rfl, rfl, _, rfl, by omega, by omega, fun L nL => ?_⟩⟩
  refine lc_deck (walk_range (lo := 0) (n := (1 + n).toNat)) yFn V.str OkS 50 nL d1 (by omega) ?_ ?_
  · intro i x H2 R hi kp d2 r
    refine ⟨rfl, ⟨_, rfl, _, rfl, c, D, ns, _, size, rfl, d2, s0, s1, by omega, fun z H3 o kp3 d3 => r z H3 o kp3 d3⟩⟩
  · intro ys H2 hl hp kp d2 hL
    exact k L ys H2 ⟨hL, by omega, by omega, hp⟩ ((Kp.fr fr1).free nL (d1.neD nL)) ((Kp.fr fr1).trans kp) (d2.le (by omega))
theorem pure_l_stock (h : sp_l_stock K vs H Q E) : t_l_stock K { nx := fun _ H' => Q .non H', rt := Q } (start N_l_stock vs) H := by
  obtain ⟨c, D, ns, t, rfl, dk, ht, k⟩ := h
  refine ⟨_, rfl, c, D, ns, t, 6, rfl, dk, by omega, by decide, by decide, fun v H1 v0 v1 d1 fr1 => ⟨rfl, _, rfl, ite2 (fun _ => ?_) (fun _ => ?_)⟩⟩
  · exact stock_rest d1 (by decide) (by decide) (by omega) fun S st H2 h n kp d2 => k S st H2 h ((Kp.fr fr1).free n (d1.neD n)) ((Kp.fr fr1).trans kp) (d2.le (by omega))
  · exact stock_rest d1 (by decide) (by decide) (by omega) fun S st H2 h n kp d2 => k S st H2 h ((Kp.fr fr1).free n (d1.neD n)) ((Kp.fr fr1).trans kp) (d2.le (by omega))
/-- stock[draw(deck, len(stock))] -/
theorem stock_draw {c D S : Addr} {ns : List Int} {t : Nat} {st : List Str} {i j : Nat} {σ : L2.St} {R : VK} (eD : σ[i]? = some (some (.ref D))) (eS : σ[j]? = some (some (.ref S))) (dk : Dk c D ns t H) (ht : t < 1000000000) (sa : StAt H S st) (nSD : S ≠ D)
    (r : ∀ y H', y ∈ st → Kp D H H' → Dk c D ns (t + 1) H' → R (.str y) H') : tOp (rIx K) (tVar j) (tCall (sp_l_draw K) [] E0 (tCons (tVar i) (tCons (tCB (fLen K) (tCons (tVar j) tNil)) tNil))) σ H R := by
  refine ⟨_, eS, _, eD, _, eS, lenL sa.1 ⟨c, D, ns, _, _, rfl, dk, ht, ?_, ?_, fun v H3 v0 v1 d3 fr3 => ?_⟩⟩
  · rw [List.length_map]
    have := sa.2.1
    omega
  · rw [List.length_map]
    have := sa.2.2.1
    exact small100 (by omega)
  · obtain ⟨q, rfl⟩ := Int.eq_ofNat_of_zero_le v0
    rw [List.length_map] at v1
    have hq : q < st.length := by omega
    exact ixL (by rw [fr3 _ nSD]; exact sa.1) (atI_nat (by rw [List.getElem?_map, List.getElem?_eq_getElem hq]; rfl)) (r _ _ (List.getElem_mem hq) (.fr fr3) d3)
theorem pure_l_lines (h : sp_l_lines K vs H Q E) : t_l_lines K { nx := fun _ H' => Q .non H', rt := Q } (start N_l_lines vs) H := by
  obtain ⟨c, D, S, ns, t, st, most, rfl, dk, sa, nSD, m0, m1, ht, k⟩ := h
  refine ⟨_, rfl, _, rfl, _, _, rfl, rfl, c, D, ns, t, most + 1, rfl, dk, by omega, by omega, small100 (by omega), fun n H1 n0 n1 d1 fr1 => ⟨_, rfl, by omega, by omega, fun L nL => ?_⟩⟩
  have sa1 := sa.kp (.fr fr1) nSD
  refine lc_deck (walk_range (lo := 0) (n := n.toNat)) yFn V.str (fun z => z ∈ st) 1 nL d1 (by omega) ?_ ?_
  · intro i x H2 R hi kp d2 r
    exact ⟨rfl, stock_draw (i := 0) (j := 1) rfl rfl d2 (by omega) (sa1.kp kp nSD) nSD r⟩
  · intro ys H2 hl hp kp d2 hL
    refine ⟨L, _, rfl, .inl ⟨sqL hL, fun r nr => k r ys _ updS hp (by omega) (((Kp.fr fr1).trans kp).trans (.new nr)) ((d2.le (by omega)).upd (d2.neC nr) (d2.neD nr))⟩⟩
theorem pure_l_most (h : sp_l_most K vs H Q E) : t_l_most K { nx := fun _ H' => Q .non H', rt := Q } (start N_l_most vs) H := by
  obtain ⟨c, D, ns, t, rfl, dk, ht, k⟩ := h
  refine ⟨_, rfl, c, D, ns, t, 8, rfl, dk, by omega, by decide, by decide, fun v H1 v0 v1 d1 fr1 => ⟨rfl, _, rfl, ite2 (fun _ => ?_) (fun _ => ?_)⟩⟩
  · exact k 40 H1 (by decide) (by decide) (.fr fr1) d1
  · exact k 9 H1 (by decide) (by decide) (.fr fr1) d1
/-- the state of the maker of scripts -/
structure SS (H0 : Hp) (c D L B S : Addr) (ns : List Int) (t : Nat) (bs st : List Str) (as : List Addr) (ps : List Pc) (H : Hp) : Prop where
  dk : Dk c D ns t H
  keep : Kp D H0 H
  hl : H L = some (.lst (as.map V.ref))
  pr : PsAt H as ps
  ok : ∀ p ∈ ps, p.ok
  fit : ∀ p ∈ ps, p.fits bs.length
  sub : ∀ p ∈ ps, ∀ rs, p = .put rs → ∀ z ∈ rs, z ∈ st
  nL : H0 L = none
  d0 : ∃ t0, Dk c D ns t0 H0
  hB : RwAt H0 B bs
  sa : StAt H0 S st
  nS : S ≠ D
section
variable {H0 H H' : Hp} {c D L B S q : Addr} {ns : List Int} {t t' : Nat} {bs st : List Str} {as : List Addr} {ps : List Pc} {o : HO}
theorem SS.nLD (s : SS H0 c D L B S ns t bs st as ps H) : L ≠ D := s.d0.choose_spec.neD s.nL
theorem SS.nLC (s : SS H0 c D L B S ns t bs st as ps H) : L ≠ c := s.d0.choose_spec.neC s.nL
theorem SS.move (s : SS H0 c D L B S ns t bs st as ps H) (k : Kp D H H') (d : Dk c D ns t' H') : SS H0 c D L B S ns t' bs st as ps H' :=
  ⟨d, s.keep.trans k, k _ _ s.hl s.nLD, s.pr.mono (k.tm s.dk), s.ok, s.fit, s.sub, s.nL, s.d0, s.hB, s.sa, s.nS⟩
theorem SS.baseAt (s : SS H0 c D L B S ns t bs st as ps H) : RwAt H B bs := s.keep.tup s.d0.choose_spec _ _ s.hB
theorem SS.stAt (s : SS H0 c D L B S ns t bs st as ps H) : StAt H S st := s.sa.kp s.keep s.nS
theorem SS.add (s : SS H0 c D L B S ns t bs st as ps H) {T : Addr} {p : Pc} (hT : PcAt H T p) (ok : p.ok) (fit : p.fits bs.length) (sub : ∀ rs, p = .put rs → ∀ z ∈ rs, z ∈ st) : SS H0 c D L B S ns t bs st (as ++ [T]) (ps ++ [p]) (upd H L (.lst (as.map V.ref ++ [.ref T]))) := by
  have tm : TM H (upd H L (.lst (as.map V.ref ++ [.ref T]))) := fun a xs h => updN (ne_of h s.hl (by intro z; cases z)) h
  refine ⟨s.dk.upd s.nLC s.nLD, fun b u e n => updN (ne_of_none e s.nL) (s.keep b u e n), by rw [updS, List.map_append]; rfl, (s.pr.snoc hT).mono tm, fun q hq => ?_, fun q hq => ?_, fun q hq => ?_, s.nL, s.d0, s.hB, s.sa, s.nS⟩
  · rcases List.mem_append.mp hq with h | h
    · exact s.ok q h
    · cases List.mem_singleton.mp h
      exact ok
  · rcases List.mem_append.mp hq with h | h
    · exact s.fit q h
    · cases List.mem_singleton.mp h
      exact fit
  · rcases List.mem_append.mp hq with h | h
    · exact s.sub q h
    · cases List.mem_singleton.mp h
      exact sub
end
theorem total_snoc (ps : List Pc) (p : Pc) : total (ps ++ [p]) = total ps + p.n := by
  unfold total
  rw [List.map_append, List.sum_append]
  show _ + (p.n + 0) = _
  omega
theorem min2_eq {i j : Int} : (if j < i then j else i) ≤ i ∧ (if j < i then j else i) ≤ j := by
  by_cases h : j < i
  · rw [if_pos h]; omega
  · rw [if_neg h]; omega
theorem min2_pos {i j : Int} (h1 : 0 < i) (h2 : 0 < j) : 0 < (if j < i then j else i) := by
  by_cases h : j < i
  · rw [if_pos h]; exact h2
  · rw [if_neg h]; exact h1
def SsW (H0 : Hp) (c D L B S : Addr) (ns : List Int) (t : Nat) (bs st : List Str) (most m0 : Int) (σ : L2.St) (H' : Hp) : Prop := ∃ (as : List Addr) (ps : List Pc) (room : Int) (z6 z7 z8 : Option V),
  σ = [some (.ref D), some (.ref B), some (.ref S), some (.int most), some (.ref L), some (.int room), z6, z7, z8] ∧ 0 ≤ room ∧ (total ps : Int) + room = m0 ∧ SS H0 c D L B S ns (t + 6 * total ps) bs st as ps H'
theorem pure_l_script (h : sp_l_script K vs H Q E) : t_l_script K { nx := fun _ H' => Q .non H', rt := Q } (start N_l_script vs) H := by
  obtain ⟨c, D, B, S, ns, t, bs, st, most, rfl, dk, hB, hbl, sa, nSD, m0, m1, ht, k⟩ := h
  refine ⟨Nat.zero_le _, fun L nL => ?_⟩
  have dL := dk.upd (o := .lst []) (dk.neC nL) (dk.neD nL)
  refine ⟨_, rfl, _, rfl, _, _, rfl, rfl, c, D, ns, t, most + 1, rfl, dL, by omega, by omega, small100 (by omega), fun n H1 n0 n1 d1 fr1 => ?_⟩
  have nLD : L ≠ D := dk.neD nL
  have k1 : Kp D H H1 := (Kp.new nL).trans (.fr fr1)
  have s1 : SS H c D L B S ns (t + 1 + 6 * 0) bs st [] [] H1 := ⟨d1, k1, by rw [fr1 _ nLD]; exact updS, .nil, (fun _ h => by cases h), (fun _ h => by cases h), (fun _ h => by cases h), nL, ⟨t, dk⟩, hB, sa, nSD⟩
  show tSeq (tWhile _ (t_l_script_turn K)) _ _ [some (.ref D), some (.ref B), some (.ref S), some (.int most), some (.ref L), some (.int n), none, none, none] H1
  refine while_by (SsW H c D L B S ns (t + 1) bs st most n) (fun σ _ => slotN 5 σ) ⟨[], [], n, none, none, none, rfl, n0, by show ((0 : Nat) : Int) + n = n; omega, s1⟩ ?_ (fun σ H Q Q' f h => by
    obtain ⟨v, e, i, j, e1, e2, b, e3, q⟩ := h
    exact ⟨v, e, i, j, e1, e2, b, e3, f _ _ q⟩)
  rintro σ H2 ⟨as, ps, room, z6, z7, z8, rfl, r0, rt, s⟩
  refine ⟨_, rfl, _, _, rfl, rfl, _, rfl, ite2 (fun e => ?_) (fun e => ?_)⟩
  · have hroom : 0 < room := of_decide_eq_true e
    have tot : (total ps : Int) ≤ 40 := by omega
    have nl : as.length ≤ 40 := by
      rw [s.pr.1]
      have := len_le_total s.ok
      omega
    -- the end of a turn
    have fin : ∀ (T : Addr) (p : Pc) (m' : Int) (y6 y8 : Option V) (t' : Nat) (H3 : Hp) (D1 D2 : Ends), (∀ σ' H', SsW H c D L B S ns (t + 1) bs st most n σ' H' ∧ slotN 5 σ' < room.toNat → D1.nx σ' H') → (∀ σ' H', t_l_script_end K D1 σ' H' → D2.nx σ' H') → m' = (p.n : Int) → t' ≤ t + 1 + 6 * total ps + 6 → SS H c D L B S ns t' bs st as ps H3 → PcAt H3 T p → p.ok → p.fits bs.length → (∀ rs, p = .put rs → ∀ z ∈ rs, z ∈ st) → (p.n : Int) ≤ room →
        rAppend (.ref L) [.ref T] H3 fun _ H4 => D2.nx [some (.ref D), some (.ref B), some (.ref S), some (.int most), some (.ref L), some (.int room), y6, some (.int m'), y8] H4 := by
      intro T p m' y6 y8 t' H3 D1 D2 k1 k2 em ht' s3 hT ok fit sub hn
      subst em
      have p1 := Pc.one ok
      refine ⟨L, _, _, rfl, rfl, s3.hl, by rw [List.length_map]; exact Nat.lt_of_le_of_lt nl (by decide), k2 _ _ ?_⟩
      refine ⟨_, rfl, _, rfl, _, _, rfl, rfl, k1 _ _ ⟨⟨as ++ [T], ps ++ [p], room - (p.n : Int), _, _, _, rfl, by omega, by rw [total_snoc]; omega, ?_⟩, ?_⟩⟩
      · have s4 := s3.add hT ok fit sub
        refine s4.move (Kp.refl _ _) (s4.dk.le ?_)
        rw [total_snoc, Nat.mul_add]
        omega
      · show (room - (p.n : Int)).toNat < room.toNat
        omega
    have put : ∀ (y6 y7 y8 : Option V) (t' : Nat) (H3 : Hp) (D1 D2 : Ends), (∀ σ' H', SsW H c D L B S ns (t + 1) bs st most n σ' H' ∧ slotN 5 σ' < room.toNat → D1.nx σ' H') → (∀ σ' H', t_l_script_end K D1 σ' H' → D2.nx σ' H') → t' ≤ t + 1 + 6 * total ps + 1 → SS H c D L B S ns t' bs st as ps H3 → t_l_script_put K D2 [some (.ref D), some (.ref B), some (.ref S), some (.int most), some (.ref L), some (.int room), y6, y7, y8] H3 := by
      intro y6 y7 y8 t' H3 D1 D2 k1 k2 ht' s3
      have mp := min2_pos hroom (show (0 : Int) < 3 by decide)
      have ml := min2_eq (i := room) (j := 3)
      refine ⟨_, rfl, _, rfl, _, _, rfl, c, D, ns, t', _, rfl, s3.dk, by omega, mp, small100 (by omega), fun v H4 v0 v1 d4 fr4 => ⟨_, _, rfl, rfl, ?_⟩⟩
      have s4 := s3.move (.fr fr4) d4
      refine ⟨_, rfl, .inl ⟨rfl, _, sqL s4.hl⟩, _, rfl, _, rfl, by omega, by omega, fun G nG => ?_⟩
      refine lc_deck (walk_range (lo := 0) (n := (1 + v).toNat)) yFn V.str (fun z => z ∈ st) 1 nG d4 (by omega) ?_ ?_
      · intro i x H5 R hi kp d5 r
        exact ⟨rfl, stock_draw (i := 0) (j := 2) rfl rfl d5 (by omega) (s4.move kp d5).stAt nSD r⟩
      · intro ys H5 hl hp kp d5 hG
        refine ⟨G, _, rfl, .inl ⟨sqL hG, fun r nr => ⟨by show (2 : Nat) ≤ sizeLine; decide, fun T nT => ?_⟩⟩⟩
        have s5 := s4.move kp d5
        have s6 := s5.move (Kp.new (o := .tup (ys.map V.str)) nr) (s5.dk.upd (s5.dk.neC nr) (s5.dk.neD nr))
        have s7 := s6.move (Kp.new (o := .tup [.str "put", .ref r]) nT) (s6.dk.upd (s6.dk.neC nT) (s6.dk.neD nT))
        have nrT : r ≠ T := fun e => by rw [← e, updS] at nT; cases nT
        have en : ((Pc.put ys).n : Int) = 1 + v := by
          show ((ys.length : Nat) : Int) = 1 + v
          omega
        exact fin T (.put ys) (1 + v) y6 _ _ _ D1 D2 k1 k2 en.symm (by omega) s7 ⟨r, updS, updN nrT updS⟩ ⟨fun e => by rw [e] at hl; simp at hl; omega, fun z hz => s7.stAt.2.2.2 z (hp z hz)⟩ True.intro (fun rs e z hz => by cases e; exact hp z hz) (by omega)
    refine ⟨_, rfl, lenT s.baseAt ⟨_, _, rfl, rfl, _, rfl, ite2 (fun e2 => ?_) (fun e2 => iteF (put z6 z7 z8 _ _ _ _ (fun _ _ z => z) (fun _ _ z => z) (by omega) s))⟩⟩
    have hb0 : 0 < bs.length := by
      have q : (0 : Int) < ((bs.map V.str).length : Int) := of_decide_eq_true e2
      rw [List.length_map] at q
      omega
    refine ⟨_, rfl, c, D, ns, _, 3, rfl, s.dk, by omega, by decide, by decide, fun v H3 v0 v1 d3 fr3 => ⟨_, _, rfl, rfl, _, rfl, ite2 (fun e3 => ?_) (fun e3 => put z6 z7 z8 _ _ _ _ (fun _ _ z => z) (fun _ _ z => z) (by omega) (s.move (.fr fr3) d3))⟩⟩
    have s3 := s.move (.fr fr3) d3
    refine ⟨_, rfl, _, rfl, lenT s3.baseAt ⟨c, D, ns, _, _, rfl, s3.dk, by omega, by rw [List.length_map]; omega, by rw [List.length_map]; exact small100 (by omega), fun b H4 b0 b1 d4 fr4 => ?_⟩⟩
    rw [List.length_map] at b1
    obtain ⟨b, rfl⟩ := Int.eq_ofNat_of_zero_le b0
    have s4 := s3.move (.fr fr4) d4
    have mp := min2_pos hroom (show (0 : Int) < ((bs.map V.str).length : Int) - (b : Int) by rw [List.length_map]; omega)
    have ml := min2_eq (i := room) (j := ((bs.map V.str).length : Int) - (b : Int))
    refine ⟨_, rfl, _, rfl, _, rfl, lenT s4.baseAt ⟨_, rfl, _, _, rfl, rfl, _, _, rfl, c, D, ns, _, _, rfl, s4.dk, by omega, mp, small100 (by omega), fun v H5 v0 v1 d5 fr5 => ⟨_, _, rfl, rfl, ?_⟩⟩⟩
    have s5 := s4.move (.fr fr5) d5
    obtain ⟨v, rfl⟩ := Int.eq_ofNat_of_zero_le v0
    have hml : (bs.map V.str).length = bs.length := List.length_map ..
    have ev : (1 + (v : Int)) = ((1 + v : Nat) : Int) := by omega
    refine ⟨_, rfl, .inl ⟨rfl, _, sqL s5.hl⟩, _, rfl, _, rfl, by show (3 : Nat) ≤ sizeLine; decide, fun T nT => ?_⟩
    have s6 := s5.move (Kp.new (o := .tup [.str "take", .int (b : Int), .int (1 + (v : Int))]) nT) (s5.dk.upd (s5.dk.neC nT) (s5.dk.neD nT))
    exact fin T (.take b (1 + v)) (1 + (v : Int)) (some (.int (b : Int))) z8 _ _ _ _ (fun _ _ z => z) (fun _ _ z => z) ev (by omega) s6 (by show upd _ _ _ _ = some (.tup [.str "take", .int (b : Int), .int ((1 + v : Nat) : Int)]); rw [updS, ← ev]) (show 1 ≤ 1 + v by omega) (show b + (1 + v) ≤ bs.length by omega) (fun rs e => by cases e) (show ((1 + v : Nat) : Int) ≤ room by omega)
  · have hroom : room = 0 := by
      have : ¬ 0 < room := fun q => e (decide_eq_true q)
      omega
    subst hroom
    refine ⟨_, rfl, L, _, rfl, .inl ⟨sqL s.hl, fun a na => ?_⟩⟩
    have kk : Kp D H2 (upd H2 a (.tup (as.map V.ref))) := .new na
    refine k a ps _ ⟨as, updS, s.pr.mono (kk.tm s.dk)⟩ ⟨s.ok, by omega⟩ s.fit (by omega) s.sub (s.keep.trans kk) ((s.dk.le (by omega)).upd (s.dk.neC na) (s.dk.neD na))
end
end Fw

set_option Elab.async false
set_option linter.all false
set_option maxRecDepth 100000
set_option maxHeartbeats 4000000
namespace Fw
open PySem L2 RZ RT
/-! ### scripts cut and joined -/
def Pc.cut (l h : Nat) : Pc → Pc
  | .take b _ => .take (b + l) (h - l)
  | .put rs => .put ((rs.drop l).take (h - l))
def Pc.from (l : Nat) (p : Pc) : Pc := p.cut l p.n
def Pc.to (h : Nat) (p : Pc) : Pc := p.cut 0 h
def dr : Nat → List Pc → List Pc
  | _, [] => []
  | n, p :: ps => if p.n ≤ n then dr (n - p.n) ps else p.from n :: ps
def tk : Nat → List Pc → List Pc
  | _, [] => []
  | n, p :: ps => if p.n ≤ n then p :: tk (n - p.n) ps else if n = 0 then [] else [p.to n]
def sub (f : List Pc) : Pc → List Pc
  | .take b m => tk m (dr b f)
  | .put rs => [.put rs]
def join (f : List Pc) (ps : List Pc) : List Pc := (ps.map (sub f)).flatten
def Pos (ps : List Pc) : Prop := ∀ p ∈ ps, 1 ≤ p.n
theorem Pos.tail {p : Pc} {ps : List Pc} (h : Pos (p :: ps)) : Pos ps := fun q hq => h q (List.mem_cons_of_mem _ hq)
theorem Pos.head {p : Pc} {ps : List Pc} (h : Pos (p :: ps)) : 1 ≤ p.n := h p (List.mem_cons_self ..)
theorem Pos.of_ok {ps : List Pc} (h : ∀ p ∈ ps, p.ok) : Pos ps := fun p hp => Pc.one (h p hp)
theorem cut_n {p : Pc} {l h : Nat} (q : h ≤ p.n) : (p.cut l h).n = h - l := by
  cases p with
  | take b m => rfl
  | put rs =>
    show ((rs.drop l).take (h - l)).length = h - l
    rw [List.length_take, List.length_drop]
    have : h ≤ rs.length := q
    omega
theorem from_n {p : Pc} {l : Nat} : (p.from l).n = p.n - l := cut_n (Nat.le_refl _)
theorem to_n {p : Pc} {h : Nat} (q : h ≤ p.n) : (p.to h).n = h := by unfold Pc.to; rw [cut_n q]; rfl
theorem from_zero (p : Pc) : p.from 0 = p := by
  cases p with
  | take b m => rfl
  | put rs =>
    show Pc.put ((rs.drop 0).take (rs.length - 0)) = _
    rw [List.drop_zero, Nat.sub_zero, List.take_length]
theorem from_from (p : Pc) (a b : Nat) : (p.from a).from b = p.from (a + b) := by
  cases p with
  | take c m =>
    show Pc.take (c + a + b) (m - a - b) = Pc.take (c + (a + b)) (m - (a + b))
    rw [Nat.add_assoc, Nat.sub_sub]
  | put rs =>
    have e : ∀ (xs : List Str) (l : Nat), (xs.drop l).take (xs.length - l) = xs.drop l := fun xs l => List.take_of_length_le (by rw [List.length_drop]; exact Nat.le_refl _)
    show Pc.put ((((rs.drop a).take (rs.length - a)).drop b).take (((rs.drop a).take (rs.length - a)).length - b)) = Pc.put ((rs.drop (a + b)).take (rs.length - (a + b)))
    rw [e, e, e, List.drop_drop]
theorem to_to (p : Pc) {m n : Nat} (h : n ≤ m) : (p.to m).to n = p.to n := by
  cases p with
  | take c k => rfl
  | put rs =>
    show Pc.put ((((rs.drop 0).take (m - 0)).drop 0).take (n - 0)) = Pc.put ((rs.drop 0).take (n - 0))
    simp only [List.drop_zero, Nat.sub_zero]
    rw [List.take_take, Nat.min_eq_left h]
theorem from_to (p : Pc) {m n : Nat} (h : n ≤ m) (h2 : m ≤ p.n) : (p.to m).from n = (p.from n).to (m - n) := by
  cases p with
  | take c k =>
    show Pc.take (c + 0 + n) (m - 0 - n) = Pc.take (c + n + 0) (m - n - 0)
    simp
  | put rs =>
    have h2 : m ≤ rs.length := h2
    show Pc.put ((((rs.drop 0).take (m - 0)).drop n).take (((rs.drop 0).take (m - 0)).length - n)) = Pc.put ((((rs.drop n).take (rs.length - n)).drop 0).take (m - n - 0))
    simp only [List.drop_zero, Nat.sub_zero, List.length_take]
    rw [Nat.min_eq_left h2, List.drop_take, List.take_take, List.take_take, Nat.min_self, Nat.min_eq_left (by omega)]
theorem cut_eq (p : Pc) {l h : Nat} (h1 : l ≤ h) (h2 : h ≤ p.n) : p.cut l h = (p.from l).to (h - l) := by
  cases p with
  | take c k =>
    show Pc.take (c + l) (h - l) = Pc.take (c + l + 0) (h - l - 0)
    simp
  | put rs =>
    have h2 : h ≤ rs.length := h2
    show Pc.put ((rs.drop l).take (h - l)) = Pc.put ((((rs.drop l).take (rs.length - l)).drop 0).take (h - l - 0))
    simp only [List.drop_zero, Nat.sub_zero]
    rw [List.take_take, Nat.min_eq_left (by omega)]
theorem to_all (p : Pc) : p.to p.n = p := from_zero p
theorem tk_zero {ps : List Pc} (h : Pos ps) : tk 0 ps = [] := by
  cases ps with
  | nil => rfl
  | cons p ps =>
    have := h.head
    show (if p.n ≤ 0 then _ else if 0 = 0 then [] else _) = _
    rw [if_neg (by omega), if_pos rfl]
theorem dr_zero {ps : List Pc} (h : Pos ps) : dr 0 ps = ps := by
  cases ps with
  | nil => rfl
  | cons p ps =>
    have := h.head
    show (if p.n ≤ 0 then _ else _) = _
    rw [if_neg (by omega), from_zero]
theorem tk_cons_le {n : Nat} {p : Pc} {ps : List Pc} (h : p.n ≤ n) : tk n (p :: ps) = p :: tk (n - p.n) ps := if_pos h
theorem tk_cons_gt {n : Nat} {p : Pc} {ps : List Pc} (h : ¬ p.n ≤ n) (h0 : n ≠ 0) : tk n (p :: ps) = [p.to n] := (if_neg h).trans (if_neg h0)
theorem tk_cons_z {p : Pc} {ps : List Pc} (h : ¬ p.n ≤ 0) : tk 0 (p :: ps) = [] := (if_neg h).trans (if_pos rfl)
theorem dr_cons_le {n : Nat} {p : Pc} {ps : List Pc} (h : p.n ≤ n) : dr n (p :: ps) = dr (n - p.n) ps := if_pos h
theorem dr_cons_gt {n : Nat} {p : Pc} {ps : List Pc} (h : ¬ p.n ≤ n) : dr n (p :: ps) = p.from n :: ps := if_neg h
theorem total_cons (p : Pc) (ps : List Pc) : total (p :: ps) = p.n + total ps := rfl
theorem total_append (xs ys : List Pc) : total (xs ++ ys) = total xs + total ys := by
  unfold total
  rw [List.map_append, List.sum_append]
theorem tk_append_le {ys : List Pc} : ∀ {n : Nat} {xs : List Pc}, total xs ≤ n → tk n (xs ++ ys) = xs ++ tk (n - total xs) ys
  | n, [], _ => rfl
  | n, x :: xs, h => by
    rw [total_cons] at h
    rw [List.cons_append, tk_cons_le (by omega), tk_append_le (by omega), total_cons, List.cons_append, Nat.sub_sub]
theorem tk_append_gt {ys : List Pc} : ∀ {n : Nat} {xs : List Pc}, ¬ total xs ≤ n → tk n (xs ++ ys) = tk n xs
  | n, [], h => absurd (Nat.zero_le _) h
  | n, x :: xs, h => by
    rw [total_cons] at h
    rw [List.cons_append]
    by_cases q : x.n ≤ n
    · rw [tk_cons_le q, tk_cons_le q, tk_append_gt (by omega)]
    · by_cases z : n = 0
      · subst z
        rw [tk_cons_z q, tk_cons_z q]
      · rw [tk_cons_gt q z, tk_cons_gt q z]
theorem dr_append_le {ys : List Pc} : ∀ {n : Nat} {xs : List Pc}, total xs ≤ n → dr n (xs ++ ys) = dr (n - total xs) ys
  | n, [], _ => rfl
  | n, x :: xs, h => by
    rw [total_cons] at h
    rw [List.cons_append, dr_cons_le (by omega), dr_append_le (by omega), total_cons, Nat.sub_sub]
theorem dr_append_gt {ys : List Pc} : ∀ {n : Nat} {xs : List Pc}, ¬ total xs ≤ n → dr n (xs ++ ys) = dr n xs ++ ys
  | n, [], h => absurd (Nat.zero_le _) h
  | n, x :: xs, h => by
    rw [total_cons] at h
    rw [List.cons_append]
    by_cases q : x.n ≤ n
    · rw [dr_cons_le q, dr_cons_le q, dr_append_gt (by omega)]
    · rw [dr_cons_gt q, dr_cons_gt q, List.cons_append]
theorem tk_tk : ∀ {m n : Nat} {xs : List Pc}, n ≤ m → tk n (tk m xs) = tk n xs
  | m, n, [], _ => rfl
  | m, n, x :: xs, h => by
    by_cases q : x.n ≤ n
    · rw [tk_cons_le (by omega), tk_cons_le q, tk_cons_le q, tk_tk (by omega)]
    · by_cases q2 : x.n ≤ m
      · rw [tk_cons_le q2]
        by_cases z : n = 0
        · subst z
          rw [tk_cons_z q, tk_cons_z q]
        · rw [tk_cons_gt q z, tk_cons_gt q z]
      · by_cases zm : m = 0
        · subst zm
          have : n = 0 := by omega
          subst this
          rw [tk_cons_z q]
          rfl
        · rw [tk_cons_gt q2 zm]
          have e : (x.to m).n = m := to_n (by omega)
          by_cases e2 : n = m
          · subst e2
            rw [tk_cons_le (by omega), tk_cons_gt q zm]
            rfl
          · by_cases z : n = 0
            · subst z
              rw [tk_cons_z (by omega), tk_cons_z q]
            · rw [tk_cons_gt (by omega) z, tk_cons_gt q z, to_to x h]
theorem dr_tk : ∀ {m n : Nat} {xs : List Pc}, n < m → dr n (tk m xs) = tk (m - n) (dr n xs)
  | m, n, [], _ => rfl
  | m, n, x :: xs, h => by
    by_cases q : x.n ≤ n
    · rw [tk_cons_le (by omega), dr_cons_le q, dr_cons_le q, dr_tk (by omega)]
      congr 1
      omega
    · by_cases q2 : x.n ≤ m
      · rw [tk_cons_le q2, dr_cons_gt q, dr_cons_gt q, tk_cons_le (by rw [from_n]; omega), from_n]
        congr 2
        omega
      · have e : (x.to m).n = m := to_n (by omega)
        rw [tk_cons_gt q2 (by omega), dr_cons_gt (by omega), dr_cons_gt q, tk_cons_gt (by rw [from_n]; omega) (by omega), from_to x (by omega) (by omega)]
theorem dr_dr : ∀ {a b : Nat} {xs : List Pc}, dr b (dr a xs) = dr (a + b) xs
  | a, b, [] => rfl
  | a, b, x :: xs => by
    by_cases q : x.n ≤ a
    · rw [dr_cons_le q, dr_cons_le (by omega), dr_dr]
      congr 1
      omega
    · rw [dr_cons_gt q]
      by_cases q2 : x.n ≤ a + b
      · rw [dr_cons_le (by rw [from_n]; omega), dr_cons_le q2, from_n]
        congr 1
        omega
      · rw [dr_cons_gt (by rw [from_n]; omega), dr_cons_gt q2, from_from]
theorem total_dr : ∀ {n : Nat} {xs : List Pc}, total (dr n xs) = total xs - n
  | n, [] => (Nat.zero_sub _).symm
  | n, x :: xs => by
    by_cases q : x.n ≤ n
    · rw [dr_cons_le q, total_dr, total_cons]; omega
    · rw [dr_cons_gt q, total_cons, total_cons, from_n]; omega
theorem total_tk : ∀ {n : Nat} {xs : List Pc}, n ≤ total xs → total (tk n xs) = n
  | n, [], h => by
    have e : total ([] : List Pc) = 0 := rfl
    show total [] = n
    omega
  | n, x :: xs, h => by
    rw [total_cons] at h
    by_cases q : x.n ≤ n
    · rw [tk_cons_le q, total_cons, total_tk (by omega)]; omega
    · by_cases z : n = 0
      · subst z
        rw [tk_cons_z q]
        rfl
      · rw [tk_cons_gt q z, total_cons, to_n (by omega)]
        rfl
/-- what all pieces keep, cut pieces too -/
theorem keep_dr {R : Pc → Prop} (hc : ∀ (p : Pc) (l h : Nat), l < h → h ≤ p.n → R p → R (p.cut l h)) : ∀ {n : Nat} {xs : List Pc}, (∀ p ∈ xs, R p) → ∀ p ∈ dr n xs, R p
  | n, [], h, p, hp => h p hp
  | n, x :: xs, h, p, hp => by
    by_cases q : x.n ≤ n
    · rw [dr_cons_le q] at hp
      exact keep_dr hc (fun y hy => h y (List.mem_cons_of_mem _ hy)) p hp
    · rw [dr_cons_gt q] at hp
      rcases List.mem_cons.mp hp with e | hp
      · rw [e]
        exact hc x n x.n (by omega) (Nat.le_refl _) (h x (List.mem_cons_self ..))
      · exact h p (List.mem_cons_of_mem _ hp)
theorem keep_tk {R : Pc → Prop} (hc : ∀ (p : Pc) (l h : Nat), l < h → h ≤ p.n → R p → R (p.cut l h)) : ∀ {n : Nat} {xs : List Pc}, (∀ p ∈ xs, R p) → ∀ p ∈ tk n xs, R p
  | n, [], h, p, hp => h p hp
  | n, x :: xs, h, p, hp => by
    by_cases q : x.n ≤ n
    · rw [tk_cons_le q] at hp
      rcases List.mem_cons.mp hp with e | hp
      · rw [e]
        exact h x (List.mem_cons_self ..)
      · exact keep_tk hc (fun y hy => h y (List.mem_cons_of_mem _ hy)) p hp
    · by_cases z : n = 0
      · subst z
        rw [tk_cons_z q] at hp
        cases hp
      · rw [tk_cons_gt q z] at hp
        rw [List.mem_singleton.mp hp]
        exact hc x 0 n (by omega) (by omega) (h x (List.mem_cons_self ..))
theorem keep_join {R : Pc → Prop} (hc : ∀ (p : Pc) (l h : Nat), l < h → h ≤ p.n → R p → R (p.cut l h)) {f ps : List Pc} (hf : ∀ p ∈ f, R p) (hp : ∀ p ∈ ps, ∀ rs, p = .put rs → R p) : ∀ p ∈ join f ps, R p := by
  intro p h
  obtain ⟨l, hl, hq⟩ := List.mem_flatten.mp h
  obtain ⟨x, hx, rfl⟩ := List.mem_map.mp hl
  cases x with
  | take b m => exact keep_tk hc (keep_dr hc hf) p hq
  | put rs =>
    rw [List.mem_singleton.mp hq]
    exact hp _ hx rs rfl
theorem cut_ok (p : Pc) (l h : Nat) (q : l < h) (q2 : h ≤ p.n) (o : p.ok) : (p.cut l h).ok := by
  cases p with
  | take b m => show 1 ≤ h - l; omega
  | put rs =>
    have q2 : h ≤ rs.length := q2
    refine ⟨fun e => ?_, fun z hz => o.2 z (List.mem_of_mem_drop (List.mem_of_mem_take hz))⟩
    have := congrArg List.length e
    rw [List.length_take, List.length_drop] at this
    simp at this
    omega
theorem cut_fits {L : Nat} (p : Pc) (l h : Nat) (q : l < h) (q2 : h ≤ p.n) (o : p.fits L) : (p.cut l h).fits L := by
  cases p with
  | take b m =>
    have o : b + m ≤ L := o
    have q2 : h ≤ m := q2
    show b + l + (h - l) ≤ L
    omega
  | put rs => exact True.intro
theorem cut_pos (p : Pc) (l h : Nat) (q : l < h) (q2 : h ≤ p.n) (o : 1 ≤ p.n) : 1 ≤ (p.cut l h).n := by rw [cut_n q2]; omega
theorem join_cons (f : List Pc) (p : Pc) (ps : List Pc) : join f (p :: ps) = sub f p ++ join f ps := rfl
theorem total_sub {f : List Pc} {p : Pc} (h : p.fits (total f)) : total (sub f p) = p.n := by
  cases p with
  | take b m =>
    have h : b + m ≤ total f := h
    exact total_tk (by rw [total_dr]; omega)
  | put rs => rfl
theorem total_join {f : List Pc} : ∀ {ps : List Pc}, (∀ p ∈ ps, p.fits (total f)) → total (join f ps) = total ps
  | [], _ => rfl
  | p :: ps, h => by rw [join_cons, total_append, total_sub (h p (List.mem_cons_self ..)), total_join (fun q hq => h q (List.mem_cons_of_mem _ hq)), total_cons]
theorem tk_join {f : List Pc} (pf : Pos f) : ∀ {n : Nat} {ps : List Pc}, (∀ p ∈ ps, p.fits (total f)) → tk n (join f ps) = join f (tk n ps)
  | n, [], _ => rfl
  | n, p :: ps, h => by
    have hp := h p (List.mem_cons_self ..)
    have ht := total_sub hp
    rw [join_cons]
    by_cases q : p.n ≤ n
    · rw [tk_append_le (by omega), tk_cons_le q, join_cons, ht, tk_join pf fun q hq => h q (List.mem_cons_of_mem _ hq)]
    · rw [tk_append_gt (by omega)]
      by_cases z : n = 0
      · subst z
        rw [tk_cons_z q]
        refine tk_zero fun x hx => ?_
        cases p with
        | take b m => exact keep_tk cut_pos (keep_dr cut_pos pf) x hx
        | put rs =>
          rw [List.mem_singleton.mp hx]
          show 1 ≤ rs.length
          have q : ¬ rs.length ≤ 0 := q
          omega
      · rw [tk_cons_gt q z, join_cons]
        show _ = _ ++ []
        rw [List.append_nil]
        cases p with
        | take b m =>
          have q : ¬ m ≤ n := q
          show tk n (tk m (dr b f)) = tk (n - 0) (dr (b + 0) f)
          rw [tk_tk (by omega)]
          rfl
        | put rs =>
          show tk n [.put rs] = _
          rw [tk_cons_gt q z]
          rfl
theorem dr_join {f : List Pc} (pf : Pos f) : ∀ {n : Nat} {ps : List Pc}, (∀ p ∈ ps, p.fits (total f)) → dr n (join f ps) = join f (dr n ps)
  | n, [], _ => rfl
  | n, p :: ps, h => by
    have hp := h p (List.mem_cons_self ..)
    have ht := total_sub hp
    rw [join_cons]
    by_cases q : p.n ≤ n
    · rw [dr_append_le (by omega), dr_cons_le q, ht, dr_join pf fun q hq => h q (List.mem_cons_of_mem _ hq)]
    · rw [dr_append_gt (by omega), dr_cons_gt q, join_cons]
      congr 1
      cases p with
      | take b m =>
        have q : ¬ m ≤ n := q
        show dr n (tk m (dr b f)) = tk (m - n) (dr (b + n) f)
        rw [dr_tk (by omega), dr_dr]
      | put rs =>
        show dr n [.put rs] = _
        rw [dr_cons_gt q]
        rfl
theorem join_append (f xs ys : List Pc) : join f (xs ++ ys) = join f xs ++ join f ys := by
  unfold join
  rw [List.map_append, List.flatten_append]
theorem join_join {f g : List Pc} (pf : Pos f) (hg : ∀ p ∈ g, p.fits (total f)) : ∀ {ps : List Pc}, join (join f g) ps = join f (join g ps)
  | [] => rfl
  | p :: ps => by
    rw [join_cons, join_cons, join_append, join_join pf hg]
    congr 1
    cases p with
    | take b m =>
      show tk m (dr b (join f g)) = join f (tk m (dr b g))
      rw [dr_join pf hg, tk_join pf (keep_dr (fun p l h => cut_fits p l h) hg)]
    | put rs => rfl
theorem mk_cut {bs : List Str} {p : Pc} {l h : Nat} (q : l ≤ h) (q2 : h ≤ p.n) : (p.cut l h).mk bs = ((p.mk bs).drop l).take (h - l) := by
  cases p with
  | take b m =>
    have q2 : h ≤ m := q2
    show (bs.drop (b + l)).take (h - l) = (((bs.drop b).take m).drop l).take (h - l)
    rw [List.drop_take, List.drop_drop, List.take_take, Nat.min_eq_left (by omega)]
  | put rs => rfl
theorem makes_cons (bs : List Str) (p : Pc) (ps : List Pc) : makes bs (p :: ps) = p.mk bs ++ makes bs ps := rfl
theorem makes_append (bs : List Str) (xs ys : List Pc) : makes bs (xs ++ ys) = makes bs xs ++ makes bs ys := by
  unfold makes
  rw [List.map_append, List.flatten_append]
theorem makes_dr {bs : List Str} : ∀ {n : Nat} {xs : List Pc}, (∀ p ∈ xs, p.fits bs.length) → makes bs (dr n xs) = (makes bs xs).drop n
  | n, [], _ => by show [] = List.drop n []; rw [List.drop_nil]
  | n, x :: xs, h => by
    have hx := mk_len (h x (List.mem_cons_self ..))
    have ht : ∀ p ∈ xs, p.fits bs.length := fun p hp => h p (List.mem_cons_of_mem _ hp)
    rw [makes_cons]
    by_cases q : x.n ≤ n
    · rw [dr_cons_le q, makes_dr ht, List.drop_append, hx, List.drop_of_length_le (l := x.mk bs) (by omega), List.nil_append]
    · rw [dr_cons_gt q, makes_cons, List.drop_append, hx, show n - x.n = 0 by omega, List.drop_zero]
      congr 1
      unfold Pc.from
      rw [mk_cut (by omega) (Nat.le_refl _), List.take_of_length_le (by rw [List.length_drop]; omega)]
theorem makes_tk {bs : List Str} : ∀ {n : Nat} {xs : List Pc}, (∀ p ∈ xs, p.fits bs.length) → makes bs (tk n xs) = (makes bs xs).take n
  | n, [], _ => by show [] = List.take n []; rw [List.take_nil]
  | n, x :: xs, h => by
    have hx := mk_len (h x (List.mem_cons_self ..))
    have ht : ∀ p ∈ xs, p.fits bs.length := fun p hp => h p (List.mem_cons_of_mem _ hp)
    rw [makes_cons]
    by_cases q : x.n ≤ n
    · rw [tk_cons_le q, makes_cons, makes_tk ht, List.take_append, hx, List.take_of_length_le (l := x.mk bs) (by omega)]
    · rw [List.take_append, hx, show n - x.n = 0 by omega, List.take_zero, List.append_nil]
      by_cases z : n = 0
      · subst z
        rw [tk_cons_z q, List.take_zero]
        rfl
      · rw [tk_cons_gt q z, makes_cons]
        show (x.cut 0 n).mk bs ++ [] = _
        rw [List.append_nil, mk_cut (by omega) (by omega), List.drop_zero, Nat.sub_zero]
theorem makes_join {bs : List Str} {f : List Pc} (hf : ∀ p ∈ f, p.fits bs.length) : ∀ {ps : List Pc}, makes bs (join f ps) = makes (makes bs f) ps
  | [] => rfl
  | p :: ps => by
    rw [join_cons, makes_append, makes_cons, makes_join hf]
    congr 1
    cases p with
    | take b m =>
      show makes bs (tk m (dr b f)) = ((makes bs f).drop b).take m
      rw [makes_tk (keep_dr (fun p l h => cut_fits p l h) hf), makes_dr hf]
    | put rs =>
      show rs ++ [] = rs
      rw [List.append_nil]
/-- the join of two right scripts is a right script -/
theorem join_ok {f ps : List Pc} (hf : ScOk f) (hp : ScOk ps) (fit : ∀ p ∈ ps, p.fits (total f)) : ScOk (join f ps) :=
  ⟨keep_join (fun p l h => cut_ok p l h) hf.ok (fun p h _ _ => hp.ok p h), by rw [total_join fit]; exact hp.few⟩
theorem join_fits {f ps : List Pc} {L : Nat} (hf : ∀ p ∈ f, p.fits L) : ∀ p ∈ join f ps, p.fits L :=
  keep_join (fun p l h => cut_fits p l h) hf (fun p _ rs e => by rw [e]; exact True.intro)
/-! ### the loop of part_of -/
def po (b e : Nat) : Nat → List Pc → List Pc
  | _, [] => []
  | f, p :: ps => (if max b f < min e (f + p.n) then [p.cut (max b f - f) (min e (f + p.n) - f)] else []) ++ po b e (f + p.n) ps
theorem po_eq {b e : Nat} (hbe : b ≤ e) : ∀ {f : Nat} {ps : List Pc}, Pos ps → po b e f ps = tk (e - max b f) (dr (b - f) ps)
  | f, [], _ => rfl
  | f, p :: ps, h => by
    have p1 := h.head
    have ih := po_eq hbe (f := f + p.n) h.tail
    show _ ++ po b e (f + p.n) ps = _
    rw [ih]
    by_cases q : p.n ≤ b - f
    · rw [dr_cons_le q, if_neg (by omega), List.nil_append]
      congr 1
      · omega
      · congr 1
        omega
    · rw [dr_cons_gt q, show b - (f + p.n) = 0 by omega, dr_zero h.tail]
      have en : (p.from (b - f)).n = p.n - (b - f) := from_n
      by_cases q2 : f + p.n ≤ e
      · rw [tk_cons_le (by omega), if_pos (by omega), List.cons_append, List.nil_append]
        congr 1
        · rw [show min e (f + p.n) - f = p.n by omega, show max b f - f = b - f by omega]
          rfl
        · congr 1
          omega
      · rw [show e - max b (f + p.n) = 0 by omega, tk_zero h.tail, List.append_nil]
        by_cases q3 : e - max b f = 0
        · rw [q3, tk_cons_z (by omega), if_neg (by omega)]
        · rw [tk_cons_gt (by omega) q3, if_pos (by omega), cut_eq p (by omega) (by omega)]
          rw [show max b f - f = b - f by omega, show min e (f + p.n) - f - (b - f) = e - max b f by omega]
theorem part_eq {b m : Nat} {ps : List Pc} (h : Pos ps) : po b (b + m) 0 ps = tk m (dr b ps) := by
  rw [po_eq (by omega) h, show b + m - max b 0 = m by omega]
  rfl
end Fw

set_option Elab.async false
set_option linter.all false
set_option maxRecDepth 100000
set_option maxHeartbeats 4000000
namespace Fw
open PySem L2 RZ RT
/-! ### lists of addresses, and what stands there -/
def LsAt {α : Type} (R : Addr → α → Prop) (as : List Addr) (xs : List α) : Prop := as.length = xs.length ∧ ∀ (i : Nat) (a : Addr) (x : α), as[i]? = some a → xs[i]? = some x → R a x
section
variable {α : Type} {R R' : Addr → α → Prop} {as bs : List Addr} {xs ys : List α}
theorem LsAt.nil : LsAt R [] [] := ⟨rfl, fun i a p h => by cases h⟩
theorem LsAt.mono (h : LsAt R as xs) (m : ∀ a x, R a x → R' a x) : LsAt R' as xs := ⟨h.1, fun i a x h1 h2 => m _ _ (h.2 i a x h1 h2)⟩
theorem LsAt.append (h : LsAt R as xs) (h2 : LsAt R bs ys) : LsAt R (as ++ bs) (xs ++ ys) := by
  refine ⟨by rw [List.length_append, List.length_append, h.1, h2.1], fun i a m e1 e2 => ?_⟩
  by_cases hi : i < as.length
  · rw [List.getElem?_append_left hi] at e1
    rw [List.getElem?_append_left (by rw [← h.1]; exact hi)] at e2
    exact h.2 i a m e1 e2
  · rw [List.getElem?_append_right (by omega)] at e1
    rw [List.getElem?_append_right (by rw [← h.1]; omega), ← h.1] at e2
    exact h2.2 _ a m e1 e2
theorem LsAt.one {a : Addr} {x : α} (h : R a x) : LsAt R [a] [x] := ⟨rfl, fun i b y e1 e2 => by
  cases i with
  | zero => cases Option.some.inj e1; cases Option.some.inj e2; exact h
  | succ i => cases e1⟩
theorem LsAt.snoc {a : Addr} {x : α} (h : LsAt R as xs) (h2 : R a x) : LsAt R (as ++ [a]) (xs ++ [x]) := h.append (.one h2)
theorem LsAt.get {i : Nat} {a : Addr} (h : LsAt R as xs) (e : as[i]? = some a) : ∃ x, xs[i]? = some x ∧ R a x := by
  have hi : i < xs.length := by rw [← h.1]; exact (List.getElem?_eq_some_iff.mp e).1
  exact ⟨xs[i], List.getElem?_eq_getElem hi, h.2 i a _ e (List.getElem?_eq_getElem hi)⟩
theorem LsAt.at {i : Nat} {x : α} (h : LsAt R as xs) (e : xs[i]? = some x) : ∃ a, as[i]? = some a ∧ R a x := by
  have hi : i < as.length := by rw [h.1]; exact (List.getElem?_eq_some_iff.mp e).1
  exact ⟨as[i], List.getElem?_eq_getElem hi, h.2 i _ x (List.getElem?_eq_getElem hi) e⟩
theorem LsAt.slice (h : LsAt R as xs) (b m : Nat) : LsAt R ((as.drop b).take m) ((xs.drop b).take m) := by
  refine ⟨by rw [List.length_take, List.length_take, List.length_drop, List.length_drop, h.1], fun i a x e1 e2 => ?_⟩
  rw [List.getElem?_take] at e1 e2
  by_cases q : i < m
  · rw [if_pos q, List.getElem?_drop] at e1 e2
    exact h.2 _ a x e1 e2
  · rw [if_neg q] at e1
    cases e1
theorem LsAt.unsnoc {x : α} (h : LsAt R as (xs ++ [x])) : ∃ as' a, as = as' ++ [a] ∧ LsAt R as' xs ∧ R a x := by
  have hl : as.length = xs.length + 1 := by rw [h.1, List.length_append]; rfl
  have hn : as ≠ [] := fun e => by rw [e] at hl; simp at hl
  refine ⟨as.dropLast, as.getLast hn, (List.dropLast_concat_getLast hn).symm, ⟨by rw [List.length_dropLast]; omega, fun i a y e1 e2 => ?_⟩, ?_⟩
  · have hi : i < xs.length := (List.getElem?_eq_some_iff.mp e2).1
    rw [List.getElem?_dropLast, if_pos (by omega)] at e1
    exact h.2 i a y e1 (by rw [List.getElem?_append_left hi]; exact e2)
  · refine h.2 xs.length _ x ?_ (by rw [List.getElem?_append_right (Nat.le_refl _), Nat.sub_self]; rfl)
    rw [List.getElem?_eq_getElem (by omega), List.getLast_eq_getElem]
    congr 2
    omega
end
theorem map_ref_get {as : List Addr} {i : Nat} {x : V} (hx : (as.map V.ref)[i]? = some x) : ∃ a, x = .ref a ∧ as[i]? = some a := by
  rw [List.getElem?_map] at hx
  cases q : as[i]? with
  | none => rw [q] at hx; cases hx
  | some a => rw [q] at hx; exact ⟨a, (Option.some.inj hx).symm, rfl⟩
theorem atI_ref {as : List Addr} {i : Nat} {a : Addr} (h : as[i]? = some a) : atI (as.map V.ref) (i : Int) = some (.ref a) := atI_nat (by rw [List.getElem?_map, h]; rfl)
def PrAt (H : Hp) (a : Addr) (s : Nat × Nat) : Prop := H a = some (.tup [.int (s.1 : Int), .int (s.2 : Int)])
theorem PrAt.mono {H H' : Hp} (t : TM H H') (a : Addr) (s : Nat × Nat) (h : PrAt H a s) : PrAt H' a s := t _ _ h
theorem PcAt.mono' {H H' : Hp} (t : TM H H') (a : Addr) (p : Pc) (h : PcAt H a p) : PcAt H' a p := h.mono t
/-! ### spots and their groups -/
def run (k : Nat) : Nat → Nat → List (Nat × Nat)
  | _, 0 => []
  | lo, n + 1 => (k, lo) :: run k (lo + 1) n
def spots : Nat → List Pc → List (Nat × Nat)
  | _, [] => []
  | k, p :: ps => run k 0 p.n ++ spots (k + 1) ps
theorem run_len (k : Nat) : ∀ (n lo : Nat), (run k lo n).length = n
  | 0, _ => rfl
  | n + 1, lo => by show (run k (lo + 1) n).length + 1 = _; rw [run_len k n]
theorem run_get (k : Nat) : ∀ (n lo j : Nat), j < n → (run k lo n)[j]? = some (k, lo + j)
  | n + 1, lo, 0, _ => rfl
  | n + 1, lo, j + 1, h => by
    show (run k (lo + 1) n)[j]? = _
    rw [run_get k n (lo + 1) j (by omega)]
    congr 2
    omega
theorem run_snoc (k : Nat) : ∀ (n lo : Nat), run k lo (n + 1) = run k lo n ++ [(k, lo + n)]
  | 0, lo => rfl
  | n + 1, lo => by
    show (k, lo) :: run k (lo + 1) (n + 1) = (k, lo) :: (run k (lo + 1) n ++ [(k, lo + (n + 1))])
    rw [run_snoc k n (lo + 1), show lo + 1 + n = lo + (n + 1) by omega]
theorem run_drop (k : Nat) : ∀ (b n lo : Nat), (run k lo n).drop b = run k (lo + b) (n - b)
  | 0, n, lo => rfl
  | b + 1, 0, lo => by
    rw [Nat.zero_sub]
    rfl
  | b + 1, n + 1, lo => by
    show (run k (lo + 1) n).drop b = _
    rw [run_drop k b n (lo + 1), show n + 1 - (b + 1) = n - b by omega, show lo + 1 + b = lo + (b + 1) by omega]
theorem run_take (k : Nat) : ∀ (m n lo : Nat), (run k lo n).take m = run k lo (min m n)
  | 0, n, lo => by rw [List.take_zero, Nat.zero_min]; rfl
  | m + 1, 0, lo => by rw [Nat.min_zero]; rfl
  | m + 1, n + 1, lo => by
    rw [show min (m + 1) (n + 1) = min m n + 1 by omega]
    show (k, lo) :: (run k (lo + 1) n).take m = (k, lo) :: run k (lo + 1) (min m n)
    rw [run_take k m n]
theorem spots_snoc (p : Pc) : ∀ (k : Nat) (ps : List Pc), spots k (ps ++ [p]) = spots k ps ++ run (k + ps.length) 0 p.n
  | k, [] => by show run k 0 p.n ++ [] = _; rw [List.append_nil]; rfl
  | k, q :: ps => by
    show run k 0 q.n ++ spots (k + 1) (ps ++ [p]) = run k 0 q.n ++ spots (k + 1) ps ++ _
    rw [spots_snoc p (k + 1) ps, List.append_assoc, List.length_cons, show k + 1 + ps.length = k + (ps.length + 1) by omega]
theorem spots_len : ∀ (k : Nat) (ps : List Pc), (spots k ps).length = total ps
  | _, [] => rfl
  | k, p :: ps => by
    show (run k 0 p.n ++ spots (k + 1) ps).length = _
    rw [List.length_append, run_len, spots_len, total_cons]
theorem run_mem {k : Nat} : ∀ {n lo : Nat} {s : Nat × Nat}, s ∈ run k lo n → s.1 = k ∧ lo ≤ s.2 ∧ s.2 < lo + n
  | n + 1, lo, s, h => by
    rcases List.mem_cons.mp (show s ∈ (k, lo) :: run k (lo + 1) n from h) with e | h
    · rw [e]
      exact ⟨rfl, Nat.le_refl _, by show lo < lo + (n + 1); omega⟩
    · obtain ⟨h1, h2, h3⟩ := run_mem h
      exact ⟨h1, by omega, by omega⟩
theorem spots_mem : ∀ {k : Nat} {ps : List Pc} {s : Nat × Nat}, s ∈ spots k ps → k ≤ s.1 ∧ ∃ p, ps[s.1 - k]? = some p ∧ s.2 < p.n
  | k, p :: ps, s, h => by
    rcases List.mem_append.mp (show s ∈ run k 0 p.n ++ spots (k + 1) ps from h) with h | h
    · obtain ⟨h1, h2, h3⟩ := run_mem h
      rw [h1, Nat.sub_self]
      exact ⟨Nat.le_refl _, p, rfl, by omega⟩
    · obtain ⟨h1, q, h2, h3⟩ := spots_mem h
      refine ⟨by omega, q, ?_, h3⟩
      rw [show s.1 - k = (s.1 - (k + 1)) + 1 by omega]
      exact h2
/-- places of one number follow one another -/
def Cq (l : List (Nat × Nat)) : Prop := ∀ (j : Nat) (a b : Nat × Nat), l[j]? = some a → l[j + 1]? = some b → a.1 = b.1 → b.2 = a.2 + 1
theorem spots_cq : ∀ (k : Nat) (ps : List Pc), Cq (spots k ps)
  | _, [] => fun j a b h => by cases h
  | k, p :: ps => by
    intro j a b h1 h2 e
    have h1 : (run k 0 p.n ++ spots (k + 1) ps)[j]? = some a := h1
    have h2 : (run k 0 p.n ++ spots (k + 1) ps)[j + 1]? = some b := h2
    have hl := run_len k p.n 0
    by_cases q : j + 1 < p.n
    · rw [List.getElem?_append_left (by omega), run_get _ _ _ _ (by omega)] at h1
      rw [List.getElem?_append_left (by omega), run_get _ _ _ _ q] at h2
      cases Option.some.inj h1
      cases Option.some.inj h2
      show 0 + (j + 1) = 0 + j + 1
      omega
    · rw [List.getElem?_append_right (by omega)] at h2
      have hb := (spots_mem (List.mem_of_getElem? h2)).1
      by_cases q2 : j < p.n
      · rw [List.getElem?_append_left (by omega), run_get _ _ _ _ q2] at h1
        cases Option.some.inj h1
        have e : k = b.1 := e
        omega
      · rw [List.getElem?_append_right (by omega)] at h1
        rw [hl] at h1 h2
        exact spots_cq (k + 1) ps (j - p.n) a b h1 (by rw [show j - p.n + 1 = j + 1 - p.n by omega]; exact h2) e
theorem Cq.slice {l : List (Nat × Nat)} (h : Cq l) (b m : Nat) : Cq ((l.drop b).take m) := by
  intro j x y h1 h2 e
  rw [List.getElem?_take] at h1 h2
  by_cases q : j + 1 < m
  · rw [if_pos (by omega), List.getElem?_drop] at h1
    rw [if_pos q, List.getElem?_drop] at h2
    exact h (b + j) x y h1 h2 e
  · rw [if_neg q] at h2
    cases h2
abbrev Gp := Nat × Nat × Nat
def step (acc : List Gp) (s : Nat × Nat) : List Gp := match acc.getLast? with
  | some g => if g.1 = s.1 then acc.dropLast ++ [(g.1, g.2.1, s.2 + 1)] else acc ++ [(s.1, s.2, s.2 + 1)]
  | none => acc ++ [(s.1, s.2, s.2 + 1)]
def grp (l : List (Nat × Nat)) : List Gp := l.foldl step []
theorem step_same (init : List Gp) (i lo hi pl : Nat) : step (init ++ [(i, lo, hi)]) (i, pl) = init ++ [(i, lo, pl + 1)] := by
  unfold step
  rw [List.getLast?_concat]
  show (if i = i then _ else _) = _
  rw [if_pos rfl, List.dropLast_concat]
theorem step_new (init : List Gp) (i k lo hi pl : Nat) (h : i ≠ k) : step (init ++ [(i, lo, hi)]) (k, pl) = init ++ [(i, lo, hi)] ++ [(k, pl, pl + 1)] := by
  unfold step
  rw [List.getLast?_concat]
  show (if i = k then _ else _) = _
  rw [if_neg h]
theorem step_nil (s : Nat × Nat) : step [] s = [(s.1, s.2, s.2 + 1)] := rfl
theorem grp_snoc {l : List (Nat × Nat)} {j : Nat} {s : Nat × Nat} (h : l[j]? = some s) : grp (l.take (j + 1)) = step (grp (l.take j)) s := by
  unfold grp
  rw [List.take_add_one, h, List.foldl_append]
  rfl
/-- the last group, behind j spots -/
theorem grp_inv {l : List (Nat × Nat)} (hc : Cq l) : ∀ j, j < l.length → ∃ init i lo pl, grp (l.take (j + 1)) = init ++ [(i, lo, pl + 1)] ∧ lo ≤ pl ∧ l[j]? = some (i, pl)
  | 0, h => by
    have e : l[0]? = some l[0] := List.getElem?_eq_getElem h
    refine ⟨[], l[0].1, l[0].2, l[0].2, ?_, Nat.le_refl _, e⟩
    rw [grp_snoc e, List.take_zero]
    rfl
  | j + 1, h => by
    obtain ⟨init, i, lo, pl, h1, h2, h3⟩ := grp_inv hc j (by omega)
    have e : l[j + 1]? = some l[j + 1] := List.getElem?_eq_getElem h
    by_cases q : i = l[j + 1].1
    · have c := hc j _ _ h3 e q
      refine ⟨init, i, lo, l[j + 1].2, ?_, by have : l[j + 1].2 = pl + 1 := c; omega, ?_⟩
      · rw [grp_snoc e, h1, show l[j + 1] = (i, l[j + 1].2) by rw [q], step_same]
      · rw [e, q]
    · refine ⟨init ++ [(i, lo, pl + 1)], l[j + 1].1, l[j + 1].2, l[j + 1].2, ?_, Nat.le_refl _, e⟩
      rw [grp_snoc e, h1]
      exact step_new _ _ _ _ _ _ q
def ivs : Nat → Nat → Nat → List Pc → List Gp
  | _, _, _, [] => []
  | k, b, m, p :: ps => if p.n ≤ b then ivs (k + 1) (b - p.n) m ps else if m = 0 then [] else (k, b, b + min m (p.n - b)) :: ivs (k + 1) 0 (m - (p.n - b)) ps
theorem fold_run (k : Nat) (acc : List Gp) (ha : ∀ g ∈ acc, g.1 < k) (lo : Nat) : ∀ n, (run k lo (n + 1)).foldl step acc = acc ++ [(k, lo, lo + (n + 1))]
  | 0 => by
    show step acc (k, lo) = _
    rcases List.eq_nil_or_concat acc with e | ⟨init, g, e⟩
    · rw [e]; rfl
    · have hg := ha g (by rw [e]; simp)
      rw [e]
      obtain ⟨i, x, y⟩ := g
      have hg : i < k := hg
      rw [List.concat_eq_append]
      exact step_new init i k x y lo (by omega)
  | n + 1 => by
    rw [run_snoc, List.foldl_append, fold_run k acc ha lo n]
    show step _ (k, lo + (n + 1)) = _
    rw [step_same]
    rfl
theorem fold_spots : ∀ (ps : List Pc) (k b m : Nat) (acc : List Gp), (∀ g ∈ acc, g.1 < k) → (((spots k ps).drop b).take m).foldl step acc = acc ++ ivs k b m ps
  | [], k, b, m, acc, _ => by
    show ((List.drop b []).take m).foldl step acc = acc ++ []
    rw [List.drop_nil, List.take_nil, List.append_nil]
    rfl
  | p :: ps, k, b, m, acc, ha => by
    have hl := run_len k p.n 0
    show (((run k 0 p.n ++ spots (k + 1) ps).drop b).take m).foldl step acc = acc ++ (if _ then _ else _)
    rw [List.drop_append, hl]
    by_cases q : p.n ≤ b
    · rw [if_pos q, List.drop_of_length_le (by omega), List.nil_append]
      exact fold_spots ps (k + 1) _ m acc fun g hg => Nat.lt_succ_of_lt (ha g hg)
    · rw [if_neg q, run_drop, show b - p.n = 0 by omega, List.drop_zero, List.take_append, run_len, run_take, List.foldl_append, Nat.zero_add]
      by_cases z : m = 0
      · subst z
        rw [if_pos rfl, Nat.zero_min, Nat.zero_sub, List.take_zero, List.append_nil]
        rfl
      · rw [if_neg z]
        obtain ⟨w, hw⟩ : ∃ w, min m (p.n - b) = w + 1 := ⟨min m (p.n - b) - 1, by omega⟩
        rw [hw, fold_run k acc ha b w, ← hw]
        have := fold_spots ps (k + 1) 0 (m - (p.n - b)) (acc ++ [(k, b, b + min m (p.n - b))]) fun g hg => by
          rcases List.mem_append.mp hg with h | h
          · exact Nat.lt_succ_of_lt (ha g h)
          · rw [List.mem_singleton.mp h]
            exact Nat.lt_succ_self _
        rw [List.drop_zero] at this
        rw [this, List.append_assoc]
        rfl
def cutAt (all : List Pc) (g : Gp) : Pc := match all[g.1]? with
  | some p => p.cut g.2.1 g.2.2
  | none => .put []
def tpAt (all : List Pc) (g : Gp) : Pc := match all[g.1]? with
  | some (.take _ _) => .take g.2.1 g.2.2
  | some (.put rs) => .put ((rs.drop g.2.1).take (g.2.2 - g.2.1))
  | none => .put []
theorem ivs_cut {all : List Pc} : ∀ (ps : List Pc) (k b m : Nat), (∀ i p, ps[i]? = some p → all[k + i]? = some p) → Pos ps → (ivs k b m ps).map (cutAt all) = tk m (dr b ps)
  | [], k, b, m, _, _ => rfl
  | p :: ps, k, b, m, h, pos => by
    have hp : all[k]? = some p := h 0 p rfl
    have ht : ∀ i q, ps[i]? = some q → all[k + 1 + i]? = some q := fun i q hq => by
      have := h (i + 1) q hq
      rw [show k + 1 + i = k + (i + 1) by omega]
      exact this
    have p1 := pos.head
    show (if p.n ≤ b then _ else _ : List Gp).map _ = _
    by_cases q : p.n ≤ b
    · rw [if_pos q, dr_cons_le q]
      exact ivs_cut ps (k + 1) _ m ht pos.tail
    · rw [if_neg q, dr_cons_gt q]
      have en : (p.from b).n = p.n - b := from_n
      by_cases z : m = 0
      · subst z
        rw [if_pos rfl, tk_cons_z (by omega)]
        rfl
      · rw [if_neg z, List.map_cons, ivs_cut ps (k + 1) 0 _ ht pos.tail, dr_zero pos.tail]
        have ec : cutAt all (k, b, b + min m (p.n - b)) = p.cut b (b + min m (p.n - b)) := by
          unfold cutAt
          rw [hp]
        rw [ec]
        by_cases q2 : p.n - b ≤ m
        · rw [tk_cons_le (by omega), en, show b + min m (p.n - b) = p.n by omega]
          rfl
        · rw [tk_cons_gt (by omega) z, show m - (p.n - b) = 0 by omega, tk_zero pos.tail, cut_eq p (by omega) (by omega), show b + min m (p.n - b) - b = m by omega]
theorem grp_cut {ps : List Pc} (pos : Pos ps) (b m : Nat) : (grp (((spots 0 ps).drop b).take m)).map (cutAt ps) = tk m (dr b ps) := by
  unfold grp
  rw [fold_spots ps 0 b m [] (fun _ h => by cases h), List.nil_append]
  exact ivs_cut ps 0 b m (fun i p h => by rw [Nat.zero_add]; exact h) pos
end Fw

set_option Elab.async false
set_option linter.all false
set_option maxRecDepth 100000
set_option maxHeartbeats 4000000
namespace Fw
open PySem L2 RZ RT
abbrev rGtS : R2 := fun x y H Q => ∃ i j, x = .str i ∧ y = .str j ∧ Q (.bl (decide (j.cps.toList < i.cps.toList))) H
theorem max2 {i j : Nat} {Q : VK} {H : Hp} {σ : L2.St} (q : Q (.int ((max i j : Nat) : Int)) H) : tNil σ H fun ys H2 => fMax2 (.int (i : Int) :: .int (j : Int) :: ys) H2 Q := by
  refine ⟨_, _, rfl, ?_⟩
  have e : (if (j : Int) > (i : Int) then (j : Int) else (i : Int)) = ((max i j : Nat) : Int) := by
    by_cases h : (j : Int) > (i : Int)
    · rw [if_pos h]; omega
    · rw [if_neg h]; omega
  rw [e]
  exact q
theorem min2 {i j : Nat} {Q : VK} {H : Hp} {σ : L2.St} (q : Q (.int ((min i j : Nat) : Int)) H) : tNil σ H fun ys H2 => fMin2 (.int (i : Int) :: .int (j : Int) :: ys) H2 Q := by
  refine ⟨_, _, rfl, ?_⟩
  have e : (if (j : Int) < (i : Int) then (j : Int) else (i : Int)) = ((min i j : Nat) : Int) := by
    by_cases h : (j : Int) < (i : Int)
    · rw [if_pos h]; omega
    · rw [if_neg h]; omega
  rw [e]
  exact q
def sp_cut_piece (_ : PySem.W.Frag) : Sp := fun vs H Q _ => ∃ (a : Addr) (p : Pc) (l h : Nat) (x y : Int), vs = [.ref a, .int x, .int y] ∧ x = (l : Int) ∧ y = (h : Int) ∧ l < h ∧ h ≤ p.n ∧ PcAt H a p ∧ ∀ (r : Addr) (H' : Hp), Same H H' → PcAt H' r (p.cut l h) → Q (.ref r) H'
def sp_part_of (_ : PySem.W.Frag) : Sp := fun vs H Q _ => ∃ (s : Addr) (ps : List Pc) (b e : Nat) (x y : Int), vs = [.ref s, .int x, .int y] ∧ x = (b : Int) ∧ y = (e : Int) ∧ ScAt H s ps ∧ ps.length ≤ 1000 ∧
  ∀ (L : Addr) (as : List Addr) (H' : Hp), Same H H' → H' L = some (.lst (as.map V.ref)) → LsAt (PcAt H') as (po b e 0 ps) → Q (.ref L) H'
def sp_joined (_ : PySem.W.Frag) : Sp := fun vs H Q _ => ∃ (B s1 s2 : Addr) (bs : List Str) (one other : List Pc), vs = [.ref B, .ref s1, .ref s2] ∧ RwAt H B bs ∧ ScAt H s1 one ∧ ScOk one ∧ (∀ p ∈ one, p.fits bs.length) ∧ ScAt H s2 other ∧ ScOk other ∧ (∀ p ∈ other, p.fits (total one)) ∧
  ∀ (r : Addr) (H' : Hp), Same H H' → ScAt H' r (join one other) → Q (.ref r) H'
def sp_l_is_line (_ : PySem.W.Frag) : Sp := fun vs H Q _ => ∃ z : Str, vs = [.str z] ∧ OkS z ∧ Q (.bl true) H
def sp_l_size (_ : PySem.W.Frag) : Sp := fun vs H Q _ => ∃ (a : Addr) (p : Pc), vs = [.ref a] ∧ PcAt H a p ∧ p.ok ∧ Q (.int (p.n : Int)) H
def sp_l_turned (_ : PySem.W.Frag) : Sp := fun vs H Q _ => ∃ (s L : Addr) (ps : List Pc) (bs : List Addr) (part : List (Nat × Nat)), vs = [.ref s, .ref L] ∧ ScAt H s ps ∧ H L = some (.lst (bs.map V.ref)) ∧ LsAt (PrAt H) bs part ∧ part.length ≤ 1000 ∧ Cq part ∧ (∀ p ∈ ps, p.n ≤ 1000) ∧ (∀ x ∈ part, ∃ p, ps[x.1]? = some p ∧ x.2 < p.n) ∧
  ∀ (F : Addr) (fs : List Addr) (H' : Hp), Same H H' → H F = none → H' F = some (.lst (fs.map V.ref)) → LsAt (PcAt H') fs ((grp part).map (tpAt ps)) → Q (.ref F) H'
def sp_l_joined (_ : PySem.W.Frag) : Sp := fun vs H Q _ => ∃ (s1 s2 : Addr) (one other : List Pc), vs = [.ref s1, .ref s2] ∧ ScAt H s1 one ∧ ScOk one ∧ ScAt H s2 other ∧ ScOk other ∧ (∀ p ∈ other, p.fits (total one)) ∧
  ∀ (r : Addr) (H' : Hp), Same H H' → ScAt H' r (join one other) → Q (.ref r) H'
section
variable {K : PySem.W.Frag} {vs : List V} {H : Hp} {Q : VK} {E : XK}
theorem len_cut_piece (h : sp_cut_piece K vs H Q E) : vs.length = 3 := by obtain ⟨_, _, _, _, _, _, rfl, _⟩ := h; rfl
theorem len_part_of (h : sp_part_of K vs H Q E) : vs.length = 3 := by obtain ⟨_, _, _, _, _, _, rfl, _⟩ := h; rfl
theorem len_joined (h : sp_joined K vs H Q E) : vs.length = 3 := by obtain ⟨_, _, _, _, _, _, rfl, _⟩ := h; rfl
theorem len_l_is_line (h : sp_l_is_line K vs H Q E) : vs.length = 1 := by obtain ⟨_, rfl, _⟩ := h; rfl
theorem len_l_size (h : sp_l_size K vs H Q E) : vs.length = 1 := by obtain ⟨_, _, rfl, _⟩ := h; rfl
theorem len_l_turned (h : sp_l_turned K vs H Q E) : vs.length = 2 := by obtain ⟨_, _, _, _, _, rfl, _⟩ := h; rfl
theorem len_l_joined (h : sp_l_joined K vs H Q E) : vs.length = 2 := by obtain ⟨_, _, _, _, rfl, _⟩ := h; rfl
end
abbrev N_cut_piece : List Str := ["piece", "begin", "end"]
def t_cut_piece (K : PySem.W.Frag) : TS := (tSeq (tIfS (tTest (tOp rEq (tOp (rIx K) (tVar 0) (tC (.int 0))) (tC (.str "put")))) (tRet (tTup (tCons (tC (.str "put")) (tCons (tSl (rSlA K) (tOp (rIx K) (tVar 0) (tC (.int 1))) (tPart (tVar 1)) (tPart (tVar 2))) tNil)))) tNext)
    (tRet (tTup (tCons (tC (.str "take")) (tCons (tOp rAddI (tOp (rIx K) (tVar 0) (tC (.int 1))) (tVar 1)) (tCons (tOp rSubI (tVar 2) (tVar 1)) tNil))))))
abbrev N_part_of : List Str := ["script", "begin", "end", "pieces", "first", "piece", "behind", "low", "high"]
def t_part_of (K : PySem.W.Frag) : TS := (tSeq (tAsg (tLst tNil) (gName 3))
    (tSeq (tAsg (tC (.int 0)) (gName 4))
    (tSeq (tFor (iTup K (tVar 0)) (gName 5) (tSeq (tAsg (tOp rAddI (tVar 4) (tCall (sp_rows_in K) [] E0 (tCons (tVar 5) tNil))) (gName 6))
    (tSeq (tPar 7 8 (tCons (tCB fMax2 (tCons (tVar 1) (tCons (tVar 4) tNil))) (tCons (tCB fMin2 (tCons (tVar 2) (tCons (tVar 6) tNil))) tNil)))
    (tSeq (tIfS (tTest (tOp rLtI (tVar 7) (tVar 8))) (tDrop (tBM K "list" rAppend (tVar 3) (tCons (tCall (sp_cut_piece K) [] E0 (tCons (tVar 5) (tCons (tOp rSubI (tVar 7) (tVar 4)) (tCons (tOp rSubI (tVar 8) (tVar 4)) tNil)))) tNil))) tNext)
    (tAsg (tVar 6) (gName 4))))))
    (tRet (tVar 3)))))
abbrev N_joined : List Str := ["base", "one", "other", "pieces", "piece"]
def t_joined (K : PySem.W.Frag) : TS := (tSeq (tDrop (tCall (sp_refuse_wrong K) [] E0 (tCons (tVar 0) (tCons (tVar 1) tNil))))
    (tSeq (tDrop (tCall (sp_refuse_wrong K) [] E0 (tCons (tCall (sp_made K) [] E0 (tCons (tVar 0) (tCons (tVar 1) tNil))) (tCons (tVar 2) tNil))))
    (tSeq (tAsg (tLst tNil) (gName 3))
    (tSeq (tFor (iTup K (tVar 2)) (gName 4) (tIfS (tTest (tOp rEq (tOp (rIx K) (tVar 4) (tC (.int 0))) (tC (.str "put")))) (tDrop (tBM K "list" rAppend (tVar 3) (tCons (tVar 4) tNil))) (tDrop (tBM K "list" (rExtendA K) (tVar 3) (tCons (tCall (sp_part_of K) [] E0 (tCons (tVar 1) (tCons (tOp (rIx K) (tVar 4) (tC (.int 1))) (tCons (tOp rAddI (tOp (rIx K) (tVar 4) (tC (.int 1))) (tOp (rIx K) (tVar 4) (tC (.int 2)))) tNil)))) tNil)))))
    (tRet (tCB (fTupleOf K) (tCons (tVar 3) tNil)))))))
abbrev N_l_is_line : List Str := ["_law_thing", "_law_sign"]
def t_l_is_line (K : PySem.W.Frag) : TS := (tSeq (tIfS (tOr (tNot (tB (tCB (rIsi K) (tCons (tVar 0) (tCons (tC (.ty "str")) tNil))))) (tTest (tOp rGtI (tCB (fLen K) (tCons (tVar 0) tNil)) (tC (.int 40))))) (tRet (tC (.bl false))) tNext)
    (tSeq (tFor (iStr (tVar 0)) (gName 1) (tIfS (tOr (tTest (tOp rLtS (tVar 1) (tC (.str " ")))) (tTest (tOp rGtS (tVar 1) (tC (.str "~"))))) (tRet (tC (.bl false))) tNext))
    (tRet (tC (.bl true)))))
abbrev N_l_size : List Str := ["_law_piece", "_law_line"]
def t_l_size (K : PySem.W.Frag) : TS := (tSeq (tIfS (tOr (tNot (tB (tCB (rIsi K) (tCons (tVar 0) (tCons (tC (.ty "tuple")) tNil))))) (tOr (tTest (tOp rLtI (tCB (fLen K) (tCons (tVar 0) tNil)) (tC (.int 2)))) (tNot (tB (tCB (rIsi K) (tCons (tOp (rIx K) (tVar 0) (tC (.int 0))) (tCons (tC (.ty "str")) tNil))))))) (tRet (tC (.int 0))) tNext)
    (tSeq (tIfS (tAnd (tTest (tOp rEq (tOp (rIx K) (tVar 0) (tC (.int 0))) (tC (.str "take")))) (tAnd (tTest (tOp rEq (tCB (fLen K) (tCons (tVar 0) tNil)) (tC (.int 3)))) (tAnd (tB (tCall (sp_l_int K) [] E0 (tCons (tOp (rIx K) (tVar 0) (tC (.int 1))) tNil))) (tB (tCall (sp_l_int K) [] E0 (tCons (tOp (rIx K) (tVar 0) (tC (.int 2))) tNil)))))) (tSeq (tIfS (tAnd (tTest (tOp rGeI (tOp (rIx K) (tVar 0) (tC (.int 1))) (tC (.int 0)))) (tTest (tOp rGeI (tOp (rIx K) (tVar 0) (tC (.int 2))) (tC (.int 1))))) (tRet (tOp (rIx K) (tVar 0) (tC (.int 2)))) tNext)
    (tRet (tC (.int 0)))) tNext)
    (tSeq (tIfS (tOr (tTest (tOp rNe (tOp (rIx K) (tVar 0) (tC (.int 0))) (tC (.str "put")))) (tOr (tTest (tOp rNe (tCB (fLen K) (tCons (tVar 0) tNil)) (tC (.int 2)))) (tNot (tB (tCB (rIsi K) (tCons (tOp (rIx K) (tVar 0) (tC (.int 1))) (tCons (tC (.ty "tuple")) tNil))))))) (tRet (tC (.int 0))) tNext)
    (tSeq (tFor (iTup K (tOp (rIx K) (tVar 0) (tC (.int 1)))) (gName 1) (tIfS (tNot (tB (tCall (sp_l_is_line K) [] E0 (tCons (tVar 1) tNil)))) (tRet (tC (.int 0))) tNext))
    (tRet (tCB (fLen K) (tCons (tOp (rIx K) (tVar 0) (tC (.int 1))) tNil)))))))
abbrev N_l_turned : List Str := ["_law_one", "_law_spots", "_law_found", "_law_last", "_law_number", "_law_place", "_law_piece"]
def t_l_turned_fin (K : PySem.W.Frag) : TS := (tAsg (tVar 4) (gName 3))
def t_l_turned_cases (K : PySem.W.Frag) : TS := (tSeq (tIfS (tAnd (tTest (tOp rEq (tOp (rIx K) (tVar 6) (tC (.int 0))) (tC (.str "take")))) (tTest (tOp rEq (tVar 4) (tVar 3)))) (tDrop (tBM K "list" rAppend (tVar 2) (tCons (tTup (tCons (tC (.str "take")) (tCons (tOp (rIx K) (tBM0 K "list" rPop (tVar 2)) (tC (.int 1))) (tCons (tOp rAddI (tVar 5) (tC (.int 1))) tNil)))) tNil))) (tIfS (tTest (tOp rEq (tOp (rIx K) (tVar 6) (tC (.int 0))) (tC (.str "take")))) (tDrop (tBM K "list" rAppend (tVar 2) (tCons (tTup (tCons (tC (.str "take")) (tCons (tVar 5) (tCons (tOp rAddI (tVar 5) (tC (.int 1))) tNil)))) tNil))) (tIfS (tTest (tOp rEq (tVar 4) (tVar 3))) (tDrop (tBM K "list" rAppend (tVar 2) (tCons (tTup (tCons (tC (.str "put")) (tCons (tOp (rCatT K) (tOp (rIx K) (tBM0 K "list" rPop (tVar 2)) (tC (.int 1))) (tSl (rSlA K) (tOp (rIx K) (tVar 6) (tC (.int 1))) (tPart (tVar 5)) (tPart (tOp rAddI (tVar 5) (tC (.int 1)))))) tNil))) tNil))) (tDrop (tBM K "list" rAppend (tVar 2) (tCons (tTup (tCons (tC (.str "put")) (tCons (tSl (rSlA K) (tOp (rIx K) (tVar 6) (tC (.int 1))) (tPart (tVar 5)) (tPart (tOp rAddI (tVar 5) (tC (.int 1))))) tNil))) tNil))))))
    (t_l_turned_fin K))
def t_l_turned (K : PySem.W.Frag) : TS := (tSeq (tAsg (tLst tNil) (gName 2))
    (tSeq (tAsg (tUn rNegI (tC (.int 1))) (gName 3))
    (tSeq (tFor (iList K (tVar 1)) (gTup K 2 (gCons (gName 4) (gCons (gName 5) gNil))) (tSeq (tAsg (tOp (rIx K) (tVar 0) (tVar 4)) (gName 6))
    (t_l_turned_cases K)))
    (tRet (tVar 2)))))
abbrev N_l_joined : List Str := ["_law_one", "_law_other", "_law_spots", "_law_number", "_law_place", "_law_due", "_law_piece", "_law_part", "_law_turned_here", "_law_firsts", "_law_k", "_law_begin"]
def t_l_joined_last (K : PySem.W.Frag) : TS := (tFor (iRng1 (tCons (tCB (fLen K) (tCons (tVar 8) tNil)) tNil)) (gName 10) (tIfS (tTest (tOp rEq (tOp (rIx K) (tOp (rIx K) (tVar 8) (tVar 10)) (tC (.int 0))) (tC (.str "put")))) (tDrop (tBM K "list" rAppend (tVar 5) (tCons (tOp (rIx K) (tVar 8) (tVar 10)) tNil))) (tSeq (tAsg (tOp (rIx K) (tOp (rIx K) (tVar 0) (tOp (rIx K) (tOp (rIx K) (tVar 9) (tVar 10)) (tC (.int 0)))) (tC (.int 1))) (gName 11))
    (tDrop (tBM K "list" rAppend (tVar 5) (tCons (tTup (tCons (tC (.str "take")) (tCons (tOp rAddI (tVar 11) (tOp (rIx K) (tOp (rIx K) (tVar 8) (tVar 10)) (tC (.int 1)))) (tCons (tOp rSubI (tOp (rIx K) (tOp (rIx K) (tVar 8) (tVar 10)) (tC (.int 2))) (tOp (rIx K) (tOp (rIx K) (tVar 8) (tVar 10)) (tC (.int 1)))) tNil)))) tNil))))))
def t_l_joined_firsts (K : PySem.W.Frag) : TS := (tSeq (tAsg (tLst tNil) (gName 9))
    (tSeq (tFor (iRng1 (tCons (tCB (fLen K) (tCons (tVar 7) tNil)) tNil)) (gName 10) (tIfS (tOr (tTest (tOp rEq (tVar 10) (tC (.int 0)))) (tTest (tOp rNe (tOp (rIx K) (tOp (rIx K) (tVar 7) (tVar 10)) (tC (.int 0))) (tOp (rIx K) (tOp (rIx K) (tVar 7) (tOp rSubI (tVar 10) (tC (.int 1)))) (tC (.int 0)))))) (tDrop (tBM K "list" rAppend (tVar 9) (tCons (tOp (rIx K) (tVar 7) (tVar 10)) tNil))) tNext))
    (t_l_joined_last K)))
def t_l_joined_part (K : PySem.W.Frag) : TS := (tSeq (tAsg (tSl (rSlL K) (tVar 2) (tPart (tOp (rIx K) (tVar 6) (tC (.int 1)))) (tPart (tOp rAddI (tOp (rIx K) (tVar 6) (tC (.int 1))) (tOp (rIx K) (tVar 6) (tC (.int 2)))))) (gName 7))
    (tSeq (tAsg (tCall (sp_l_turned K) [] E0 (tCons (tVar 0) (tCons (tVar 7) tNil))) (gName 8))
    (t_l_joined_firsts K)))
def t_l_joined_due (K : PySem.W.Frag) : TS := (tSeq (tAsg (tLst tNil) (gName 5))
    (tSeq (tFor (iTup K (tVar 1)) (gName 6) (tIfS (tTest (tOp rEq (tOp (rIx K) (tVar 6) (tC (.int 0))) (tC (.str "put")))) (tDrop (tBM K "list" rAppend (tVar 5) (tCons (tVar 6) tNil))) (t_l_joined_part K)))
    (tRet (tCB (fTupleOf K) (tCons (tVar 5) tNil)))))
def t_l_joined (K : PySem.W.Frag) : TS := (tSeq (tAsg (tLst tNil) (gName 2))
    (tSeq (tFor (iRng1 (tCons (tCB (fLen K) (tCons (tVar 0) tNil)) tNil)) (gName 3) (tFor (iRng1 (tCons (tCall (sp_l_size K) [] E0 (tCons (tOp (rIx K) (tVar 0) (tVar 3)) tNil)) tNil)) (gName 4) (tDrop (tBM K "list" rAppend (tVar 2) (tCons (tTup (tCons (tVar 3) (tCons (tVar 4) tNil))) tNil)))))
    (t_l_joined_due K)))
section
variable {K : PySem.W.Frag} {vs : List V} {H : Hp} {Q : VK} {E : XK}
theorem slB {B : Addr} {bs : List Str} {l h : Nat} (hB : H B = some (.tup (bs.map V.str))) (h1 : l ≤ h) (h2 : h ≤ bs.length) (q : ∀ (r : Addr) (H' : Hp), Same H H' → RwAt H' r ((bs.drop l).take (h - l)) → Q (.ref r) H') : rSlA K (.ref B) (some (l : Int)) (some (h : Int)) H Q := by
  have := slA (K := K) (Q := Q) hB (show l + (h - l) ≤ bs.length by omega) q
  rw [show (l : Int) + ((h - l : Nat) : Int) = (h : Int) by omega] at this
  exact this
theorem pure_cut_piece (h : sp_cut_piece K vs H Q E) : t_cut_piece K { nx := fun _ H' => Q .non H', rt := Q } (start N_cut_piece vs) H := by
  obtain ⟨a, p, l, h, x, y, rfl, rfl, rfl, h1, h2, ha, k⟩ := h
  cases p with
  | take b m =>
    refine ⟨_, rfl, ixT ha rfl ⟨rfl, _, rfl, ?_⟩⟩
    rw [take_put]
    refine iteF ⟨_, rfl, ixT ha rfl ⟨_, rfl, _, _, rfl, rfl, _, rfl, _, rfl, _, _, rfl, rfl, by show (3 : Nat) ≤ sizeLine; decide, fun r nr => k r _ (Same.upd nr) ?_⟩⟩
    show upd _ _ _ _ = some (.tup [.str "take", .int ((b + l : Nat) : Int), .int ((h - l : Nat) : Int)])
    rw [updS, show ((b + l : Nat) : Int) = (b : Int) + (l : Int) by omega, show ((h - l : Nat) : Int) = (h : Int) - (l : Int) by omega]
  | put rs =>
    obtain ⟨r, h3, h4⟩ := ha
    refine ⟨_, rfl, ixT h3 rfl ⟨rfl, _, rfl, ?_⟩⟩
    rw [decide_eq_true rfl]
    refine iteT ⟨_, rfl, ixT h3 rfl ⟨_, rfl, _, rfl, _, rfl, _, rfl, slB h4 (by omega) h2 fun q H' s hq => ⟨by show (2 : Nat) ≤ sizeLine; decide, fun w nw => k w _ (s.trans (Same.upd nw)) ⟨q, updS, Same.upd nw _ _ hq⟩⟩⟩⟩
theorem po_snoc {b e : Nat} (p : Pc) : ∀ (f : Nat) (xs : List Pc), po b e f (xs ++ [p]) = po b e f xs ++ (if max b (f + total xs) < min e (f + total xs + p.n) then [p.cut (max b (f + total xs) - (f + total xs)) (min e (f + total xs + p.n) - (f + total xs))] else [])
  | f, [] => by
    show _ ++ [] = [] ++ _
    rw [List.append_nil, List.nil_append]
    rfl
  | f, x :: xs => by
    show _ ++ po b e (f + x.n) (xs ++ [p]) = (_ ++ po b e (f + x.n) xs) ++ _
    rw [po_snoc p (f + x.n) xs, List.append_assoc, total_cons, show f + x.n + total xs = f + (x.n + total xs) by omega]
theorem take_succ {α : Type} {xs : List α} {i : Nat} {x : α} (h : xs[i]? = some x) : xs.take (i + 1) = xs.take i ++ [x] := by rw [List.take_add_one, h]; rfl
theorem po_len {b e : Nat} : ∀ (f : Nat) (xs : List Pc), (po b e f xs).length ≤ xs.length
  | _, [] => Nat.le_refl _
  | f, x :: xs => by
    show ((if _ then _ else _) ++ po b e (f + x.n) xs).length ≤ _
    rw [List.length_append, List.length_cons]
    have := po_len (b := b) (e := e) (f + x.n) xs
    by_cases q : max b f < min e (f + x.n)
    · rw [if_pos q]
      show 1 + _ ≤ _
      omega
    · rw [if_neg q]
      show 0 + _ ≤ _
      omega
theorem pure_part_of (h : sp_part_of K vs H Q E) : t_part_of K { nx := fun _ H' => Q .non H', rt := Q } (start N_part_of vs) H := by
  obtain ⟨s, ps, b, e, x, y, rfl, rfl, rfl, ⟨as, ha, hp⟩, hz, k⟩ := h
  refine ⟨Nat.zero_le _, fun L nL => ⟨_, rfl, s, rfl, ⟨_, sqT (updN (ne_of_none ha nL) ha)⟩, ?_⟩⟩
  refine for_tup (K := K) (a := s) (xs := as.map V.ref) (fun i σ H' => Same H H' ∧ ∃ (cs : List Addr) (z5 z6 z7 z8 : Option V), H' L = some (.lst (cs.map V.ref)) ∧ LsAt (PcAt H') cs (po b e 0 (ps.take i)) ∧ σ = [some (.ref s), some (.int (b : Int)), some (.int (e : Int)), some (.ref L), some (.int ((total (ps.take i) : Nat) : Int)), z5, z6, z7, z8]) ⟨Same.upd nL, [], none, none, none, none, updS, .nil, rfl⟩ (fun i σ H' _ p => sqT (p.1 _ _ ha)) ?_ ?_
  · rintro i x σ H' hx ⟨s1, cs, z5, z6, z7, z8, hL, hc, rfl⟩
    obtain ⟨c, p, rfl, h1, h2, h3⟩ := sc_get (hp.mono (.of s1)) hx
    have hi : i < ps.length := (List.getElem?_eq_some_iff.mp h2).1
    have lc : cs.length ≤ 1000 := by
      rw [hc.1]
      have := po_len (b := b) (e := e) 0 (ps.take i)
      rw [List.length_take] at this
      omega
    have et : total (ps.take (i + 1)) = total (ps.take i) + p.n := by rw [take_succ h2, total_snoc]
    have eb : ((total (ps.take i) : Nat) : Int) + (p.n : Int) = ((total (ps.take (i + 1)) : Nat) : Int) := by omega
    have ep := po_snoc (b := b) (e := e) p 0 (ps.take i)
    rw [← take_succ h2, Nat.zero_add, ← et] at ep
    refine ⟨_, rfl, _, rfl, c, p, rfl, h3, _, _, rfl, rfl, ?_⟩
    generalize hf : total (ps.take i) = f at *
    generalize hg : total (ps.take (i + 1)) = g at *
    show tSeq _ _ _ [some (.ref s), some (.int (b : Int)), some (.int (e : Int)), some (.ref L), some (.int (f : Int)), some (.ref c), some (.int ((f : Int) + (p.n : Int))), z7, z8] H'
    rw [eb]
    refine ⟨_, rfl, _, rfl, max2 ⟨_, rfl, _, rfl, min2 ⟨_, _, rfl, ?_⟩⟩⟩
    have s2 : Same H' H' := Same.refl _
    have hL2 := hL
    have hc2 := hc
    have h32 := h3
    refine ⟨_, rfl, _, rfl, _, _, rfl, rfl, _, rfl, ?_⟩
    by_cases q : max b f < min e g
    · rw [decide_eq_true (show ((max b f : Nat) : Int) < ((min e g : Nat) : Int) by omega)]
      rw [if_pos q] at ep
      refine iteT ⟨_, rfl, .inl ⟨rfl, _, sqL hL2⟩, _, rfl, _, rfl, _, rfl, _, _, rfl, rfl, _, rfl, _, rfl, _, _, rfl, rfl, c, p, max b f - f, min e g - f, _, _, rfl, by omega, by omega, by omega, by omega, h32, fun r H3 s3 hr => ?_⟩
      refine ⟨L, _, _, rfl, rfl, s3 _ _ hL2, by rw [List.length_map]; exact Nat.lt_of_le_of_lt lc (by decide), ?_⟩
      have tm : TM H3 (upd H3 L (.lst (cs.map V.ref ++ [.ref r]))) := fun a xs h => updN (ne_of h (s3 _ _ hL2) (by intro z; cases z)) h
      refine ⟨_, rfl, Same.updI ((s1.trans s2).trans s3) nL, cs ++ [r], _, _, _, _, ?_, ?_, rfl⟩
      · rw [updS, List.map_append]
        rfl
      · rw [ep]
        exact ((hc2.mono (PcAt.mono' (.of s3))).snoc hr).mono (PcAt.mono' tm)
    · rw [decide_eq_false (show ¬ ((max b f : Nat) : Int) < ((min e g : Nat) : Int) by omega)]
      rw [if_neg q, List.append_nil] at ep
      refine iteF ⟨_, rfl, s1.trans s2, cs, _, _, _, _, hL2, ?_, rfl⟩
      rw [ep]
      exact hc2
  · rintro σ H' ⟨s1, cs, z5, z6, z7, z8, hL, hc, rfl⟩
    rw [List.length_map, hp.1, List.take_of_length_le (Nat.le_refl _)] at hc
    exact ⟨_, rfl, k L cs H' s1 hL hc⟩
theorem join_snoc {f ps : List Pc} {i : Nat} {p : Pc} (h : ps[i]? = some p) : join f (ps.take (i + 1)) = join f (ps.take i) ++ sub f p := by
  rw [take_succ h, join_append]
  show _ ++ (sub f p ++ []) = _
  rw [List.append_nil]
theorem join_len {f ps : List Pc} (hf : ScOk f) (hp : ScOk ps) (fit : ∀ p ∈ ps, p.fits (total f)) (i : Nat) : (join f (ps.take i)).length ≤ 40 := by
  have o : ScOk (ps.take i) := ⟨fun p h => hp.ok p (List.mem_of_mem_take h), Nat.le_trans (total_take_le i) hp.few⟩
  exact (join_ok hf o (fun p h => fit p (List.mem_of_mem_take h))).len
theorem pure_joined (h : sp_joined K vs H Q E) : t_joined K { nx := fun _ H' => Q .non H', rt := Q } (start N_joined vs) H := by
  obtain ⟨B, s1, s2, bs, one, other, rfl, hB, sc1, ok1, fit1, sc2, ok2, fit2, k⟩ := h
  have lm := makes_len fit1
  refine ⟨_, rfl, _, rfl, B, s1, bs, one, rfl, hB, sc1, ok1, fit1, fun H1 g1 => ?_⟩
  refine ⟨_, rfl, _, rfl, B, s1, bs, one, rfl, g1 _ _ hB, sc1.mono (.of g1), ok1, fit1, fun M H2 g2 hM => ⟨_, rfl, M, s2, makes bs one, other, rfl, hM, sc2.mono (.of (g1.trans g2)), ok2, by rw [lm]; exact fit2, fun H3 g3 => ?_⟩⟩
  have g : Same H H3 := (g1.trans g2).trans g3
  have c1 := sc1.mono (.of g)
  obtain ⟨as, ha, hp⟩ := sc2.mono (.of g)
  clear g1 g2 g3 hM sc1 sc2
  refine ⟨Nat.zero_le _, fun L nL => ⟨_, rfl, s2, rfl, ⟨_, sqT (updN (ne_of_none ha nL) ha)⟩, ?_⟩⟩
  refine for_tup (K := K) (a := s2) (xs := as.map V.ref) (fun i σ H' => Same H3 H' ∧ ∃ (cs : List Addr) (z4 : Option V), H' L = some (.lst (cs.map V.ref)) ∧ LsAt (PcAt H') cs (join one (other.take i)) ∧ σ = [some (.ref B), some (.ref s1), some (.ref s2), some (.ref L), z4]) ⟨Same.upd nL, [], none, updS, .nil, rfl⟩ (fun i σ H' _ p => sqT (p.1 _ _ ha)) ?_ ?_
  · rintro i x σ H' hx ⟨q1, cs, z4, hL, hc, rfl⟩
    obtain ⟨c, p, rfl, h1, h2, h3⟩ := sc_get (hp.mono (.of q1)) hx
    have lc : cs.length ≤ 40 := by rw [hc.1]; exact join_len ok1 ok2 fit2 i
    have f := fit2 p (List.mem_of_getElem? h2)
    have ej := join_snoc (f := one) h2
    have l1 := join_len ok1 ok2 fit2 (i + 1)
    cases p with
    | take b m =>
      refine ⟨_, rfl, ixT h3 rfl ⟨rfl, _, rfl, ?_⟩⟩
      rw [take_put]
      refine iteF ⟨_, rfl, .inl ⟨rfl, _, sqL hL⟩, _, rfl, _, rfl, ixT h3 rfl ⟨_, rfl, ixT h3 rfl ⟨_, rfl, ixT h3 rfl ⟨_, _, rfl, rfl, s1, one, b, b + m, _, _, rfl, rfl, by omega, c1.mono (.of q1), Nat.le_trans ok1.len (by decide), fun M ds H4 g4 hM hd => ?_⟩⟩⟩⟩
      rw [part_eq (Pos.of_ok ok1.ok)] at hd
      have ld : ds.length ≤ 40 := by
        rw [hd.1]
        rw [ej, List.length_append] at l1
        have : (sub one (.take b m)).length = (tk m (dr b one)).length := rfl
        omega
      have tm : TM H4 (upd H4 L (.lst (cs.map V.ref ++ ds.map V.ref))) := fun a xs h => updN (ne_of h (g4 _ _ hL) (by intro z; cases z)) h
      refine ⟨L, M, _, _, rfl, rfl, g4 _ _ hL, .inl hM, by rw [List.length_map, List.length_map]; omega, Same.updI (q1.trans g4) nL, cs ++ ds, _, ?_, ?_, rfl⟩
      · rw [updS, List.map_append]
      · rw [ej]
        exact ((hc.mono (PcAt.mono' (.of g4))).append hd).mono (PcAt.mono' tm)
    | put rs =>
      have h30 := h3
      obtain ⟨q, h4, h5⟩ := h3
      refine ⟨_, rfl, ixT h4 rfl ⟨rfl, _, rfl, ?_⟩⟩
      rw [decide_eq_true rfl]
      have tm : TM H' (upd H' L (.lst (cs.map V.ref ++ [.ref c]))) := fun a xs h => updN (ne_of h hL (by intro z; cases z)) h
      refine iteT ⟨_, rfl, .inl ⟨rfl, _, sqL hL⟩, _, rfl, L, _, _, rfl, rfl, hL, by rw [List.length_map]; exact Nat.lt_of_le_of_lt lc (by decide), Same.updI q1 nL, cs ++ [c], _, ?_, ?_, rfl⟩
      · rw [updS, List.map_append]
        rfl
      · rw [ej]
        exact (hc.snoc h30).mono (PcAt.mono' tm)
  · rintro σ H' ⟨q1, cs, z4, hL, hc, rfl⟩
    rw [List.length_map, hp.1, List.take_of_length_le (Nat.le_refl _)] at hc
    refine ⟨_, rfl, L, _, rfl, .inl ⟨sqL hL, fun r nr => k r _ ((g.trans q1).trans (Same.upd nr)) ⟨cs, updS, hc.mono (PcAt.mono' (.of (Same.upd nr)))⟩⟩⟩
theorem pure_l_is_line (h : sp_l_is_line K vs H Q E) : t_l_is_line K { nx := fun _ H' => Q .non H', rt := Q } (start N_l_is_line vs) H := by
  obtain ⟨z, rfl, o, k⟩ := h
  refine ⟨_, rfl, isi (.base (.str z)) k_ss ⟨_, rfl, iteF ⟨_, rfl, lenS (Nat.le_trans o.1 (by decide)) ⟨_, _, rfl, rfl, _, rfl, ?_⟩⟩⟩⟩
  rw [decide_eq_false (show ¬ (40 : Int) < ((z.length : Nat) : Int) by have := o.1; show ¬ (40 : Int) < ((z.cps.size : Nat) : Int); omega)]
  refine iteF ⟨_, rfl, z, rfl, for_it walk_str (fun i σ H' => H' = H ∧ ∃ w, σ = [some (.str z), w]) ⟨rfl, none, rfl⟩ (fun _ _ _ _ _ => True.intro) ?_ ?_⟩
  · rintro i x σ H' H'' hi ⟨rfl, w, rfl⟩ ⟨rfl, c, hc, rfl⟩
    have oc : OkC c := o.2 c (by obtain ⟨q1, q2⟩ := Array.getElem?_eq_some_iff.mp hc; rw [← q2]; exact Array.getElem_mem_toList q1)
    have n1 := blank_le oc.1
    have n2 := le_tilde oc.2.1
    rw [Bool.not_eq_true'] at n1 n2
    refine ⟨_, rfl, _, _, rfl, rfl, _, rfl, ?_⟩
    rw [n1]
    refine iteF ⟨_, rfl, _, _, rfl, rfl, _, rfl, ?_⟩
    rw [n2]
    exact iteF ⟨rfl, _, rfl⟩
  · rintro σ H' ⟨rfl, w, rfl⟩
    exact k
theorem pure_l_size (h : sp_l_size K vs H Q E) : t_l_size K { nx := fun _ H' => Q .non H', rt := Q } (start N_l_size vs) H := by
  obtain ⟨a, p, rfl, ha, ok, k⟩ := h
  cases p with
  | take b m =>
    have ok : 1 ≤ m := ok
    refine ⟨_, rfl, isi (.base (.tup ha)) k_tt ⟨_, rfl, iteF ⟨_, rfl, lenT ha ⟨_, _, rfl, rfl, _, rfl, iteF ⟨_, rfl, ixT ha rfl (isi (.base (.str _)) k_ss ⟨_, rfl, iteF ?_⟩)⟩⟩⟩⟩⟩
    refine ⟨_, rfl, ixT ha rfl ⟨rfl, _, rfl, ?_⟩⟩
    rw [decide_eq_true rfl]
    refine iteT ⟨_, rfl, lenT ha ⟨rfl, _, rfl, iteT ⟨_, rfl, ixT ha rfl ⟨_, rfl, _, rfl, iteT ⟨_, rfl, ixT ha rfl ⟨_, rfl, _, rfl, iteT ?_⟩⟩⟩⟩⟩⟩
    refine ⟨_, rfl, ixT ha rfl ⟨_, _, rfl, rfl, _, rfl, ?_⟩⟩
    rw [decide_eq_true (show (0 : Int) ≤ (b : Int) by omega)]
    refine iteT ⟨_, rfl, ixT ha rfl ⟨_, _, rfl, rfl, _, rfl, ?_⟩⟩
    rw [decide_eq_true (show (1 : Int) ≤ (m : Int) by omega)]
    exact iteT ⟨_, rfl, ixT ha rfl k⟩
  | put rs =>
    obtain ⟨r, h1, h2⟩ := ha
    refine ⟨_, rfl, isi (.base (.tup h1)) k_tt ⟨_, rfl, iteF ⟨_, rfl, lenT h1 ⟨_, _, rfl, rfl, _, rfl, iteF ⟨_, rfl, ixT h1 rfl (isi (.base (.str _)) k_ss ⟨_, rfl, iteF ?_⟩)⟩⟩⟩⟩⟩
    refine ⟨_, rfl, ixT h1 rfl ⟨rfl, _, rfl, ?_⟩⟩
    rw [put_take]
    refine iteF (iteF ⟨_, rfl, ixT h1 rfl ⟨rfl, _, rfl, ?_⟩⟩)
    rw [decide_eq_true rfl]
    refine iteF ⟨_, rfl, lenT h1 ⟨rfl, _, rfl, iteF ⟨_, rfl, ixT h1 rfl (isi (.base (.tup h2)) k_tt ⟨_, rfl, iteF ?_⟩)⟩⟩⟩
    refine ⟨_, rfl, ixT h1 rfl ⟨r, rfl, ⟨_, sqT h2⟩, for_tup (K := K) (a := r) (xs := rs.map V.str) (fun i σ H' => H' = H ∧ ∃ w, σ = [some (.ref a), w]) ⟨rfl, none, rfl⟩ (fun _ _ _ _ p => by rw [p.1]; exact sqT h2) ?_ ?_⟩⟩
    · rintro i x σ H' hx ⟨rfl, w, rfl⟩
      rw [List.getElem?_map] at hx
      cases q : rs[i]? with
      | none => rw [q] at hx; cases hx
      | some z =>
        rw [q] at hx
        cases Option.some.inj hx
        exact ⟨_, rfl, z, rfl, ok.2 z (List.mem_of_getElem? q), _, rfl, iteF ⟨rfl, _, rfl⟩⟩
    · rintro σ H' ⟨rfl, w, rfl⟩
      refine ⟨_, rfl, ixT h1 rfl (lenT h2 ?_)⟩
      rw [List.length_map]
      exact k
end
end Fw

set_option Elab.async false
set_option linter.all false
set_option maxRecDepth 100000
set_option maxHeartbeats 4000000
namespace Fw
open PySem L2 RZ RT
def lastOf (l : List (Nat × Nat)) : Nat → Int
  | 0 => -1
  | j + 1 => match l[j]? with
    | some x => (x.1 : Int)
    | none => -1
theorem lastOf_succ {l : List (Nat × Nat)} {j : Nat} {x : Nat × Nat} (h : l[j]? = some x) : lastOf l (j + 1) = (x.1 : Int) := by
  show (match l[j]? with | some x => (x.1 : Int) | none => -1) = _
  rw [h]
theorem step_len (acc : List Gp) (s : Nat × Nat) : (step acc s).length ≤ acc.length + 1 := by
  unfold step
  cases acc.getLast? with
  | none =>
    show (acc ++ [_]).length ≤ _
    rw [List.length_append]
    exact Nat.le_refl _
  | some g =>
    show (if g.1 = s.1 then acc.dropLast ++ [(g.1, g.2.1, s.2 + 1)] else acc ++ [(s.1, s.2, s.2 + 1)]).length ≤ _
    by_cases q : g.1 = s.1
    · rw [if_pos q, List.length_append, List.length_dropLast]
      show acc.length - 1 + 1 ≤ _
      omega
    · rw [if_neg q, List.length_append]
      exact Nat.le_refl _
theorem fold_len : ∀ (l : List (Nat × Nat)) (acc : List Gp), (l.foldl step acc).length ≤ acc.length + l.length
  | [], acc => Nat.le_refl _
  | s :: l, acc => by
    show (l.foldl step (step acc s)).length ≤ _
    have a := fold_len l (step acc s)
    have b := step_len acc s
    rw [List.length_cons]
    omega
theorem grp_len (l : List (Nat × Nat)) : (grp l).length ≤ l.length := by
  have := fold_len l []
  rw [List.length_nil, Nat.zero_add] at this
  exact this
theorem grp_same {l : List (Nat × Nat)} (cq : Cq l) {j i pl : Nat} (hx : l[j]? = some (i, pl)) (q : (i : Int) = lastOf l j) : ∃ init lo, lo < pl ∧ grp (l.take j) = init ++ [(i, lo, pl)] ∧ grp (l.take (j + 1)) = init ++ [(i, lo, pl + 1)] := by
  have hj := (List.getElem?_eq_some_iff.mp hx).1
  cases j with
  | zero =>
    have q : (i : Int) = -1 := q
    omega
  | succ j =>
    obtain ⟨init, i0, lo, pl0, h1, h2, h3⟩ := grp_inv cq j (by omega)
    rw [lastOf_succ h3] at q
    have e : i0 = i := by
      have q : (i : Int) = (i0 : Int) := q
      omega
    subst e
    have c : pl = pl0 + 1 := cq j _ _ h3 hx rfl
    subst c
    refine ⟨init, lo, by omega, h1, ?_⟩
    rw [grp_snoc hx, h1, step_same]
theorem grp_new {l : List (Nat × Nat)} (cq : Cq l) {j i pl : Nat} (hx : l[j]? = some (i, pl)) (q : (i : Int) ≠ lastOf l j) : grp (l.take (j + 1)) = grp (l.take j) ++ [(i, pl, pl + 1)] := by
  have hj := (List.getElem?_eq_some_iff.mp hx).1
  cases j with
  | zero =>
    rw [grp_snoc hx, List.take_zero]
    rfl
  | succ j =>
    obtain ⟨init, i0, lo, pl0, h1, h2, h3⟩ := grp_inv cq j (by omega)
    rw [lastOf_succ h3] at q
    rw [grp_snoc hx, h1]
    exact step_new _ _ _ _ _ _ (fun e => q (by rw [e]))
theorem tp_take {ps : List Pc} {i b m lo hi : Nat} (h : ps[i]? = some (.take b m)) : tpAt ps (i, lo, hi) = .take lo hi := by
  unfold tpAt
  rw [h]
theorem tp_put {ps : List Pc} {i lo hi : Nat} {rs : List Str} (h : ps[i]? = some (.put rs)) : tpAt ps (i, lo, hi) = .put ((rs.drop lo).take (hi - lo)) := by
  unfold tpAt
  rw [h]
section
variable {K : PySem.W.Frag} {vs : List V} {H : Hp} {Q : VK} {E : XK}
def TuI (H : Hp) (s L F : Addr) (ps : List Pc) (part : List (Nat × Nat)) (j : Nat) (σ : L2.St) (H' : Hp) : Prop := Same H H' ∧ ∃ (fs : List Addr) (z4 z5 z6 : Option V), H' F = some (.lst (fs.map V.ref)) ∧ LsAt (PcAt H') fs ((grp (part.take j)).map (tpAt ps)) ∧
  σ = [some (.ref s), some (.ref L), some (.ref F), some (.int (lastOf part j)), z4, z5, z6]
theorem pop_last {fs : List Addr} {a : Addr} : ((fs ++ [a]).map V.ref)[((fs ++ [a]).map V.ref).length - 1]? = some (.ref a) := by
  rw [List.map_append, List.length_append]
  show (fs.map V.ref ++ [V.ref a])[(fs.map V.ref).length + 1 - 1]? = _
  rw [Nat.add_sub_cancel, List.getElem?_append_right (Nat.le_refl _), Nat.sub_self]
  rfl
theorem pop_rest {fs : List Addr} {a : Addr} : ((fs ++ [a]).map V.ref).dropLast = fs.map V.ref := by
  rw [List.map_append]
  exact List.dropLast_concat ..
theorem pure_l_turned (h : sp_l_turned K vs H Q E) : t_l_turned K { nx := fun _ H' => Q .non H', rt := Q } (start N_l_turned vs) H := by
  obtain ⟨s, L, ps, bs, part, rfl, ⟨as, ha, hp⟩, hL, hb, hz, cq, hn, val, k⟩ := h
  refine ⟨Nat.zero_le _, fun F nF => ⟨_, rfl, ⟨_, rfl, L, rfl, ⟨_, sqL (updN (ne_of_none hL nF) hL)⟩, ?_⟩⟩⟩
  refine for_list (K := K) (a := L) (xs := bs.map V.ref) (TuI H s L F ps part) ⟨Same.upd nF, [], none, none, none, updS, .nil, rfl⟩ (fun i σ H' _ p => sqL (p.1 _ _ hL)) ?_ ?_
  · rintro j x σ H' hx ⟨s1, fs, z4, z5, z6, hF, hf, rfl⟩
    obtain ⟨a, rfl, hba⟩ := map_ref_get hx
    obtain ⟨⟨i, pl⟩, hpx, hpr⟩ := hb.get hba
    have hpr1 : H' a = some (.tup [.int (i : Int), .int (pl : Int)]) := s1 _ _ hpr
    obtain ⟨p, hpi, hpl⟩ := val _ (List.mem_of_getElem? hpx)
    obtain ⟨c, hac, hpc⟩ := LsAt.at (R := PcAt H) hp hpi
    have h3 := hpc.mono (.of s1)
    have hpl : pl < p.n := hpl
    have lf : fs.length ≤ 1000 := by
      rw [hf.1, List.length_map]
      have := grp_len (part.take j)
      rw [List.length_take] at this
      omega
    refine ⟨a, _, rfl, sqT hpr1, rfl, _, _, rfl, _, _, rfl, rfl, _, rfl, _, rfl, ixT (s1 _ _ ha) (atI_ref hac) ?_⟩
    have el := lastOf_succ hpx
    -- the new group at T, behind fs'
    have fin : ∀ (T : Addr) (fs' : List Addr) (H2 : Hp) (Dn : Ends), (∀ σ H', TuI H s L F ps part (j + 1) σ H' → Dn.nx σ H') → Same H H2 → H2 F = some (.lst (fs'.map V.ref)) → fs'.length ≤ 1000 → LsAt (PcAt H2) (fs' ++ [T]) ((grp (part.take (j + 1))).map (tpAt ps)) →
        rAppend (.ref F) [.ref T] H2 fun _ H4 => t_l_turned_fin K Dn [some (.ref s), some (.ref L), some (.ref F), some (.int (lastOf part j)), some (.int (i : Int)), some (.int (pl : Int)), some (.ref c)] H4 := by
      intro T fs' H2 Dn kd s2 hF2 hz2 hl2
      have tm : TM H2 (upd H2 F (.lst (fs'.map V.ref ++ [.ref T]))) := fun a xs h => updN (ne_of h hF2 (by intro z; cases z)) h
      refine ⟨F, _, _, rfl, rfl, hF2, by rw [List.length_map]; exact Nat.lt_of_le_of_lt hz2 (by decide), ⟨_, rfl, kd _ _ ⟨Same.updI s2 nF, fs' ++ [T], some (.int (i : Int)), some (.int (pl : Int)), some (.ref c), by rw [updS, List.map_append]; rfl, hl2.mono (PcAt.mono' tm), ?_⟩⟩⟩
      rw [el]
      rfl
    have upF : ∀ (ws : List V), TM H' (upd H' F (.lst ws)) := fun ws a xs h => updN (ne_of h hF (by intro z; cases z)) h
    cases p with
    | take b m =>
      refine ⟨_, rfl, ixT h3 rfl ⟨rfl, _, rfl, ?_⟩⟩
      rw [decide_eq_true rfl]
      refine iteT ⟨_, rfl, _, rfl, rfl, _, rfl, ?_⟩
      by_cases q : (i : Int) = lastOf part j
      · obtain ⟨init, lo, hlo, g1, g2⟩ := grp_same cq hpx q
        rw [g1, List.map_append] at hf
        obtain ⟨fs', a0, rfl, hf1, hf2⟩ := hf.unsnoc
        rw [tp_take hpi] at hf2
        rw [decide_eq_true (show V.int (i : Int) = V.int (lastOf part j) by rw [q])]
        refine iteT ⟨_, rfl, .inl ⟨rfl, _, sqL hF⟩, _, rfl, .inl ⟨rfl, _, sqL hF⟩, F, _, .ref a0, rfl, rfl, hF, pop_last, ?_⟩
        rw [pop_rest]
        refine ixT (upF _ _ _ hf2) rfl ⟨_, rfl, _, _, rfl, rfl, by show (3 : Nat) ≤ sizeLine; decide, fun T nT => ?_⟩
        have nTF : F ≠ T := fun e => by rw [← e, updS] at nT; cases nT
        refine fin T fs' _ _ (fun _ _ z => z) (fun b o e => ?_) (updN nTF updS) (by rw [List.length_append] at lf; omega) ?_
        · refine Same.upd nT b o ?_
          exact updN (ne_of_none e nF) (s1 _ _ e)
        · have tm2 := (upF (fs'.map V.ref)).trans (.of (Same.upd (o := .tup [.str "take", .int (lo : Int), .int ((pl : Int) + 1)]) nT))
          rw [g2, List.map_append]
          refine (hf1.mono (PcAt.mono' tm2)).snoc ?_
          rw [tp_take hpi]
          show upd _ _ _ _ = some (.tup [.str "take", .int (lo : Int), .int ((pl + 1 : Nat) : Int)])
          rw [updS, show ((pl + 1 : Nat) : Int) = (pl : Int) + 1 by omega]
      · rw [decide_eq_false (show ¬ V.int (i : Int) = V.int (lastOf part j) by intro e; injection e with e; exact q e)]
        refine iteF ⟨_, rfl, ixT h3 rfl ⟨rfl, _, rfl, ?_⟩⟩
        rw [decide_eq_true rfl]
        refine iteT ⟨_, rfl, .inl ⟨rfl, _, sqL hF⟩, _, rfl, _, rfl, _, _, rfl, rfl, by show (3 : Nat) ≤ sizeLine; decide, fun T nT => ?_⟩
        refine fin T fs _ _ (fun _ _ z => z) (s1.trans (Same.upd nT)) (Same.upd nT _ _ hF) lf ?_
        rw [grp_new cq hpx q, List.map_append]
        refine (hf.mono (PcAt.mono' (.of (Same.upd nT)))).snoc ?_
        rw [tp_take hpi]
        show upd _ _ _ _ = some (.tup [.str "take", .int (pl : Int), .int ((pl + 1 : Nat) : Int)])
        rw [updS, show ((pl + 1 : Nat) : Int) = (pl : Int) + 1 by omega]
    | put rs =>
      obtain ⟨r, h4, h5⟩ := h3
      have hpl : pl < rs.length := hpl
      refine ⟨_, rfl, ixT h4 rfl ⟨rfl, _, rfl, ?_⟩⟩
      rw [put_take]
      refine iteF (iteF ⟨_, rfl, ixT h4 rfl ⟨rfl, _, rfl, ?_⟩⟩)
      rw [put_take]
      refine iteF ⟨_, rfl, _, rfl, rfl, _, rfl, ?_⟩
      by_cases q : (i : Int) = lastOf part j
      · obtain ⟨init, lo, hlo, g1, g2⟩ := grp_same cq hpx q
        rw [g1, List.map_append] at hf
        obtain ⟨fs', a0, rfl, hf1, hf2⟩ := hf.unsnoc
        rw [tp_put hpi] at hf2
        obtain ⟨r0, h6, h7⟩ := hf2
        rw [decide_eq_true (show V.int (i : Int) = V.int (lastOf part j) by rw [q])]
        refine iteT ⟨_, rfl, .inl ⟨rfl, _, sqL hF⟩, _, rfl, .inl ⟨rfl, _, sqL hF⟩, F, _, .ref a0, rfl, rfl, hF, pop_last, ?_⟩
        rw [pop_rest]
        have s2 : Same H (upd H' F (.lst (fs'.map V.ref))) := Same.updI s1 nF
        have hF2 : upd H' F (.lst (fs'.map V.ref)) F = some (.lst (fs'.map V.ref)) := updS
        have tm2 := upF (fs'.map V.ref)
        generalize upd H' F (.lst (fs'.map V.ref)) = H2 at *
        refine ixT (tm2 _ _ h6) rfl ⟨_, rfl, ixT (tm2 _ _ h4) rfl ⟨_, rfl, _, rfl, _, rfl, _, _, rfl, rfl, _, rfl, ?_⟩⟩
        refine slA (m := 1) (tm2 _ _ h5) (by omega) fun r2 H3 s3 w3 => ?_
        have n1 : ((rs.drop lo).take (pl - lo)).map V.str ≠ [] := fun e => by
          have := congrArg List.length e
          rw [List.length_map, List.length_take, List.length_drop] at this
          simp at this
          omega
        have n2 : ((rs.drop pl).take 1).map V.str ≠ [] := fun e => by
          have := congrArg List.length e
          rw [List.length_map, List.length_take, List.length_drop] at this
          simp at this
          omega
        refine ⟨r0, r2, _, _, rfl, rfl, sqT (s3 _ _ (tm2 _ _ h7)), sqT w3, n1, ?_, fun e => absurd e n2, fun _ R nR => ⟨by show (2 : Nat) ≤ sizeLine; decide, fun T nT => ?_⟩⟩
        · have hB : rs.length ≤ 1000 := hn _ (List.mem_of_getElem? hpi)
          rw [List.length_map, List.length_map, List.length_take, List.length_take, List.length_drop, List.length_drop]
          exact Nat.le_trans (show _ ≤ 100000 by omega) (by decide)
        have s4 : Same H2 (upd (upd H3 R (.tup (((rs.drop lo).take (pl - lo)).map V.str ++ ((rs.drop pl).take 1).map V.str))) T (.tup [.str "put", .ref R])) := (s3.trans (Same.upd nR)).trans (Same.upd nT)
        have nRT : R ≠ T := fun e => by rw [← e, updS] at nT; cases nT
        refine fin T fs' _ _ (fun _ _ z => z) (s2.trans s4) (s4 _ _ hF2) (by rw [List.length_append] at lf; omega) ?_
        rw [g2, List.map_append]
        refine (hf1.mono (PcAt.mono' (tm2.trans (.of s4)))).snoc ?_
        rw [tp_put hpi]
        refine ⟨R, updS, updN nRT ?_⟩
        rw [updS, ← List.map_append, show pl + 1 - lo = (pl - lo) + 1 by omega, List.take_add, List.drop_drop, show lo + (pl - lo) = pl by omega]
      · rw [decide_eq_false (show ¬ V.int (i : Int) = V.int (lastOf part j) by intro e; injection e with e; exact q e)]
        refine iteF ⟨_, rfl, .inl ⟨rfl, _, sqL hF⟩, _, rfl, ixT h4 rfl ⟨_, rfl, _, rfl, _, rfl, _, _, rfl, rfl, _, rfl, ?_⟩⟩
        refine slA (m := 1) h5 (by omega) fun r2 H3 s3 w3 => ⟨by show (2 : Nat) ≤ sizeLine; decide, fun T nT => ?_⟩
        have s4 := s3.trans (Same.upd (o := .tup [.str "put", .ref r2]) nT)
        refine fin T fs _ _ (fun _ _ z => z) (s1.trans s4) (s4 _ _ hF) lf ?_
        rw [grp_new cq hpx q, List.map_append]
        refine (hf.mono (PcAt.mono' (.of s4))).snoc ?_
        rw [tp_put hpi]
        refine ⟨r2, updS, Same.upd nT _ _ ?_⟩
        rw [show pl + 1 - pl = 1 by omega]
        exact w3
  · rintro σ H' ⟨s1, fs, z4, z5, z6, hF, hf, rfl⟩
    rw [List.length_map, hb.1, List.take_of_length_le (Nat.le_refl _)] at hf
    exact ⟨_, rfl, k F fs H' s1 nF hF hf⟩
theorem ivs_le : ∀ {ps : List Pc} {k b m : Nat} {g : Gp}, g ∈ ivs k b m ps → g.2.1 ≤ g.2.2 ∧ k ≤ g.1 ∧ ∃ p, ps[g.1 - k]? = some p
  | p :: ps, k, b, m, g, h => by
    have h : g ∈ (if p.n ≤ b then ivs (k + 1) (b - p.n) m ps else if m = 0 then [] else (k, b, b + min m (p.n - b)) :: ivs (k + 1) 0 (m - (p.n - b)) ps) := h
    have up : ∀ {b m : Nat}, g ∈ ivs (k + 1) b m ps → g.2.1 ≤ g.2.2 ∧ k ≤ g.1 ∧ ∃ q, (p :: ps)[g.1 - k]? = some q := fun h => by
      obtain ⟨h1, h2, q, h3⟩ := ivs_le h
      refine ⟨h1, by omega, q, ?_⟩
      rw [show g.1 - k = (g.1 - (k + 1)) + 1 by omega]
      exact h3
    by_cases q : p.n ≤ b
    · rw [if_pos q] at h
      exact up h
    · rw [if_neg q] at h
      by_cases z : m = 0
      · rw [if_pos z] at h
        cases h
      · rw [if_neg z] at h
        rcases List.mem_cons.mp h with e | h
        · rw [e]
          refine ⟨by show b ≤ b + _; omega, Nat.le_refl _, p, ?_⟩
          show (p :: ps)[k - k]? = _
          rw [Nat.sub_self]
          rfl
        · exact up h
theorem grp_mem {ps : List Pc} {b m : Nat} {g : Gp} (h : g ∈ grp (((spots 0 ps).drop b).take m)) : g.2.1 ≤ g.2.2 ∧ ∃ p, ps[g.1]? = some p := by
  unfold grp at h
  rw [fold_spots ps 0 b m [] (fun _ h => by cases h), List.nil_append] at h
  obtain ⟨h1, _, h3⟩ := ivs_le h
  exact ⟨h1, h3⟩
theorem cutV_nat {cs : List Addr} {b m : Nat} (h : b + m ≤ cs.length) : cutV (cs.map V.ref) (some (b : Int)) (some ((b : Int) + (m : Int))) = ((cs.drop b).take m).map V.ref := by
  unfold cutV
  have e1 : HT.sIx (cs.map V.ref).length 0 (some (b : Int)) = b := by rw [HT.sIx_nat, List.length_map]; omega
  have e2 : HT.sIx (cs.map V.ref).length (cs.map V.ref).length (some ((b : Int) + (m : Int))) = b + m := by
    rw [show ((b : Int) + (m : Int)) = ((b + m : Nat) : Int) by omega, HT.sIx_nat, List.length_map]
    omega
  rw [e1, e2, Nat.add_sub_cancel_left, ← List.map_drop, ← List.map_take]
def fst2 (g : Gp) : Nat × Nat := (g.1, g.2.1)
theorem cut_tp {ps : List Pc} {i lo hi : Nat} {rs : List Str} (h : ps[i]? = some (.put rs)) : cutAt ps (i, lo, hi) = tpAt ps (i, lo, hi) := by
  unfold cutAt tpAt
  rw [h]
  rfl
theorem cut_take {ps : List Pc} {i lo hi b m : Nat} (h : ps[i]? = some (.take b m)) : cutAt ps (i, lo, hi) = .take (b + lo) (hi - lo) := by
  unfold cutAt
  rw [h]
  rfl
theorem TM.kp {D : Addr} {H H' : Hp} {ws : List V} (k : Kp D H H') (h : H D = some (.lst ws)) : TM H H' := fun a xs e => k a _ e (ne_of e h (by intro z; cases z))
/-- the last loop: the groups, cut -/
theorem joined_last {s1 s2 L Du P F G : Addr} {as1 ds fs gs : List Addr} {one : List Pc} {done : List Pc} {part : List (Nat × Nat)} {z3 z4 z6 z10 z11 : Option V} {Dn : Ends} (b m : Nat) (hpt : part = ((spots 0 one).drop b).take m)
    (ha1 : H s1 = some (.tup (as1.map V.ref))) (hp1 : LsAt (PcAt H) as1 one) (hDu : H Du = some (.lst (ds.map V.ref))) (hds : LsAt (PcAt H) ds done) (hF : H F = some (.lst (fs.map V.ref))) (hfs : LsAt (PcAt H) fs ((grp part).map (tpAt one)))
    (hG : H G = some (.lst (gs.map V.ref))) (hgs : LsAt (PrAt H) gs ((grp part).map fst2)) (nDF : Du ≠ F) (nDG : Du ≠ G) (lp : part.length ≤ 100) (ld : done.length ≤ 100)
    (kd : ∀ (ds' : List Addr) (z10 z11 : Option V) (H' : Hp), Kp Du H H' → H' Du = some (.lst (ds'.map V.ref)) → LsAt (PcAt H') ds' (done ++ (grp part).map (cutAt one)) → Dn.nx [some (.ref s1), some (.ref s2), some (.ref L), z3, z4, some (.ref Du), z6, some (.ref P), some (.ref F), some (.ref G), z10, z11] H') :
    t_l_joined_last K Dn [some (.ref s1), some (.ref s2), some (.ref L), z3, z4, some (.ref Du), z6, some (.ref P), some (.ref F), some (.ref G), z10, z11] H := by
  have lg : (grp part).length ≤ 100 := Nat.le_trans (grp_len _) lp
  have lf : fs.length = (grp part).length := by rw [hfs.1, List.length_map]
  have lgs : gs.length = (grp part).length := by rw [hgs.1, List.length_map]
  refine ⟨_, rfl, lenL hF ⟨_, rfl, (len_le (by rw [List.length_map]; omega)).1, (len_le (by rw [List.length_map]; omega)).2, ?_⟩⟩
  refine for_range (lo := 0) (fun j σ H' => Kp Du H H' ∧ ∃ (ds' : List Addr) (z10 z11 : Option V), H' Du = some (.lst (ds'.map V.ref)) ∧ LsAt (PcAt H') ds' (done ++ ((grp part).take j).map (cutAt one)) ∧ σ = [some (.ref s1), some (.ref s2), some (.ref L), z3, z4, some (.ref Du), z6, some (.ref P), some (.ref F), some (.ref G), z10, z11]) ⟨Kp.refl _ _, ds, z10, z11, hDu, by rw [List.take_zero, List.map_nil, List.append_nil]; exact hds, rfl⟩ ?_ ?_
  · rintro j σ H' hj ⟨kp, ds', y10, y11, hD', hd', rfl⟩
    rw [List.length_map] at hj
    have hj : j < (grp part).length := by omega
    have tm : TM H H' := TM.kp kp hDu
    have eg : (grp part)[j]? = some (grp part)[j] := List.getElem?_eq_getElem hj
    obtain ⟨⟨i, lo, hi⟩, egi⟩ : ∃ g, (grp part)[j]? = some g := ⟨_, eg⟩
    have gm : (i, lo, hi) ∈ grp (((spots 0 one).drop b).take m) := by rw [← hpt]; exact List.mem_of_getElem? egi
    obtain ⟨glo, p, hpi⟩ := grp_mem gm
    have glo : lo ≤ hi := glo
    have hpi : one[i]? = some p := hpi
    obtain ⟨c, hac, hpc⟩ := hp1.at hpi
    have hpc := hpc.mono tm
    obtain ⟨f, hff, hfp⟩ := hfs.at (i := j) (x := tpAt one (i, lo, hi)) (by rw [List.getElem?_map, egi]; rfl)
    obtain ⟨g, hgg, hgp⟩ := hgs.at (i := j) (x := fst2 (i, lo, hi)) (by rw [List.getElem?_map, egi]; rfl)
    have hfp := hfp.mono tm
    have hgp : H' g = some (.tup [.int (i : Int), .int (lo : Int)]) := tm _ _ hgp
    have hF' : H' F = some (.lst (fs.map V.ref)) := kp _ _ hF nDF.symm
    have hG' : H' G = some (.lst (gs.map V.ref)) := kp _ _ hG nDG.symm
    have ef : atI (fs.map V.ref) (0 + (j : Int)) = some (.ref f) := by rw [Int.zero_add]; exact atI_ref hff
    have egx : atI (gs.map V.ref) (0 + (j : Int)) = some (.ref g) := by rw [Int.zero_add]; exact atI_ref hgg
    have ls : ds'.length ≤ 1000 := by
      rw [hd'.1, List.length_append, List.length_map, List.length_take]
      omega
    have nx : ((grp part).take (j + 1)).map (cutAt one) = ((grp part).take j).map (cutAt one) ++ [cutAt one (i, lo, hi)] := by rw [take_succ egi, List.map_append]; rfl
    have app : ∀ (T : Addr) (H2 : Hp) (y11 : Option V), Kp Du H H2 → H2 Du = some (.lst (ds'.map V.ref)) → LsAt (PcAt H2) ds' (done ++ ((grp part).take j).map (cutAt one)) → PcAt H2 T (cutAt one (i, lo, hi)) →
        rAppend (.ref Du) [.ref T] H2 fun _ H4 => Kp Du H H4 ∧ ∃ (ds' : List Addr) (z10 z11 : Option V), H4 Du = some (.lst (ds'.map V.ref)) ∧ LsAt (PcAt H4) ds' (done ++ ((grp part).take (j + 1)).map (cutAt one)) ∧ ([some (.ref s1), some (.ref s2), some (.ref L), z3, z4, some (.ref Du), z6, some (.ref P), some (.ref F), some (.ref G), some (.int (0 + (j : Int))), y11] : L2.St) = [some (.ref s1), some (.ref s2), some (.ref L), z3, z4, some (.ref Du), z6, some (.ref P), some (.ref F), some (.ref G), z10, z11] := by
      intro T H2 y11 k2 hD2 hd2 hT
      have tm2 : TM H2 (upd H2 Du (.lst (ds'.map V.ref ++ [.ref T]))) := fun a xs h => updN (ne_of h hD2 (by intro z; cases z)) h
      refine ⟨Du, _, _, rfl, rfl, hD2, by rw [List.length_map]; exact Nat.lt_of_le_of_lt ls (by decide), fun b o e n => updN n (k2 b o e n), ds' ++ [T], _, _, by rw [updS, List.map_append]; rfl, ?_, rfl⟩
      rw [nx, ← List.append_assoc]
      exact (hd2.snoc hT).mono (PcAt.mono' tm2)
    cases p with
    | take b0 m0 =>
      have hfp : H' f = some (.tup [.str "take", .int (lo : Int), .int (hi : Int)]) := by
        rw [tp_take hpi] at hfp
        exact hfp
      refine ⟨_, rfl, _, rfl, ixL hF' ef (ixT hfp rfl ⟨rfl, _, rfl, ?_⟩)⟩
      rw [take_put]
      refine iteF ⟨_, rfl, _, rfl, _, rfl, ixL hG' egx (ixT hgp rfl (ixT (kp _ _ ha1 (ne_of ha1 hDu (by intro z; cases z))) (atI_ref hac) (ixT hpc rfl ?_)))⟩
      refine ⟨_, rfl, .inl ⟨rfl, _, sqL hD'⟩, _, rfl, _, rfl, _, rfl, ixL hF' ef (ixT hfp rfl ⟨_, _, rfl, rfl, _, rfl, _, rfl, ixL hF' ef (ixT hfp rfl ⟨_, rfl, _, rfl, ixL hF' ef (ixT hfp rfl ⟨_, _, rfl, rfl, by show (3 : Nat) ≤ sizeLine; decide, fun T nT => ?_⟩)⟩)⟩)⟩
      have sT : Same H' (upd H' T (.tup [.str "take", .int ((b0 : Int) + (lo : Int)), .int ((hi : Int) - (lo : Int))])) := Same.upd nT
      refine app T _ _ (kp.trans (.of_same sT)) (sT _ _ hD') (hd'.mono (PcAt.mono' (.of sT))) ?_
      rw [cut_take hpi]
      show upd _ _ _ _ = some (.tup [.str "take", .int ((b0 + lo : Nat) : Int), .int ((hi - lo : Nat) : Int)])
      rw [updS, show ((b0 + lo : Nat) : Int) = (b0 : Int) + (lo : Int) by omega, show ((hi - lo : Nat) : Int) = (hi : Int) - (lo : Int) by omega]
    | put rs =>
      have hfc := hfp
      rw [← cut_tp hpi] at hfc
      rw [tp_put hpi] at hfp
      obtain ⟨r, h4, h5⟩ := hfp
      refine ⟨_, rfl, _, rfl, ixL hF' ef (ixT h4 rfl ⟨rfl, _, rfl, ?_⟩)⟩
      rw [decide_eq_true rfl]
      exact iteT ⟨_, rfl, .inl ⟨rfl, _, sqL hD'⟩, _, rfl, _, rfl, ixL hF' ef (app f _ _ kp hD' hd' hfc)⟩
  · rintro σ H' ⟨kp, ds', y10, y11, hD', hd', rfl⟩
    rw [List.length_map, show (((fs.length : Nat) : Int)).toNat = fs.length by omega, lf, List.take_of_length_le (Nat.le_refl _)] at hd'
    exact kd ds' _ _ H' kp hD' hd'
end
end Fw

set_option Elab.async false
set_option linter.all false
set_option maxRecDepth 100000
set_option maxHeartbeats 4000000
namespace Fw
open PySem L2 RZ RT
section
variable {K : PySem.W.Frag} {vs : List V} {H : Hp} {Q : VK} {E : XK}
theorem joined_firsts {s1 s2 L Du P F : Addr} {as1 ds fs cs : List Addr} {one done : List Pc} {part : List (Nat × Nat)} {z3 z4 z6 z9 z10 z11 : Option V} {Dn : Ends} (b m : Nat) (hpt : part = ((spots 0 one).drop b).take m)
    (ha1 : H s1 = some (.tup (as1.map V.ref))) (hp1 : LsAt (PcAt H) as1 one) (hDu : H Du = some (.lst (ds.map V.ref))) (hds : LsAt (PcAt H) ds done) (hF : H F = some (.lst (fs.map V.ref))) (hfs : LsAt (PcAt H) fs ((grp part).map (tpAt one)))
    (hP : H P = some (.lst (cs.map V.ref))) (hcs : LsAt (PrAt H) cs part) (nDF : Du ≠ F) (lp : part.length ≤ 100) (ld : done.length ≤ 100)
    (kd : ∀ (ds' : List Addr) (z9 z10 z11 : Option V) (H' : Hp), Kp Du H H' → H' Du = some (.lst (ds'.map V.ref)) → LsAt (PcAt H') ds' (done ++ (grp part).map (cutAt one)) → Dn.nx [some (.ref s1), some (.ref s2), some (.ref L), z3, z4, some (.ref Du), z6, some (.ref P), some (.ref F), z9, z10, z11] H') :
    t_l_joined_firsts K Dn [some (.ref s1), some (.ref s2), some (.ref L), z3, z4, some (.ref Du), z6, some (.ref P), some (.ref F), z9, z10, z11] H := by
  have cq : Cq part := by rw [hpt]; exact (spots_cq 0 one).slice b m
  have lc : cs.length = part.length := hcs.1
  refine ⟨Nat.zero_le _, fun G nG => ⟨_, rfl, lenL (updN (ne_of_none hP nG) hP) ⟨_, rfl, (len_le (by rw [List.length_map]; omega)).1, (len_le (by rw [List.length_map]; omega)).2, ?_⟩⟩⟩
  refine for_range (lo := 0) (fun j σ H' => Same H H' ∧ ∃ (gs : List Addr) (z10 : Option V), H' G = some (.lst (gs.map V.ref)) ∧ LsAt (PrAt H') gs ((grp (part.take j)).map fst2) ∧ σ = [some (.ref s1), some (.ref s2), some (.ref L), z3, z4, some (.ref Du), z6, some (.ref P), some (.ref F), some (.ref G), z10, z11]) ⟨Same.upd nG, [], z10, updS, .nil, rfl⟩ ?_ ?_
  · rintro j σ H' hj ⟨s, gs, y10, hG, hg, rfl⟩
    rw [List.length_map] at hj
    have hj : j < part.length := by omega
    obtain ⟨⟨i, pl⟩, hx⟩ : ∃ x, part[j]? = some x := ⟨_, List.getElem?_eq_getElem hj⟩
    obtain ⟨c, hc1, hc2⟩ := hcs.at hx
    have hc3 : H' c = some (.tup [.int (i : Int), .int (pl : Int)]) := s _ _ hc2
    have ec : atI (cs.map V.ref) (0 + (j : Int)) = some (.ref c) := by rw [Int.zero_add]; exact atI_ref hc1
    have lg : gs.length ≤ 1000 := by
      rw [hg.1, List.length_map]
      have := grp_len (part.take j)
      rw [List.length_take] at this
      omega
    have new : (i : Int) ≠ lastOf part j → tDrop (tBM K "list" rAppend (tVar 9) (tCons (tOp (rIx K) (tVar 7) (tVar 10)) tNil)) { nx := fun σ H' => Same H H' ∧ ∃ (gs : List Addr) (z10 : Option V), H' G = some (.lst (gs.map V.ref)) ∧ LsAt (PrAt H') gs ((grp (part.take (j + 1))).map fst2) ∧ σ = [some (.ref s1), some (.ref s2), some (.ref L), z3, z4, some (.ref Du), z6, some (.ref P), some (.ref F), some (.ref G), z10, z11], rt := fun _ _ => False } [some (.ref s1), some (.ref s2), some (.ref L), z3, z4, some (.ref Du), z6, some (.ref P), some (.ref F), some (.ref G), some (.int (0 + (j : Int))), z11] H' := by
      intro q
      have tm : TM H' (upd H' G (.lst (gs.map V.ref ++ [.ref c]))) := fun a xs h => updN (ne_of h hG (by intro z; cases z)) h
      refine ⟨_, rfl, .inl ⟨rfl, _, sqL hG⟩, _, rfl, _, rfl, ixL (s _ _ hP) ec ⟨G, _, _, rfl, rfl, hG, by rw [List.length_map]; exact Nat.lt_of_le_of_lt lg (by decide), Same.updI s nG, gs ++ [c], _, by rw [updS, List.map_append]; rfl, ?_, rfl⟩⟩
      rw [grp_new cq hx q, List.map_append]
      exact (hg.snoc (show PrAt H' c (fst2 (i, pl, pl + 1)) from hc3)).mono (PrAt.mono tm)
    refine ⟨_, rfl, rfl, _, rfl, ?_⟩
    by_cases z : j = 0
    · subst z
      refine ite2 (fun _ => ?_) (fun e => absurd (decide_eq_true (by rfl)) e)
      exact new (by show (i : Int) ≠ -1; omega)
    · obtain ⟨j, rfl⟩ : ∃ w, j = w + 1 := ⟨j - 1, by omega⟩
      rw [decide_eq_false (show ¬ V.int (0 + ((j + 1 : Nat) : Int)) = V.int 0 by intro e; injection e with e; omega)]
      obtain ⟨⟨i', pl'⟩, hx'⟩ : ∃ x, part[j]? = some x := ⟨_, List.getElem?_eq_getElem (by omega)⟩
      obtain ⟨c', hc1', hc2'⟩ := hcs.at hx'
      have hc3' : H' c' = some (.tup [.int (i' : Int), .int (pl' : Int)]) := s _ _ hc2'
      have ec' : atI (cs.map V.ref) (0 + ((j + 1 : Nat) : Int) - 1) = some (.ref c') := by
        rw [show (0 + ((j + 1 : Nat) : Int) - 1) = (j : Int) by omega]
        exact atI_ref hc1'
      have el := lastOf_succ hx'
      refine iteF ⟨_, rfl, _, rfl, ixL (s _ _ hP) ec (ixT hc3 rfl ⟨_, rfl, _, rfl, _, _, rfl, rfl, ixL (s _ _ hP) ec' (ixT hc3' rfl ⟨rfl, _, rfl, ?_⟩)⟩)⟩
      by_cases q : (i : Int) = (i' : Int)
      · rw [decide_eq_true (show V.int (i : Int) = V.int (i' : Int) by rw [q])]
        obtain ⟨init, lo, hlo, g1, g2⟩ := grp_same cq hx (by rw [el]; exact q)
        refine iteF ⟨s, gs, _, hG, ?_, rfl⟩
        rw [g1] at hg
        rw [g2]
        rw [List.map_append] at hg ⊢
        exact hg
      · rw [decide_eq_false (show ¬ V.int (i : Int) = V.int (i' : Int) by intro e; injection e with e; exact q e)]
        exact iteT (new (by rw [el]; exact q))
  · rintro σ H' ⟨s, gs, y10, hG, hg, rfl⟩
    rw [List.length_map, show (((cs.length : Nat) : Int)).toNat = cs.length by omega, lc, List.take_of_length_le (Nat.le_refl _)] at hg
    have nDG : Du ≠ G := ne_of_none hDu nG
    exact joined_last b m hpt (s _ _ ha1) (hp1.mono (PcAt.mono' (.of s))) (s _ _ hDu) (hds.mono (PcAt.mono' (.of s))) (s _ _ hF) (hfs.mono (PcAt.mono' (.of s))) hG hg nDF nDG lp ld
      (fun ds' y10 y11 H2 k2 h1 h2 => kd ds' _ _ _ H2 (fun b o e n => k2 b o (s b o e) n) h1 h2)
theorem pure_l_joined (h : sp_l_joined K vs H Q E) : t_l_joined K { nx := fun _ H' => Q .non H', rt := Q } (start N_l_joined vs) H := by
  obtain ⟨s1, s2, one, other, rfl, ⟨as1, ha1, hp1⟩, ok1, ⟨as2, ha2, hp2⟩, ok2, fit, k⟩ := h
  have hp1 : LsAt (PcAt H) as1 one := hp1
  have l1 : as1.length = one.length := hp1.1
  have z1 := ok1.len
  refine ⟨Nat.zero_le _, fun L nL => ⟨_, rfl, lenT (updN (ne_of_none ha1 nL) ha1) ⟨_, rfl, (len_le (by rw [List.length_map]; omega)).1, (len_le (by rw [List.length_map]; omega)).2, ?_⟩⟩⟩
  refine for_range (lo := 0) (fun i σ H' => Same H H' ∧ ∃ (cs : List Addr) (z3 z4 : Option V), H' L = some (.lst (cs.map V.ref)) ∧ LsAt (PrAt H') cs (spots 0 (one.take i)) ∧ σ = [some (.ref s1), some (.ref s2), some (.ref L), z3, z4, none, none, none, none, none, none, none]) ⟨Same.upd nL, [], none, none, updS, .nil, rfl⟩ ?_ ?_
  · rintro i σ H' hi ⟨s, cs, z3, z4, hL, hc, rfl⟩
    rw [List.length_map] at hi
    have hi : i < one.length := by omega
    obtain ⟨p, hp⟩ : ∃ p, one[i]? = some p := ⟨_, List.getElem?_eq_getElem hi⟩
    obtain ⟨c, hc1, hc2⟩ := hp1.at hp
    have ec : atI (as1.map V.ref) (0 + (i : Int)) = some (.ref c) := by rw [Int.zero_add]; exact atI_ref hc1
    have np : p.n ≤ 40 := Nat.le_trans (n_le_total (List.mem_of_getElem? hp)) ok1.few
    have lsp : (spots 0 (one.take i)).length ≤ 40 := by rw [spots_len]; exact Nat.le_trans (total_take_le i) ok1.few
    refine ⟨_, rfl, _, rfl, ixT (s _ _ ha1) ec ⟨c, p, rfl, hc2.mono (.of s), ok1.ok p (List.mem_of_getElem? hp), ⟨_, rfl, (len_le (by omega)).1, (len_le (by omega)).2, ?_⟩⟩⟩
    refine for_range (lo := 0) (fun j σ H' => Same H H' ∧ ∃ (cs : List Addr) (z4 : Option V), H' L = some (.lst (cs.map V.ref)) ∧ LsAt (PrAt H') cs (spots 0 (one.take i) ++ run i 0 j) ∧ σ = [some (.ref s1), some (.ref s2), some (.ref L), some (.int (0 + (i : Int))), z4, none, none, none, none, none, none, none]) ⟨s, cs, z4, hL, by show LsAt _ _ (_ ++ []); rw [List.append_nil]; exact hc, rfl⟩ ?_ ?_
    · rintro j σ H2 hj ⟨s2, cs, z4, hL, hc, rfl⟩
      have hj : j < p.n := by omega
      refine ⟨_, rfl, .inl ⟨rfl, _, sqL hL⟩, _, rfl, _, rfl, by show (2 : Nat) ≤ sizeLine; decide, fun T nT => ?_⟩
      have sT : Same H2 (upd H2 T (.tup [.int (0 + (i : Int)), .int (0 + (j : Int))])) := Same.upd nT
      have hT : upd H2 T (.tup [.int (0 + (i : Int)), .int (0 + (j : Int))]) T = some (.tup [.int (0 + (i : Int)), .int (0 + (j : Int))]) := updS
      have hL2 := sT _ _ hL
      have hc2 := hc.mono (PrAt.mono (.of sT))
      generalize upd H2 T (.tup [.int (0 + (i : Int)), .int (0 + (j : Int))]) = H3 at *
      have tm : TM H3 (upd H3 L (.lst (cs.map V.ref ++ [.ref T]))) := fun a xs h => updN (ne_of h hL2 (by intro z; cases z)) h
      refine ⟨L, _, _, rfl, rfl, hL2, ?_, Same.updI (s2.trans sT) nL, cs ++ [T], _, by rw [updS, List.map_append]; rfl, ?_, rfl⟩
      · rw [List.length_map, hc.1, List.length_append, run_len]
        exact Nat.lt_of_le_of_lt (show _ ≤ 1000 by omega) (by decide)
      · rw [run_snoc, ← List.append_assoc]
        refine (hc2.snoc ?_).mono (PrAt.mono tm)
        show H3 T = some (.tup [.int (i : Int), .int ((0 + j : Nat) : Int)])
        rw [hT, Int.zero_add, Int.zero_add, Nat.zero_add]
    · rintro σ H2 ⟨s2, cs, z4, hL, hc, rfl⟩
      refine ⟨s2, cs, _, _, hL, ?_, rfl⟩
      rw [take_succ hp, spots_snoc, List.length_take, Nat.zero_add, show min i one.length = i by omega]
      rw [show ((p.n : Nat) : Int).toNat = p.n by omega] at hc
      exact hc
  · rintro σ H1 ⟨g1, cs, z3, z4, hL, hc, rfl⟩
    rw [List.length_map, show (((as1.length : Nat) : Int)).toNat = as1.length by omega, l1, List.take_of_length_le (Nat.le_refl _)] at hc
    have lcs : cs.length = total one := by rw [hc.1, spots_len]
    have ft := ok1.few
    have ha21 := g1 _ _ ha2
    refine ⟨Nat.zero_le _, fun Du nD => ⟨_, rfl, s2, rfl, ⟨_, sqT (updN (ne_of_none ha21 nD) ha21)⟩, ?_⟩⟩
    refine for_tup (K := K) (a := s2) (xs := as2.map V.ref) (fun i σ H' => Same H1 H' ∧ ∃ (ds : List Addr) (z6 z7 z8 z9 z10 z11 : Option V), H' Du = some (.lst (ds.map V.ref)) ∧ LsAt (PcAt H') ds (join one (other.take i)) ∧ σ = [some (.ref s1), some (.ref s2), some (.ref L), z3, z4, some (.ref Du), z6, z7, z8, z9, z10, z11]) ⟨Same.upd nD, [], none, none, none, none, none, none, updS, .nil, rfl⟩ (fun i σ H' _ p => sqT (p.1 _ _ ha21)) ?_ ?_
    · rintro i x σ H' hx ⟨q1, ds, z6, z7, z8, z9, z10, z11, hD, hd, rfl⟩
      have g2 : Same H H' := g1.trans q1
      obtain ⟨c, p, rfl, h1, h2, h3⟩ := sc_get (hp2.mono (.of g2)) hx
      have ldone := join_len ok1 ok2 fit i
      have lds : ds.length ≤ 40 := by rw [hd.1]; exact ldone
      have f := fit p (List.mem_of_getElem? h2)
      have ej := join_snoc (f := one) h2
      cases p with
      | put rs =>
        have h30 := h3
        obtain ⟨q, h4, h5⟩ := h3
        refine ⟨_, rfl, ixT h4 rfl ⟨rfl, _, rfl, ?_⟩⟩
        rw [decide_eq_true rfl]
        have tm : TM H' (upd H' Du (.lst (ds.map V.ref ++ [.ref c]))) := fun a xs h => updN (ne_of h hD (by intro z; cases z)) h
        refine iteT ⟨_, rfl, .inl ⟨rfl, _, sqL hD⟩, _, rfl, Du, _, _, rfl, rfl, hD, by rw [List.length_map]; exact Nat.lt_of_le_of_lt lds (by decide), Same.updI q1 nD, ds ++ [c], _, _, _, _, _, _, ?_, ?_, rfl⟩
        · rw [updS, List.map_append]
          rfl
        · rw [ej]
          exact (hd.snoc h30).mono (PcAt.mono' tm)
      | take b m =>
        have f : b + m ≤ total one := f
        refine ⟨_, rfl, ixT h3 rfl ⟨rfl, _, rfl, ?_⟩⟩
        rw [take_put]
        refine iteF ⟨_, rfl, _, rfl, ixT h3 rfl ⟨_, rfl, _, rfl, ixT h3 rfl ⟨_, rfl, ixT h3 rfl ⟨_, _, rfl, rfl, _, rfl, L, _, rfl, sqL (q1 _ _ hL), fun P nP => ?_⟩⟩⟩⟩
        rw [cutV_nat (by omega)]
        have sP : Same H' (upd H' P (.lst (((cs.drop b).take m).map V.ref))) := Same.upd nP
        have hP : upd H' P (.lst (((cs.drop b).take m).map V.ref)) P = some (.lst (((cs.drop b).take m).map V.ref)) := updS
        have lpart : (((spots 0 one).drop b).take m).length ≤ 40 := by
          rw [List.length_take, List.length_drop, spots_len]
          omega
        have g3 := g2.trans sP
        have hcP := (hc.slice b m).mono (PrAt.mono (.of (q1.trans sP)))
        have hD3 := sP _ _ hD
        have hd3 := hd.mono (PcAt.mono' (.of sP))
        generalize upd H' P (.lst (((cs.drop b).take m).map V.ref)) = H3 at *
        refine ⟨_, rfl, _, rfl, s1, P, one, (cs.drop b).take m, ((spots 0 one).drop b).take m, rfl, ⟨as1, g3 _ _ ha1, hp1.mono (PcAt.mono' (.of g3))⟩, hP, hcP, by omega, (spots_cq 0 one).slice b m, fun p hp => ?_, fun x hx => ?_, fun F fs H4 s4 nF hF hf => ?_⟩
        · have := n_le_total hp
          omega
        · obtain ⟨_, q, h1, h2⟩ := spots_mem (List.mem_of_mem_drop (List.mem_of_mem_take hx))
          exact ⟨q, h1, h2⟩
        have g4 := g3.trans s4
        have nDF : Du ≠ F := ne_of_none hD3 nF
        refine joined_firsts b m rfl (g4 _ _ ha1) (hp1.mono (PcAt.mono' (.of g4))) (s4 _ _ hD3) (hd3.mono (PcAt.mono' (.of s4))) hF hf (s4 _ _ hP) (hcP.mono (PrAt.mono (.of s4))) nDF (by omega) (by omega) (fun ds' y9 y10 y11 H5 k5 hD5 hd5 => ?_)
        rw [grp_cut (Pos.of_ok ok1.ok)] at hd5
        refine ⟨fun a o e => k5 a o (s4 _ _ (sP _ _ (q1 _ _ e))) (ne_of_none e nD), ds', _, _, _, _, _, _, hD5, ?_, rfl⟩
        rw [ej]
        exact hd5
    · rintro σ H' ⟨q1, ds, z6, z7, z8, z9, z10, z11, hD, hd, rfl⟩
      rw [List.length_map, hp2.1, List.take_of_length_le (Nat.le_refl _)] at hd
      exact ⟨_, rfl, Du, _, rfl, .inl ⟨sqL hD, fun r nr => k r _ ((g1.trans q1).trans (Same.upd nr)) ⟨ds, updS, hd.mono (PcAt.mono' (.of (Same.upd nr)))⟩⟩⟩
end
end Fw

set_option Elab.async false
set_option linter.all false
set_option maxRecDepth 100000
set_option maxHeartbeats 4000000
namespace Fw
open PySem L2 RZ RT
theorem SqL.kp {K : PySem.W.Frag} {D a : Addr} {H H' : Hp} {xs : List V} (h : SqL K H a xs) (k : Kp D H H') (n : H D = none) : SqL K H' a xs := by
  rcases h with (h | ⟨o, h⟩) | h
  · exact .inl (.inl (k _ _ h (ne_of_none h n)))
  · exact .inl (.inr ⟨o, k _ _ h (ne_of_none h n)⟩)
  · exact .inr h
abbrev N_law : List Str := ["_law_script_here", "_law_deck_here", "_law_stock_here", "_law_k", "_law_base", "_law_one", "_law_middle", "_law_other", "_law_last", "_law_third", "_law_due", "_law_told", "_law_left", "_law_right"]
def t_law (K : PySem.W.Frag) : TS := (tSeq (tAsg (tCall (sp_l_deck K) [] E0 (tCons (tVar 0) tNil)) (gName 1))
    (tSeq (tAsg (tCall (sp_l_stock K) [] E0 (tCons (tVar 1) tNil)) (gName 2))
    (tSeq (tFor (iRng1 (tCons (tOp rAddI (tC (.int 1)) (tOp rDivI (tCB fMin2 (tCons (tCB (fLen K) (tCons (tVar 0) tNil)) (tCons (tC (.int 40)) tNil))) (tC (.int 8)))) tNil)) (gName 3) (tSeq (tAsg (tCall (sp_l_lines K) [] E0 (tCons (tVar 1) (tCons (tVar 2) (tCons (tCall (sp_l_most K) [] E0 (tCons (tVar 1) tNil)) tNil)))) (gName 4))
    (tSeq (tAsg (tCall (sp_l_script K) [] E0 (tCons (tVar 1) (tCons (tVar 4) (tCons (tVar 2) (tCons (tCall (sp_l_most K) [] E0 (tCons (tVar 1) tNil)) tNil))))) (gName 5))
    (tSeq (tAsg (tCall (sp_l_made K) [] E0 (tCons (tVar 4) (tCons (tVar 5) tNil))) (gName 6))
    (tSeq (tAsg (tCall (sp_l_script K) [] E0 (tCons (tVar 1) (tCons (tVar 6) (tCons (tVar 2) (tCons (tCall (sp_l_most K) [] E0 (tCons (tVar 1) tNil)) tNil))))) (gName 7))
    (tSeq (tAsg (tCall (sp_l_made K) [] E0 (tCons (tVar 6) (tCons (tVar 7) tNil))) (gName 8))
    (tSeq (tAsg (tCall (sp_l_script K) [] E0 (tCons (tVar 1) (tCons (tVar 8) (tCons (tVar 2) (tCons (tC (.int 9)) tNil))))) (gName 9))
    (tSeq (tAsg (tCall (sp_l_joined K) [] E0 (tCons (tVar 5) (tCons (tVar 7) tNil))) (gName 10))
    (tSeq (tAsg (tCall (sp_joined K) [] E0 (tCons (tVar 4) (tCons (tVar 5) (tCons (tVar 7) tNil)))) (gName 11))
    (tSeq (tIfS (tNot (tB (tCall (sp_l_same2 K) [] E0 (tCons (tVar 11) (tCons (tVar 10) tNil))))) (tRet (tC (.bl false))) tNext)
    (tSeq (tIfS (tNot (tB (tCall (sp_l_same2 K) [] E0 (tCons (tCall (sp_done K) [] E0 (tCons (tVar 4) (tCons (tVar 11) tNil))) (tCons (tVar 8) tNil))))) (tRet (tC (.bl false))) tNext)
    (tSeq (tAsg (tCall (sp_joined K) [] E0 (tCons (tVar 4) (tCons (tVar 11) (tCons (tVar 9) tNil)))) (gName 12))
    (tSeq (tAsg (tCall (sp_joined K) [] E0 (tCons (tVar 4) (tCons (tVar 5) (tCons (tCall (sp_joined K) [] E0 (tCons (tVar 6) (tCons (tVar 7) (tCons (tVar 9) tNil)))) tNil)))) (gName 13))
    (tIfS (tOr (tNot (tB (tCall (sp_l_same2 K) [] E0 (tCons (tVar 12) (tCons (tVar 13) tNil))))) (tNot (tB (tCall (sp_l_same2 K) [] E0 (tCons (tCall (sp_done K) [] E0 (tCons (tVar 4) (tCons (tVar 12) tNil))) (tCons (tCall (sp_l_made K) [] E0 (tCons (tVar 8) (tCons (tVar 9) tNil))) tNil)))))) (tRet (tC (.bl false))) tNext))))))))))))))
    (tRet (tC (.bl true))))))
def LwP (c D S : Addr) (ns : List Int) (t : Nat) (st : List Str) (sh : V) (i : Nat) (σ : L2.St) (H : Hp) : Prop := ∃ z3 z4 z5 z6 z7 z8 z9 z10 z11 z12 z13 : Option V,
  σ = [some sh, some (.ref D), some (.ref S), z3, z4, z5, z6, z7, z8, z9, z10, z11, z12, z13] ∧ Dk c D ns (t + 1200 * i) H ∧ StAt H S st
theorem rows_same {H : Hp} {n : Nat} {r q : Addr} {zs : List Str} (h1 : RwAt H r zs) (h2 : RwAt H q zs) (hz : zs.length ≤ 1000) : SameV H (n + 2) (.ref r) (.ref q) :=
  SameV.tup h1 h2 rfl (by rw [List.length_map]; omega) SameV.strs
theorem SameV.str {H : Hp} {n : Nat} {i j : Str} (e : i = j) : SameV H (n + 1) (.str i) (.str j) := Or.inl ⟨by rw [e], .inr (.inr (.inr ⟨i, rfl⟩))⟩
theorem piece_same {H : Hp} {a b : Addr} {p : Pc} (h1 : PcAt H a p) (h2 : PcAt H b p) (hn : p.n ≤ 1000) : SameV H 5 (.ref a) (.ref b) := by
  cases p with
  | take c m =>
    refine SameV.tup h1 h2 rfl (by show (3 : Nat) ≤ 100000; decide) fun i x y e1 e2 => ?_
    match i, e1, e2 with
    | 0, e1, e2 => cases Option.some.inj e1; cases Option.some.inj e2; exact SameV.str rfl
    | 1, e1, e2 => cases Option.some.inj e1; cases Option.some.inj e2; exact SameV.int rfl
    | 2, e1, e2 => cases Option.some.inj e1; cases Option.some.inj e2; exact SameV.int rfl
  | put rs =>
    obtain ⟨r, h3, h4⟩ := h1
    obtain ⟨q, h5, h6⟩ := h2
    refine SameV.tup h3 h5 rfl (by show (2 : Nat) ≤ 100000; decide) fun i x y e1 e2 => ?_
    match i, e1, e2 with
    | 0, e1, e2 => cases Option.some.inj e1; cases Option.some.inj e2; exact SameV.str rfl
    | 1, e1, e2 => cases Option.some.inj e1; cases Option.some.inj e2; exact rows_same h4 h6 hn
theorem script_same {H : Hp} {a b : Addr} {ps : List Pc} (h1 : ScAt H a ps) (h2 : ScAt H b ps) (ok : ScOk ps) : SameV H 6 (.ref a) (.ref b) := by
  obtain ⟨as, h3, h4⟩ := h1
  obtain ⟨bs, h5, h6⟩ := h2
  have l := ok.len
  have l1 : as.length = ps.length := h4.1
  have l2 : bs.length = ps.length := h6.1
  refine SameV.tup h3 h5 (by rw [List.length_map, List.length_map]; omega) (by rw [List.length_map]; omega) fun i x y e1 e2 => ?_
  obtain ⟨c, rfl, f1⟩ := map_ref_get e1
  obtain ⟨d, rfl, f2⟩ := map_ref_get e2
  obtain ⟨p, hp, hc⟩ := LsAt.get (R := PcAt H) h4 f1
  have hd := h6.2 i d p f2 hp
  refine piece_same hc hd ?_
  have := n_le_total (List.mem_of_getElem? hp)
  have := ok.few
  omega
section
variable {K : PySem.W.Frag} {vs : List V} {H : Hp} {Q : VK} {E : XK}
theorem pure_law (h : sp_law K vs H Q E) : t_law K { nx := fun _ H' => Q .non H', rt := Q } (start N_law vs) H := by
  obtain ⟨a, ns, rfl, hS, hl, k⟩ := h
  refine ⟨_, rfl, a, ns, rfl, hS, hl, fun c D H1 s1 nc nD d1 => ?_⟩
  refine ⟨_, rfl, c, D, ns, 0, rfl, d1, by decide, fun S st H4 sa nS k2 d2 => ?_⟩
  have nSD : S ≠ D := d1.neD nS
  have kp : Kp D H H4 := (Kp.of_same s1).trans k2
  have hS4 : SqL K H4 a (ns.map V.int) := SqL.kp hS kp nD
  have mm := min2_eq (i := ((ns.map V.int).length : Int)) (j := 40)
  have hml : (ns.map V.int).length = ns.length := List.length_map ..
  have g0 : (0 : Int) ≤ (if (40 : Int) < ((ns.map V.int).length : Int) then 40 else ((ns.map V.int).length : Int)) := by
    by_cases q : (40 : Int) < ((ns.map V.int).length : Int)
    · rw [if_pos q]; omega
    · rw [if_neg q]; omega
  refine ⟨_, rfl, ⟨_, _, rfl, .inl ⟨_, hS4, rfl⟩, _, _, rfl, _, _, rfl, rfl, ⟨by decide, by decide⟩, _, _, rfl, rfl, _, rfl, by omega, by omega, ?_⟩⟩
  refine for_range (lo := 0) (LwP c D S ns 300 st (.ref a)) ⟨none, none, none, none, none, none, none, none, none, none, none, rfl, d2.le (by omega), sa⟩ ?_ ?_
  · rintro i σ H5 hi ⟨z3, z4, z5, z6, z7, z8, z9, z10, z11, z12, z13, rfl, d5, sa5⟩
    have hi2 : i ≤ 11 := by omega
    -- base
    refine ⟨_, rfl, _, rfl, _, rfl, c, D, ns, _, rfl, d5, by omega, fun m1 H6 m10 m11 k6 d6 => ?_⟩
    refine ⟨c, D, S, ns, _, st, m1, rfl, d6, sa5.kp k6 nSD, nSD, m10, m11, by omega, fun B bs H7 hB hbs hbl k7 d7 => ?_⟩
    have sa7 := (sa5.kp k6 nSD).kp k7 nSD
    -- one
    refine ⟨_, rfl, _, rfl, _, rfl, _, rfl, c, D, ns, _, rfl, d7, by omega, fun m2 H8 m20 m21 k8 d8 => ?_⟩
    have hB8 : RwAt H8 B bs := k8.tup d7 _ _ hB
    have sa8 := sa7.kp k8 nSD
    refine ⟨c, D, B, S, ns, _, bs, st, m2, rfl, d8, hB8, by omega, sa8, nSD, m20, m21, by omega, fun P1 one H9 hP1 ok1 fit1 few1 sub1 k9 d9 => ?_⟩
    have hB9 : RwAt H9 B bs := k9.tup d8 _ _ hB8
    have sa9 := sa8.kp k9 nSD
    have lm1 := makes_len fit1
    have t1 := ok1.few
    -- middle
    refine ⟨_, rfl, _, rfl, B, P1, bs, one, rfl, hB9, hP1, ok1, fit1, fun M A1 q1 hM => ?_⟩
    have d10 := d9.same q1
    have sa10 := sa9.same q1
    -- other
    refine ⟨_, rfl, _, rfl, _, rfl, _, rfl, c, D, ns, _, rfl, d10, by omega, fun m3 H11 m30 m31 k11 d11 => ?_⟩
    have hM11 : RwAt H11 M (makes bs one) := k11.tup d10 _ _ hM
    have sa11 := sa10.kp k11 nSD
    refine ⟨c, D, M, S, ns, _, makes bs one, st, m3, rfl, d11, hM11, by omega, sa11, nSD, m30, m31, by omega, fun P2 other H12 hP2 ok2 fit2 few2 sub2 k12 d12 => ?_⟩
    rw [lm1] at fit2
    have tmA : TM H9 H12 := ((TM.of q1).trans (k11.tm d10)).trans (k12.tm d11)
    have hB12 : RwAt H12 B bs := tmA _ _ hB9
    have hP112 := hP1.mono tmA
    have hM12 : RwAt H12 M (makes bs one) := k12.tup d11 _ _ hM11
    have sa12 := sa11.kp k12 nSD
    have t2 := ok2.few
    have lm2 : (makes (makes bs one) other).length = total other := makes_len (by rw [lm1]; exact fit2)
    -- last
    refine ⟨_, rfl, _, rfl, M, P2, makes bs one, other, rfl, hM12, hP2, ok2, by rw [lm1]; exact fit2, fun L A2 q2 hL => ?_⟩
    have d13 := d12.same q2
    have sa13 := sa12.same q2
    -- third
    refine ⟨_, rfl, _, rfl, _, rfl, c, D, L, S, ns, _, makes (makes bs one) other, st, 9, rfl, d13, hL, by omega, sa13, nSD, by decide, by decide, by omega, fun P3 third H14 hP3 ok3 fit3 few3 sub3 k14 d14 => ?_⟩
    rw [lm2] at fit3
    have tmB : TM H12 H14 := (TM.of q2).trans (k14.tm d13)
    have sa14 := sa13.kp k14 nSD
    have hB14 : RwAt H14 B bs := tmB _ _ hB12
    have hM14 : RwAt H14 M (makes bs one) := tmB _ _ hM12
    have hL14 : RwAt H14 L (makes (makes bs one) other) := k14.tup d13 _ _ hL
    have c1 := hP112.mono tmB
    have c2 := hP2.mono tmB
    clear hP1 hP2 hP112 hB12 hM12 hL hB9 hB8 hB hM hM11 sa13 sa12 sa11 sa10 sa9 sa8 sa7 sa5 d13 d12 d11 d10 d9 d8 d7 d6 d5 k14 k12 k11 k9 k8 k7 k6 q1 q2 tmA tmB sub1 sub2 sub3
    have okJ := join_ok ok1 ok2 fit2
    have fitJ : ∀ p ∈ join one other, p.fits bs.length := join_fits fit1
    have totJ := total_join fit2
    have mkJ : makes bs (join one other) = makes (makes bs one) other := makes_join fit1
    -- due, told
    refine ⟨_, rfl, _, rfl, P1, P2, one, other, rfl, c1, ok1, c2, ok2, fit2, fun R1 B1 r1 w1 => ?_⟩
    refine ⟨_, rfl, _, rfl, _, rfl, B, P1, P2, bs, one, other, rfl, r1 _ _ hB14, c1.mono (.of r1), ok1, fit1, c2.mono (.of r1), ok2, fit2, fun R2 B2 r2 w2 => ?_⟩
    have g2 := r1.trans r2
    refine ⟨_, rfl, _, rfl, _, _, rfl, script_same w2 (w1.mono (.of r2)) okJ, fun B3 r3 => ⟨_, rfl, iteF ?_⟩⟩
    have g3 := g2.trans r3
    have w23 := w2.mono (.of r3)
    -- done
    refine ⟨_, rfl, _, rfl, B, R2, bs, join one other, rfl, g3 _ _ hB14, w23, okJ, fitJ, fun X B4 r4 w4 => ⟨_, rfl, ?_⟩⟩
    rw [mkJ] at w4
    have g4 := g3.trans r4
    refine ⟨_, _, rfl, rows_same w4 (g4 _ _ hL14) (by omega), fun B5 r5 => ⟨_, rfl, iteF ?_⟩⟩
    have g5 := g4.trans r5
    have w25 := w23.mono (.of (r4.trans r5))
    -- left
    have fit3J : ∀ p ∈ third, p.fits (total (join one other)) := by rw [totJ]; exact fit3
    refine ⟨_, rfl, _, rfl, _, rfl, B, R2, P3, bs, join one other, third, rfl, g5 _ _ hB14, w25, okJ, fitJ, hP3.mono (.of g5), ok3, fit3J, fun R3 B6 r6 w6 => ?_⟩
    have g6 := g5.trans r6
    -- right
    have okI := join_ok ok2 ok3 fit3
    have fitI : ∀ p ∈ join other third, p.fits (total one) := join_fits fit2
    refine ⟨_, rfl, _, rfl, _, rfl, _, rfl, _, rfl, M, P2, P3, makes bs one, other, third, rfl, g6 _ _ hM14, c2.mono (.of g6), ok2, by rw [lm1]; exact fit2, hP3.mono (.of g6), ok3, fit3, fun R4 B7 r7 w7 => ?_⟩
    have g7 := g6.trans r7
    refine ⟨B, P1, R4, bs, one, join other third, rfl, g7 _ _ hB14, c1.mono (.of g7), ok1, fit1, w7, okI, fitI, fun R5 B8 r8 w8 => ?_⟩
    rw [← join_join (Pos.of_ok ok1.ok) fit2] at w8
    have okL := join_ok okJ ok3 fit3J
    have w68 := w6.mono (.of (r7.trans r8))
    have g8 := g7.trans r8
    refine ⟨_, rfl, _, rfl, _, _, rfl, script_same w68 w8 okL, fun B9 r9 => ⟨_, rfl, iteF ?_⟩⟩
    have g9 := g8.trans r9
    have fitL : ∀ p ∈ join (join one other) third, p.fits bs.length := join_fits fitJ
    refine ⟨_, rfl, _, rfl, B, R3, bs, join (join one other) third, rfl, g9 _ _ hB14, w68.mono (.of r9), okL, fitL, fun Y B10 r10 w10 => ?_⟩
    have g10 := g9.trans r10
    rw [makes_join fitJ, mkJ] at w10
    refine ⟨_, rfl, _, rfl, L, P3, makes (makes bs one) other, third, rfl, g10 _ _ hL14, hP3.mono (.of g10), ok3, by rw [lm2]; exact fit3, fun Z B11 r11 w11 => ?_⟩
    have lz : (makes (makes (makes bs one) other) third).length ≤ 1000 := by
      rw [makes_len (by rw [lm2]; exact fit3)]
      have := ok3.few
      omega
    refine ⟨_, _, rfl, rows_same (r11 _ _ w10) w11 lz, fun B12 r12 => ⟨_, rfl, iteF ?_⟩⟩
    have g12 := (g10.trans r11).trans r12
    exact ⟨_, _, _, _, _, _, _, _, _, _, _, rfl, (d14.same g12).le (by omega), sa14.same g12⟩
  · rintro σ H5 ⟨z3, z4, z5, z6, z7, z8, z9, z10, z11, z12, z13, rfl, d5, sa5⟩
    exact k _
end
end Fw

set_option Elab.async false
set_option linter.all false
set_option maxRecDepth 100000
set_option maxHeartbeats 4000000
namespace K38
open PySem L2 RZ RT Fw
def top (i : Nat) : Stmt := PySem.Challenge.pw_fewasks_k38_whole_joined.main.body.getD i (.Pass ⟨0, 0, 0, 0⟩)
abbrev FnP (K : PySem.W.Frag) (x : Str) (st : Stmt) (f : Addr) (fd : FuncData) : Prop := FunD K x x (defArgs st) (defBody st) (defScope st) [] [] f fd
abbrev s_is_int : Stmt := top 7
theorem sc_is_int : FnScope N_is_int ["thing"] (defScope s_is_int) := ⟨rfl, rfl, rfl, by decide +kernel, rfl, by decide +kernel, by decide +kernel⟩
abbrev s_is_sign : Stmt := top 9
theorem sc_is_sign : FnScope N_is_sign ["sign"] (defScope s_is_sign) := ⟨rfl, rfl, rfl, by decide +kernel, rfl, by decide +kernel, by decide +kernel⟩
abbrev s_is_text : Stmt := top 8
theorem sc_is_text : FnScope N_is_text ["thing"] (defScope s_is_text) := ⟨rfl, rfl, rfl, by decide +kernel, rfl, by decide +kernel, by decide +kernel⟩
abbrev s_is_pair : Stmt := top 10
theorem sc_is_pair : FnScope N_is_pair ["thing"] (defScope s_is_pair) := ⟨rfl, rfl, rfl, by decide +kernel, rfl, by decide +kernel, by decide +kernel⟩
abbrev s_is_row : Stmt := top 11
theorem sc_is_row : FnScope N_is_row ["thing"] (defScope s_is_row) := ⟨rfl, rfl, rfl, by decide +kernel, rfl, by decide +kernel, by decide +kernel⟩
abbrev s_are_put : Stmt := top 15
theorem sc_are_put : FnScope N_are_put ["thing"] (defScope s_are_put) := ⟨rfl, rfl, rfl, by decide +kernel, rfl, by decide +kernel, by decide +kernel⟩
abbrev s_rows_in : Stmt := top 16
theorem sc_rows_in : FnScope N_rows_in ["piece"] (defScope s_rows_in) := ⟨rfl, rfl, rfl, by decide +kernel, rfl, by decide +kernel, by decide +kernel⟩
abbrev s_is_piece : Stmt := top 14
theorem sc_is_piece : FnScope N_is_piece ["thing"] (defScope s_is_piece) := ⟨rfl, rfl, rfl, by decide +kernel, rfl, by decide +kernel, by decide +kernel⟩
abbrev s_is_script : Stmt := top 13
theorem sc_is_script : FnScope N_is_script ["thing"] (defScope s_is_script) := ⟨rfl, rfl, rfl, by decide +kernel, rfl, by decide +kernel, by decide +kernel⟩
abbrev s_is_right_over : Stmt := top 17
theorem sc_is_right_over : FnScope N_is_right_over ["base", "thing"] (defScope s_is_right_over) := ⟨rfl, rfl, rfl, by decide +kernel, rfl, by decide +kernel, by decide +kernel⟩
abbrev s_refuse_wrong : Stmt := top 18
theorem sc_refuse_wrong : FnScope N_refuse_wrong ["base", "thing"] (defScope s_refuse_wrong) := ⟨rfl, rfl, rfl, by decide +kernel, rfl, by decide +kernel, by decide +kernel⟩
abbrev s_made : Stmt := top 20
theorem sc_made : FnScope N_made ["base", "script"] (defScope s_made) := ⟨rfl, rfl, rfl, by decide +kernel, rfl, by decide +kernel, by decide +kernel⟩
abbrev s_done : Stmt := top 19
theorem sc_done : FnScope N_done ["base", "script"] (defScope s_done) := ⟨rfl, rfl, rfl, by decide +kernel, rfl, by decide +kernel, by decide +kernel⟩
abbrev s_cut_piece : Stmt := top 23
theorem sc_cut_piece : FnScope N_cut_piece ["piece", "begin", "end"] (defScope s_cut_piece) := ⟨rfl, rfl, rfl, by decide +kernel, rfl, by decide +kernel, by decide +kernel⟩
abbrev s_part_of : Stmt := top 22
theorem sc_part_of : FnScope N_part_of ["script", "begin", "end"] (defScope s_part_of) := ⟨rfl, rfl, rfl, by decide +kernel, rfl, by decide +kernel, by decide +kernel⟩
abbrev s_joined : Stmt := top 21
theorem sc_joined : FnScope N_joined ["base", "one", "other"] (defScope s_joined) := ⟨rfl, rfl, rfl, by decide +kernel, rfl, by decide +kernel, by decide +kernel⟩
abbrev s_l_deck : Stmt := top 25
abbrev N_l_deck : List Str := ["_law_script_here"]
theorem sc_l_deck : FnScope N_l_deck ["_law_script_here"] (defScope s_l_deck) := ⟨rfl, rfl, rfl, by decide +kernel, rfl, by decide +kernel, by decide +kernel⟩
abbrev s_l_mixed : Stmt := top 26
theorem sc_l_mixed : FnScope N_l_mixed ["_law_cell", "_law_turn"] (defScope s_l_mixed) := ⟨rfl, rfl, rfl, by decide +kernel, rfl, by decide +kernel, by decide +kernel⟩
abbrev s_l_draw : Stmt := top 27
theorem sc_l_draw : FnScope N_l_draw ["_law_deck_here", "_law_many"] (defScope s_l_draw) := ⟨rfl, rfl, rfl, by decide +kernel, rfl, by decide +kernel, by decide +kernel⟩
abbrev s_l_text : Stmt := top 28
abbrev N_l_text : List Str := ["_law_deck_here", "_law_size_here", "_law_signs", "_law_k"]
theorem sc_l_text : FnScope N_l_text ["_law_deck_here", "_law_size_here"] (defScope s_l_text) := ⟨rfl, rfl, rfl, by decide +kernel, rfl, by decide +kernel, by decide +kernel⟩
abbrev s_l_int : Stmt := top 29
theorem sc_l_int : FnScope N_l_int ["_law_thing"] (defScope s_l_int) := ⟨rfl, rfl, rfl, by decide +kernel, rfl, by decide +kernel, by decide +kernel⟩
abbrev s_l_same : Stmt := top 30
theorem sc_l_same : FnScope N_l_same ["_law_found", "_law_due"] (defScope s_l_same) := ⟨rfl, rfl, rfl, by decide +kernel, rfl, by decide +kernel, by decide +kernel⟩
abbrev s_l_stock : Stmt := top 31
theorem sc_l_stock : FnScope N_l_stock ["_law_deck_here"] (defScope s_l_stock) := ⟨rfl, rfl, rfl, by decide +kernel, rfl, by decide +kernel, by decide +kernel⟩
abbrev s_l_lines : Stmt := top 32
theorem sc_l_lines : FnScope N_l_lines ["_law_deck_here", "_law_stock_here", "_law_most_here"] (defScope s_l_lines) := ⟨rfl, rfl, rfl, by decide +kernel, rfl, by decide +kernel, by decide +kernel⟩
abbrev s_l_most : Stmt := top 33
theorem sc_l_most : FnScope N_l_most ["_law_deck_here"] (defScope s_l_most) := ⟨rfl, rfl, rfl, by decide +kernel, rfl, by decide +kernel, by decide +kernel⟩
abbrev s_l_script : Stmt := top 34
theorem sc_l_script : FnScope N_l_script ["_law_deck_here", "_law_base", "_law_stock_here", "_law_most_here"] (defScope s_l_script) := ⟨rfl, rfl, rfl, by decide +kernel, rfl, by decide +kernel, by decide +kernel⟩
abbrev s_l_made : Stmt := top 35
theorem sc_l_made : FnScope N_l_made ["_law_base", "_law_pieces"] (defScope s_l_made) := ⟨rfl, rfl, rfl, by decide +kernel, rfl, by decide +kernel, by decide +kernel⟩
abbrev s_l_is_line : Stmt := top 36
theorem sc_l_is_line : FnScope N_l_is_line ["_law_thing"] (defScope s_l_is_line) := ⟨rfl, rfl, rfl, by decide +kernel, rfl, by decide +kernel, by decide +kernel⟩
abbrev s_l_size : Stmt := top 37
theorem sc_l_size : FnScope N_l_size ["_law_piece"] (defScope s_l_size) := ⟨rfl, rfl, rfl, by decide +kernel, rfl, by decide +kernel, by decide +kernel⟩
abbrev s_l_turned : Stmt := top 38
theorem sc_l_turned : FnScope N_l_turned ["_law_one", "_law_spots"] (defScope s_l_turned) := ⟨rfl, rfl, rfl, by decide +kernel, rfl, by decide +kernel, by decide +kernel⟩
abbrev s_l_joined : Stmt := top 39
theorem sc_l_joined : FnScope N_l_joined ["_law_one", "_law_other"] (defScope s_l_joined) := ⟨rfl, rfl, rfl, by decide +kernel, rfl, by decide +kernel, by decide +kernel⟩
abbrev s_law : Stmt := top 40
theorem sc_law : FnScope N_law ["_law_script_here"] (defScope s_law) := ⟨rfl, rfl, rfl, by decide +kernel, rfl, by decide +kernel, by decide +kernel⟩
structure Tx (K : PySem.W.Frag) (mg : Str → Option Value) : Type where
  fd_is_int : FuncData
  F_is_int : FnP K "is_int" s_is_int (He.fAd K ("is_int", none)) fd_is_int
  g_is_int : mg "is_int" = some (.ref (He.fAd K ("is_int", none)))
  fd_is_sign : FuncData
  F_is_sign : FnP K "is_sign" s_is_sign (He.fAd K ("is_sign", none)) fd_is_sign
  g_is_sign : mg "is_sign" = some (.ref (He.fAd K ("is_sign", none)))
  fd_is_text : FuncData
  F_is_text : FnP K "is_text" s_is_text (He.fAd K ("is_text", none)) fd_is_text
  g_is_text : mg "is_text" = some (.ref (He.fAd K ("is_text", none)))
  fd_is_pair : FuncData
  F_is_pair : FnP K "is_pair" s_is_pair (He.fAd K ("is_pair", none)) fd_is_pair
  g_is_pair : mg "is_pair" = some (.ref (He.fAd K ("is_pair", none)))
  fd_is_row : FuncData
  F_is_row : FnP K "is_row" s_is_row (He.fAd K ("is_row", none)) fd_is_row
  g_is_row : mg "is_row" = some (.ref (He.fAd K ("is_row", none)))
  fd_are_put : FuncData
  F_are_put : FnP K "are_put" s_are_put (He.fAd K ("are_put", none)) fd_are_put
  g_are_put : mg "are_put" = some (.ref (He.fAd K ("are_put", none)))
  fd_rows_in : FuncData
  F_rows_in : FnP K "rows_in" s_rows_in (He.fAd K ("rows_in", none)) fd_rows_in
  g_rows_in : mg "rows_in" = some (.ref (He.fAd K ("rows_in", none)))
  fd_is_piece : FuncData
  F_is_piece : FnP K "is_piece" s_is_piece (He.fAd K ("is_piece", none)) fd_is_piece
  g_is_piece : mg "is_piece" = some (.ref (He.fAd K ("is_piece", none)))
  fd_is_script : FuncData
  F_is_script : FnP K "is_script" s_is_script (He.fAd K ("is_script", none)) fd_is_script
  g_is_script : mg "is_script" = some (.ref (He.fAd K ("is_script", none)))
  fd_is_right_over : FuncData
  F_is_right_over : FnP K "is_right_over" s_is_right_over (He.fAd K ("is_right_over", none)) fd_is_right_over
  g_is_right_over : mg "is_right_over" = some (.ref (He.fAd K ("is_right_over", none)))
  fd_refuse_wrong : FuncData
  F_refuse_wrong : FnP K "refuse_wrong" s_refuse_wrong (He.fAd K ("refuse_wrong", none)) fd_refuse_wrong
  g_refuse_wrong : mg "refuse_wrong" = some (.ref (He.fAd K ("refuse_wrong", none)))
  fd_made : FuncData
  F_made : FnP K "made" s_made (He.fAd K ("made", none)) fd_made
  g_made : mg "made" = some (.ref (He.fAd K ("made", none)))
  fd_done : FuncData
  F_done : FnP K "done" s_done (He.fAd K ("done", none)) fd_done
  g_done : mg "done" = some (.ref (He.fAd K ("done", none)))
  fd_cut_piece : FuncData
  F_cut_piece : FnP K "cut_piece" s_cut_piece (He.fAd K ("cut_piece", none)) fd_cut_piece
  g_cut_piece : mg "cut_piece" = some (.ref (He.fAd K ("cut_piece", none)))
  fd_part_of : FuncData
  F_part_of : FnP K "part_of" s_part_of (He.fAd K ("part_of", none)) fd_part_of
  g_part_of : mg "part_of" = some (.ref (He.fAd K ("part_of", none)))
  fd_joined : FuncData
  F_joined : FnP K "joined" s_joined (He.fAd K ("joined", none)) fd_joined
  g_joined : mg "joined" = some (.ref (He.fAd K ("joined", none)))
  fd_l_deck : FuncData
  F_l_deck : FnP K "_law_deck" s_l_deck (He.fAd K ("_law_deck", none)) fd_l_deck
  g_l_deck : mg "_law_deck" = some (.ref (He.fAd K ("_law_deck", none)))
  fd_l_mixed : FuncData
  F_l_mixed : FnP K "_law_mixed" s_l_mixed (He.fAd K ("_law_mixed", none)) fd_l_mixed
  g_l_mixed : mg "_law_mixed" = some (.ref (He.fAd K ("_law_mixed", none)))
  fd_l_draw : FuncData
  F_l_draw : FnP K "_law_draw" s_l_draw (He.fAd K ("_law_draw", none)) fd_l_draw
  g_l_draw : mg "_law_draw" = some (.ref (He.fAd K ("_law_draw", none)))
  fd_l_text : FuncData
  F_l_text : FnP K "_law_text" s_l_text (He.fAd K ("_law_text", none)) fd_l_text
  g_l_text : mg "_law_text" = some (.ref (He.fAd K ("_law_text", none)))
  fd_l_int : FuncData
  F_l_int : FnP K "_law_int" s_l_int (He.fAd K ("_law_int", none)) fd_l_int
  g_l_int : mg "_law_int" = some (.ref (He.fAd K ("_law_int", none)))
  fd_l_same : FuncData
  F_l_same : FnP K "_law_same" s_l_same (He.fAd K ("_law_same", none)) fd_l_same
  g_l_same : mg "_law_same" = some (.ref (He.fAd K ("_law_same", none)))
  fd_l_stock : FuncData
  F_l_stock : FnP K "_law_stock" s_l_stock (He.fAd K ("_law_stock", none)) fd_l_stock
  g_l_stock : mg "_law_stock" = some (.ref (He.fAd K ("_law_stock", none)))
  fd_l_lines : FuncData
  F_l_lines : FnP K "_law_lines" s_l_lines (He.fAd K ("_law_lines", none)) fd_l_lines
  g_l_lines : mg "_law_lines" = some (.ref (He.fAd K ("_law_lines", none)))
  fd_l_most : FuncData
  F_l_most : FnP K "_law_most" s_l_most (He.fAd K ("_law_most", none)) fd_l_most
  g_l_most : mg "_law_most" = some (.ref (He.fAd K ("_law_most", none)))
  fd_l_script : FuncData
  F_l_script : FnP K "_law_script" s_l_script (He.fAd K ("_law_script", none)) fd_l_script
  g_l_script : mg "_law_script" = some (.ref (He.fAd K ("_law_script", none)))
  fd_l_made : FuncData
  F_l_made : FnP K "_law_made" s_l_made (He.fAd K ("_law_made", none)) fd_l_made
  g_l_made : mg "_law_made" = some (.ref (He.fAd K ("_law_made", none)))
  fd_l_is_line : FuncData
  F_l_is_line : FnP K "_law_is_line" s_l_is_line (He.fAd K ("_law_is_line", none)) fd_l_is_line
  g_l_is_line : mg "_law_is_line" = some (.ref (He.fAd K ("_law_is_line", none)))
  fd_l_size : FuncData
  F_l_size : FnP K "_law_size" s_l_size (He.fAd K ("_law_size", none)) fd_l_size
  g_l_size : mg "_law_size" = some (.ref (He.fAd K ("_law_size", none)))
  fd_l_turned : FuncData
  F_l_turned : FnP K "_law_turned" s_l_turned (He.fAd K ("_law_turned", none)) fd_l_turned
  g_l_turned : mg "_law_turned" = some (.ref (He.fAd K ("_law_turned", none)))
  fd_l_joined : FuncData
  F_l_joined : FnP K "_law_joined" s_l_joined (He.fAd K ("_law_joined", none)) fd_l_joined
  g_l_joined : mg "_law_joined" = some (.ref (He.fAd K ("_law_joined", none)))
  fd_law : FuncData
  F_law : FnP K "law" s_law (He.fAd K ("law", none)) fd_law
  z_all : mg "all" = none
  z_bool : mg "bool" = none
  z_dict : mg "dict" = none
  z_int : mg "int" = none
  z_isinstance : mg "isinstance" = none
  z_len : mg "len" = none
  z_list : mg "list" = none
  z_max : mg "max" = none
  z_min : mg "min" = none
  z_ord : mg "ord" = none
  z_range : mg "range" = none
  z_str : mg "str" = none
  z_sum : mg "sum" = none
  z_tuple : mg "tuple" = none
  c_BARRED_SIGN : ∃ t, mg "BARRED_SIGN" = some (.int 37 t)
  c_MOST_ROWS : ∃ t, mg "MOST_ROWS" = some (.int 40 t)
  c_MOST_SIGNS : ∃ t, mg "MOST_SIGNS" = some (.int 40 t)
section
variable {P : Program} {w : World} {K : PySem.W.Frag} {mg : Str → Option Value} {base : Heap}
theorem b_is_int (T : Tx K mg) : Binds K T.fd_is_int ["thing"] [] := T.F_is_int.bindsN fun _ _ _ _ _ _ us hl => match us, hl with | [_], _ => rfl
theorem ok_is_int (T : Tx K mg) : FnOk P w K mg base CX0 1 (He.fAd K ("is_int", none)) T.fd_is_int ["thing"] (sp_is_intI K) := by
  refine T.F_is_int.ok sc_is_int (fun vs H Q E h => len_is_intI h) (fun cdv A outer s H vs Q E hr h => ⟨t_is_int K, PSs.nox ?_, pure_is_intI h⟩)
  exact (pss_one (ps_ret (pe_and (pe_callB call_isi (by rfl) T.z_isinstance (by decide +kernel) (pa_cons (pv 0) (pa_cons (pe_bltn (v := .ty "int") (by rfl) T.z_int (by decide +kernel) rfl) pa_nil))) (pe_one (pe_not (pe_callB call_isi (by rfl) T.z_isinstance (by decide +kernel) (pa_cons (pv 0) (pa_cons (pe_bltn (v := .ty "bool") (by rfl) T.z_bool (by decide +kernel) rfl) pa_nil))))))))
theorem b_is_sign (T : Tx K mg) : Binds K T.fd_is_sign ["sign"] [] := T.F_is_sign.bindsN fun _ _ _ _ _ _ us hl => match us, hl with | [_], _ => rfl
theorem ok_is_sign (T : Tx K mg) : FnOk P w K mg base CX0 1 (He.fAd K ("is_sign", none)) T.fd_is_sign ["sign"] (sp_is_sign K) := by
  refine T.F_is_sign.ok sc_is_sign (fun vs H Q E h => len_is_sign h) (fun cdv A outer s H vs Q E hr h => ⟨t_is_sign K, PSs.nox ?_, pure_is_sign h⟩)
  exact (pss_one (ps_ret (pe_and (pe_chain op_le_str op_le_str pe_str (pv 0) pe_str) (pe_one (pe_cmpR op_ne (pe_callB call_ord (by rfl) T.z_ord (by decide +kernel) (pa_cons (pv 0) pa_nil)) (pe_glob (v := .int 37) (by rfl) T.c_BARRED_SIGN.choose_spec ⟨_, rfl⟩) (nomark _))))))
theorem b_is_text (T : Tx K mg) : Binds K T.fd_is_text ["thing"] [] := T.F_is_text.bindsN fun _ _ _ _ _ _ us hl => match us, hl with | [_], _ => rfl
theorem ok_is_text (T : Tx K mg) : FnOk P w K mg base CX0 2 (He.fAd K ("is_text", none)) T.fd_is_text ["thing"] (sp_is_text K) := by
  refine T.F_is_text.ok sc_is_text (fun vs H Q E h => len_is_text h) (fun cdv A outer s H vs Q E hr h => ⟨t_is_text K, PSs.nox ?_, pure_is_text h⟩)
  exact (pss_one (ps_ret (pe_and (pe_callB call_isi (by rfl) T.z_isinstance (by decide +kernel) (pa_cons (pv 0) (pa_cons (pe_bltn (v := .ty "str") (by rfl) T.z_str (by decide +kernel) rfl) pa_nil))) (pe_one (pe_callB (cr_all rfl) (by rfl) T.z_all (by decide +kernel) (pa_cons (pe_lc (own := [("sign", 1)]) (g := (gName 1)) (tt := tYes) (te := (tCall (sp_is_sign K) [] E0 (tCons (tVar 1) tNil))) rfl sc_is_text.nd (pi_str (pv 0)) (blkOk_by (own := [("sign", 1)]) (N := N_is_text) (sc := defScope s_is_text) (by decide +kernel)) (fun _ _ _ _ _ => (pg_name (i := 1) sc_is_text.nd rfl (Or.inl rfl))) (fun _ _ _ _ _ => pts_nil) (fun _ _ _ _ _ => (pe_call (ok_is_sign T) (hr.mono (by decide)) (by rfl) T.g_is_sign T.F_is_sign.kp (b_is_sign T) .nil pass0 (pa_cons (pv 1) pa_nil)))) pa_nil))))))
theorem b_is_pair (T : Tx K mg) : Binds K T.fd_is_pair ["thing"] [] := T.F_is_pair.bindsN fun _ _ _ _ _ _ us hl => match us, hl with | [_], _ => rfl
theorem ok_is_pair (T : Tx K mg) : FnOk P w K mg base CX0 1 (He.fAd K ("is_pair", none)) T.fd_is_pair ["thing"] (sp_is_pairT K) := by
  refine T.F_is_pair.ok sc_is_pair (fun vs H Q E h => len_is_pairT h) (fun cdv A outer s H vs Q E hr h => ⟨t_is_pair K, PSs.nox ?_, pure_is_pairT h⟩)
  exact (pss_one (ps_ret (pe_and (pe_callB call_isi (by rfl) T.z_isinstance (by decide +kernel) (pa_cons (pv 0) (pa_cons (pe_bltn (v := .ty "tuple") (by rfl) T.z_tuple (by decide +kernel) rfl) pa_nil))) (pe_one (pe_cmpR op_eq (pe_callB call_len (by rfl) T.z_len PySem.boot_len (pa_cons (pv 0) pa_nil)) pe_int (nomark _))))))
theorem b_is_row (T : Tx K mg) : Binds K T.fd_is_row ["thing"] [] := T.F_is_row.bindsN fun _ _ _ _ _ _ us hl => match us, hl with | [_], _ => rfl
theorem ok_is_row (T : Tx K mg) : FnOk P w K mg base CX0 3 (He.fAd K ("is_row", none)) T.fd_is_row ["thing"] (sp_is_row K) := by
  refine T.F_is_row.ok sc_is_row (fun vs H Q E h => len_is_row h) (fun cdv A outer s H vs Q E hr h => ⟨t_is_row K, PSs.nox ?_, pure_is_row h⟩)
  exact (pss_one (ps_ret (pe_and (pe_call (ok_is_text T) (hr.mono (by decide)) (by rfl) T.g_is_text T.F_is_text.kp (b_is_text T) .nil pass0 (pa_cons (pv 0) pa_nil)) (pe_one (pe_cmpR op_le (pe_callB call_len (by rfl) T.z_len PySem.boot_len (pa_cons (pv 0) pa_nil)) (pe_glob (v := .int 40) (by rfl) T.c_MOST_SIGNS.choose_spec ⟨_, rfl⟩) (nomark _))))))
theorem b_are_put (T : Tx K mg) : Binds K T.fd_are_put ["thing"] [] := T.F_are_put.bindsN fun _ _ _ _ _ _ us hl => match us, hl with | [_], _ => rfl
theorem ok_are_put (T : Tx K mg) : FnOk P w K mg base CX0 4 (He.fAd K ("are_put", none)) T.fd_are_put ["thing"] (sp_are_put K) := by
  refine T.F_are_put.ok sc_are_put (fun vs H Q E h => len_are_put h) (fun cdv A outer s H vs Q E hr h => ⟨t_are_put K, PSs.nox ?_, pure_are_put h⟩)
  exact (pss_one (ps_ret (pe_and (pe_callB call_isi (by rfl) T.z_isinstance (by decide +kernel) (pa_cons (pv 0) (pa_cons (pe_bltn (v := .ty "tuple") (by rfl) T.z_tuple (by decide +kernel) rfl) pa_nil))) (pe_and (pe_cmpR op_gt (pe_callB call_len (by rfl) T.z_len PySem.boot_len (pa_cons (pv 0) pa_nil)) pe_int (nomark _)) (pe_one (pe_callB (cr_all rfl) (by rfl) T.z_all (by decide +kernel) (pa_cons (pe_lc (own := [("row", 1)]) (g := (gName 1)) (tt := tYes) (te := (tCall (sp_is_row K) [] E0 (tCons (tVar 1) tNil))) rfl sc_are_put.nd (pi_tup (pv 0)) (blkOk_by (own := [("row", 1)]) (N := N_are_put) (sc := defScope s_are_put) (by decide +kernel)) (fun _ _ _ _ _ => (pg_name (i := 1) sc_are_put.nd rfl (Or.inl rfl))) (fun _ _ _ _ _ => pts_nil) (fun _ _ _ _ _ => (pe_call (ok_is_row T) (hr.mono (by decide)) (by rfl) T.g_is_row T.F_is_row.kp (b_is_row T) .nil pass0 (pa_cons (pv 1) pa_nil)))) pa_nil)))))))
theorem b_rows_in (T : Tx K mg) : Binds K T.fd_rows_in ["piece"] [] := T.F_rows_in.bindsN fun _ _ _ _ _ _ us hl => match us, hl with | [_], _ => rfl
theorem ok_rows_in (T : Tx K mg) : FnOk P w K mg base CX0 1 (He.fAd K ("rows_in", none)) T.fd_rows_in ["piece"] (sp_rows_in K) := by
  refine T.F_rows_in.ok sc_rows_in (fun vs H Q E h => len_rows_in h) (fun cdv A outer s H vs Q E hr h => ⟨t_rows_in K, PSs.nox ?_, pure_rows_in h⟩)
  exact (pss_one (ps_ret (pe_ifExp (pt_cmpR op_eq (pe_ix ix_seq (pv 0) pe_int (fun _ _ => rfl)) pe_str (nomark _)) (pe_callB call_len (by rfl) T.z_len PySem.boot_len (pa_cons (pe_ix ix_seq (pv 0) pe_int (fun _ _ => rfl)) pa_nil)) (pe_ix ix_seq (pv 0) pe_int (fun _ _ => rfl)))))
theorem b_is_piece (T : Tx K mg) : Binds K T.fd_is_piece ["thing"] [] := T.F_is_piece.bindsN fun _ _ _ _ _ _ us hl => match us, hl with | [_], _ => rfl
theorem ok_is_piece (T : Tx K mg) : FnOk P w K mg base CX0 5 (He.fAd K ("is_piece", none)) T.fd_is_piece ["thing"] (sp_is_piece K) := by
  refine T.F_is_piece.ok sc_is_piece (fun vs H Q E h => len_is_piece h) (fun cdv A outer s H vs Q E hr h => ⟨t_is_piece K, PSs.nox ?_, pure_is_piece h⟩)
  exact (pss_cons (ps_if (PW.pt (pw_or (pt_not (pt_val (pe_callB call_isi (by rfl) T.z_isinstance (by decide +kernel) (pa_cons (pv 0) (pa_cons (pe_bltn (v := .ty "tuple") (by rfl) T.z_tuple (by decide +kernel) rfl) pa_nil))))) (pw_or1 (pt_cmpR op_eq (pe_callB call_len (by rfl) T.z_len PySem.boot_len (pa_cons (pv 0) pa_nil)) pe_int (nomark _))))) (pss_one (ps_ret pe_bl)) pss_nil)
      (pss_cons (ps_if (pt_cmpR op_eq (pe_ix ix_seq (pv 0) pe_int (fun _ _ => rfl)) pe_str (nomark _)) (pss_one (ps_ret (pe_and (pe_cmpR op_eq (pe_callB call_len (by rfl) T.z_len PySem.boot_len (pa_cons (pv 0) pa_nil)) pe_int (nomark _)) (pe_and (pe_call (ok_is_int T) (hr.mono (by decide)) (by rfl) T.g_is_int T.F_is_int.kp (b_is_int T) .nil pass0 (pa_cons (pe_ix ix_seq (pv 0) pe_int (fun _ _ => rfl)) pa_nil)) (pe_and (pe_call (ok_is_int T) (hr.mono (by decide)) (by rfl) T.g_is_int T.F_is_int.kp (b_is_int T) .nil pass0 (pa_cons (pe_ix ix_seq (pv 0) pe_int (fun _ _ => rfl)) pa_nil)) (pe_and (pe_cmpR op_ge (pe_ix ix_seq (pv 0) pe_int (fun _ _ => rfl)) pe_int (nomark _)) (pe_one (pe_cmpR op_ge (pe_ix ix_seq (pv 0) pe_int (fun _ _ => rfl)) pe_int (nomark _))))))))) pss_nil)
      (pss_one (ps_ret (pe_and (pe_cmpR op_eq (pe_ix ix_seq (pv 0) pe_int (fun _ _ => rfl)) pe_str (nomark _)) (pe_and (pe_call (ok_is_pair T) (hr.mono (by decide)) (by rfl) T.g_is_pair T.F_is_pair.kp (b_is_pair T) .nil pass0 (pa_cons (pv 0) pa_nil)) (pe_one (pe_call (ok_are_put T) (hr.mono (by decide)) (by rfl) T.g_are_put T.F_are_put.kp (b_are_put T) .nil pass0 (pa_cons (pe_ix ix_seq (pv 0) pe_int (fun _ _ => rfl)) pa_nil)))))))))
theorem b_is_script (T : Tx K mg) : Binds K T.fd_is_script ["thing"] [] := T.F_is_script.bindsN fun _ _ _ _ _ _ us hl => match us, hl with | [_], _ => rfl
theorem ok_is_script (T : Tx K mg) : FnOk P w K mg base CX0 6 (He.fAd K ("is_script", none)) T.fd_is_script ["thing"] (sp_is_script K) := by
  refine T.F_is_script.ok sc_is_script (fun vs H Q E h => len_is_script h) (fun cdv A outer s H vs Q E hr h => ⟨t_is_script K, PSs.nox ?_, pure_is_script h⟩)
  exact (pss_cons (ps_if (PW.pt (pw_or (pt_not (pt_val (pe_callB call_isi (by rfl) T.z_isinstance (by decide +kernel) (pa_cons (pv 0) (pa_cons (pe_bltn (v := .ty "tuple") (by rfl) T.z_tuple (by decide +kernel) rfl) pa_nil))))) (pw_or1 (pt_not (pt_val (pe_callB (cr_all rfl) (by rfl) T.z_all (by decide +kernel) (pa_cons (pe_lc (own := [("piece", 1)]) (g := (gName 1)) (tt := tYes) (te := (tCall (sp_is_piece K) [] E0 (tCons (tVar 1) tNil))) rfl sc_is_script.nd (pi_tup (pv 0)) (blkOk_by (own := [("piece", 1)]) (N := N_is_script) (sc := defScope s_is_script) (by decide +kernel)) (fun _ _ _ _ _ => (pg_name (i := 1) sc_is_script.nd rfl (Or.inl rfl))) (fun _ _ _ _ _ => pts_nil) (fun _ _ _ _ _ => (pe_call (ok_is_piece T) (hr.mono (by decide)) (by rfl) T.g_is_piece T.F_is_piece.kp (b_is_piece T) .nil pass0 (pa_cons (pv 1) pa_nil)))) pa_nil))))))) (pss_one (ps_ret pe_bl)) pss_nil)
      (pss_one (ps_ret (pe_cmpR op_le (pe_callB (cr_sum rfl) (by rfl) T.z_sum (by decide +kernel) (pa_cons (pe_lc (own := [("piece", 1)]) (g := (gName 1)) (tt := tYes) (te := (tCall (sp_rows_in K) [] E0 (tCons (tVar 1) tNil))) rfl sc_is_script.nd (pi_tup (pv 0)) (blkOk_by (own := [("piece", 1)]) (N := N_is_script) (sc := defScope s_is_script) (by decide +kernel)) (fun _ _ _ _ _ => (pg_name (i := 1) sc_is_script.nd rfl (Or.inl rfl))) (fun _ _ _ _ _ => pts_nil) (fun _ _ _ _ _ => (pe_call (ok_rows_in T) (hr.mono (by decide)) (by rfl) T.g_rows_in T.F_rows_in.kp (b_rows_in T) .nil pass0 (pa_cons (pv 1) pa_nil)))) pa_nil)) (pe_glob (v := .int 40) (by rfl) T.c_MOST_ROWS.choose_spec ⟨_, rfl⟩) (nomark _)))))
theorem b_is_right_over (T : Tx K mg) : Binds K T.fd_is_right_over ["base", "thing"] [] := T.F_is_right_over.bindsN fun _ _ _ _ _ _ us hl => match us, hl with | [_, _], _ => rfl
theorem ok_is_right_over (T : Tx K mg) : FnOk P w K mg base CX0 7 (He.fAd K ("is_right_over", none)) T.fd_is_right_over ["base", "thing"] (sp_is_right_over K) := by
  refine T.F_is_right_over.ok sc_is_right_over (fun vs H Q E h => len_is_right_over h) (fun cdv A outer s H vs Q E hr h => ⟨t_is_right_over K, PSs.nox ?_, pure_is_right_over h⟩)
  exact (pss_cons (ps_if (pt_not (pt_val (pe_call (ok_is_script T) (hr.mono (by decide)) (by rfl) T.g_is_script T.F_is_script.kp (b_is_script T) .nil pass0 (pa_cons (pv 1) pa_nil)))) (pss_one (ps_ret pe_bl)) pss_nil)
      (pss_one (ps_ret (pe_callB (cr_all rfl) (by rfl) T.z_all (by decide +kernel) (pa_cons (pe_lc (own := [("piece", 2)]) (g := (gName 2)) (tt := tYes) (te := (tOrV (tOp rEq (tOp (rIx K) (tVar 2) (tC (.int 0))) (tC (.str "put"))) (tOp rLeI (tOp rAddI (tOp (rIx K) (tVar 2) (tC (.int 1))) (tOp (rIx K) (tVar 2) (tC (.int 2)))) (tCB (fLen K) (tCons (tVar 0) tNil))))) rfl sc_is_right_over.nd (pi_tup (pv 1)) (blkOk_by (own := [("piece", 2)]) (N := N_is_right_over) (sc := defScope s_is_right_over) (by decide +kernel)) (fun _ _ _ _ _ => (pg_name (i := 2) sc_is_right_over.nd rfl (Or.inl rfl))) (fun _ _ _ _ _ => pts_nil) (fun _ _ _ _ _ => (pe_or (pe_cmpR op_eq (pe_ix ix_seq (pv 2) pe_int (fun _ _ => rfl)) pe_str (nomark _)) (pe_one (pe_cmpR op_le (pe_op op_add (pe_ix ix_seq (pv 2) pe_int (fun _ _ => rfl)) (pe_ix ix_seq (pv 2) pe_int (fun _ _ => rfl))) (pe_callB call_len (by rfl) T.z_len PySem.boot_len (pa_cons (pv 0) pa_nil)) (nomark _)))))) pa_nil)))))
theorem b_refuse_wrong (T : Tx K mg) : Binds K T.fd_refuse_wrong ["base", "thing"] [] := T.F_refuse_wrong.bindsN fun _ _ _ _ _ _ us hl => match us, hl with | [_, _], _ => rfl
theorem ok_refuse_wrong (T : Tx K mg) : FnOk P w K mg base CX0 8 (He.fAd K ("refuse_wrong", none)) T.fd_refuse_wrong ["base", "thing"] (sp_refuse_wrong K) := by
  refine T.F_refuse_wrong.ok sc_refuse_wrong (fun vs H Q E h => len_refuse_wrong h) (fun cdv A outer s H vs Q E hr h => ⟨t_refuse_wrong K, PSs.nox ?_, pure_refuse_wrong h⟩)
  exact (pss_one (ps_if (pt_not (pt_val (pe_call (ok_is_right_over T) (hr.mono (by decide)) (by rfl) T.g_is_right_over T.F_is_right_over.kp (b_is_right_over T) .nil pass0 (pa_cons (pv 0) (pa_cons (pv 1) pa_nil))))) (pss_one ps_never) pss_nil))
theorem b_made (T : Tx K mg) : Binds K T.fd_made ["base", "script"] [] := T.F_made.bindsN fun _ _ _ _ _ _ us hl => match us, hl with | [_, _], _ => rfl
theorem ok_made (T : Tx K mg) : FnOk P w K mg base CX0 1 (He.fAd K ("made", none)) T.fd_made ["base", "script"] (sp_made K) := by
  refine T.F_made.ok sc_made (fun vs H Q E h => len_made h) (fun cdv A outer s H vs Q E hr h => ⟨t_made K, PSs.nox ?_, pure_made h⟩)
  exact (pss_cons (ps_set (i := 2) sc_made.nd rfl (Or.inl rfl) (pe_lst pa_nil))
      (pss_cons (ps_for PassesOwn.never rfl (pi_tup (pv 1)) (pg_name (i := 3) sc_made.nd rfl (Or.inl rfl)) (pss_one (ps_expr (pe_bm PySem.F.plainAttrs_list PySem.F.slot_list_extend PySem.F.type_list_extend mt_extendA (pv 2) (pa_cons (pe_ifExp (pt_cmpR op_eq (pe_ix ix_seq (pv 3) pe_int (fun _ _ => rfl)) pe_str (nomark _)) (pe_ix ix_seq (pv 3) pe_int (fun _ _ => rfl)) (pe_slice sl_tupA (pv 0) (po_some (pe_ix ix_seq (pv 3) pe_int (fun _ _ => rfl))) (po_some (pe_op op_add (pe_ix ix_seq (pv 3) pe_int (fun _ _ => rfl)) (pe_ix ix_seq (pv 3) pe_int (fun _ _ => rfl)))))) pa_nil)))))
      (pss_one (ps_ret (pe_callTy call_tuple_of (by rfl) T.z_tuple (by decide +kernel) (pa_cons (pv 2) pa_nil))))))
theorem b_done (T : Tx K mg) : Binds K T.fd_done ["base", "script"] [] := T.F_done.bindsN fun _ _ _ _ _ _ us hl => match us, hl with | [_, _], _ => rfl
theorem ok_done (T : Tx K mg) : FnOk P w K mg base CX0 9 (He.fAd K ("done", none)) T.fd_done ["base", "script"] (sp_done K) := by
  refine T.F_done.ok sc_done (fun vs H Q E h => len_done h) (fun cdv A outer s H vs Q E hr h => ⟨t_done K, PSs.nox ?_, pure_done h⟩)
  exact (pss_cons (ps_expr (pe_call (ok_refuse_wrong T) (hr.mono (by decide)) (by rfl) T.g_refuse_wrong T.F_refuse_wrong.kp (b_refuse_wrong T) .nil pass0 (pa_cons (pv 0) (pa_cons (pv 1) pa_nil))))
      (pss_one (ps_ret (pe_call (ok_made T) (hr.mono (by decide)) (by rfl) T.g_made T.F_made.kp (b_made T) .nil pass0 (pa_cons (pv 0) (pa_cons (pv 1) pa_nil))))))
theorem b_cut_piece (T : Tx K mg) : Binds K T.fd_cut_piece ["piece", "begin", "end"] [] := T.F_cut_piece.bindsN fun _ _ _ _ _ _ us hl => match us, hl with | [_, _, _], _ => rfl
theorem ok_cut_piece (T : Tx K mg) : FnOk P w K mg base CX0 1 (He.fAd K ("cut_piece", none)) T.fd_cut_piece ["piece", "begin", "end"] (sp_cut_piece K) := by
  refine T.F_cut_piece.ok sc_cut_piece (fun vs H Q E h => len_cut_piece h) (fun cdv A outer s H vs Q E hr h => ⟨t_cut_piece K, PSs.nox ?_, pure_cut_piece h⟩)
  exact (pss_cons (ps_if (pt_cmpR op_eq (pe_ix ix_seq (pv 0) pe_int (fun _ _ => rfl)) pe_str (nomark _)) (pss_one (ps_ret (pe_tup (pa_cons pe_str (pa_cons (pe_slice sl_tupA (pe_ix ix_seq (pv 0) pe_int (fun _ _ => rfl)) (po_some (pv 1)) (po_some (pv 2))) pa_nil))))) pss_nil)
      (pss_one (ps_ret (pe_tup (pa_cons pe_str (pa_cons (pe_op op_add (pe_ix ix_seq (pv 0) pe_int (fun _ _ => rfl)) (pv 1)) (pa_cons (pe_op op_sub (pv 2) (pv 1)) pa_nil)))))))
theorem b_part_of (T : Tx K mg) : Binds K T.fd_part_of ["script", "begin", "end"] [] := T.F_part_of.bindsN fun _ _ _ _ _ _ us hl => match us, hl with | [_, _, _], _ => rfl
theorem ok_part_of (T : Tx K mg) : FnOk P w K mg base CX0 2 (He.fAd K ("part_of", none)) T.fd_part_of ["script", "begin", "end"] (sp_part_of K) := by
  refine T.F_part_of.ok sc_part_of (fun vs H Q E h => len_part_of h) (fun cdv A outer s H vs Q E hr h => ⟨t_part_of K, PSs.nox ?_, pure_part_of h⟩)
  exact (pss_cons (ps_set (i := 3) sc_part_of.nd rfl (Or.inl rfl) (pe_lst pa_nil))
      (pss_cons (ps_set (i := 4) sc_part_of.nd rfl (Or.inl rfl) pe_int)
      (pss_cons (ps_for PassesOwn.never rfl (pi_tup (pv 0)) (pg_name (i := 5) sc_part_of.nd rfl (Or.inl rfl)) (pss_cons (ps_set (i := 6) sc_part_of.nd rfl (Or.inl rfl) (pe_op op_add (pv 4) (pe_call (ok_rows_in T) (hr.mono (by decide)) (by rfl) T.g_rows_in T.F_rows_in.kp (b_rows_in T) .nil pass0 (pa_cons (pv 5) pa_nil))))
      (pss_cons (ps_par (i := 7) (j := 8) (by rfl) sc_part_of.nd rfl rfl (by decide) rfl rfl (pa_cons (pe_callB (call_max2 rfl) (by rfl) T.z_max (by decide +kernel) (pa_cons (pv 1) (pa_cons (pv 4) pa_nil))) (pa_cons (pe_callB (call_min2 rfl) (by rfl) T.z_min (by decide +kernel) (pa_cons (pv 2) (pa_cons (pv 6) pa_nil))) pa_nil)) (by rfl))
      (pss_cons (ps_if (pt_cmpR op_lt (pv 7) (pv 8) (nomark _)) (pss_one (ps_expr (pe_bm PySem.F.plainAttrs_list PySem.F.slot_list_append PySem.F.type_list_append mt_append (pv 3) (pa_cons (pe_call (ok_cut_piece T) (hr.mono (by decide)) (by rfl) T.g_cut_piece T.F_cut_piece.kp (b_cut_piece T) .nil pass0 (pa_cons (pv 5) (pa_cons (pe_op op_sub (pv 7) (pv 4)) (pa_cons (pe_op op_sub (pv 8) (pv 4)) pa_nil)))) pa_nil)))) pss_nil)
      (pss_one (ps_set (i := 4) sc_part_of.nd rfl (Or.inl rfl) (pv 6)))))))
      (pss_one (ps_ret (pv 3))))))
theorem b_joined (T : Tx K mg) : Binds K T.fd_joined ["base", "one", "other"] [] := T.F_joined.bindsN fun _ _ _ _ _ _ us hl => match us, hl with | [_, _, _], _ => rfl
theorem ok_joined (T : Tx K mg) : FnOk P w K mg base CX0 9 (He.fAd K ("joined", none)) T.fd_joined ["base", "one", "other"] (sp_joined K) := by
  refine T.F_joined.ok sc_joined (fun vs H Q E h => len_joined h) (fun cdv A outer s H vs Q E hr h => ⟨t_joined K, PSs.nox ?_, pure_joined h⟩)
  exact (pss_cons (ps_expr (pe_call (ok_refuse_wrong T) (hr.mono (by decide)) (by rfl) T.g_refuse_wrong T.F_refuse_wrong.kp (b_refuse_wrong T) .nil pass0 (pa_cons (pv 0) (pa_cons (pv 1) pa_nil))))
      (pss_cons (ps_expr (pe_call (ok_refuse_wrong T) (hr.mono (by decide)) (by rfl) T.g_refuse_wrong T.F_refuse_wrong.kp (b_refuse_wrong T) .nil pass0 (pa_cons (pe_call (ok_made T) (hr.mono (by decide)) (by rfl) T.g_made T.F_made.kp (b_made T) .nil pass0 (pa_cons (pv 0) (pa_cons (pv 1) pa_nil))) (pa_cons (pv 2) pa_nil))))
      (pss_cons (ps_set (i := 3) sc_joined.nd rfl (Or.inl rfl) (pe_lst pa_nil))
      (pss_cons (ps_for PassesOwn.never rfl (pi_tup (pv 2)) (pg_name (i := 4) sc_joined.nd rfl (Or.inl rfl)) (pss_one (ps_if (pt_cmpR op_eq (pe_ix ix_seq (pv 4) pe_int (fun _ _ => rfl)) pe_str (nomark _)) (pss_one (ps_expr (pe_bm PySem.F.plainAttrs_list PySem.F.slot_list_append PySem.F.type_list_append mt_append (pv 3) (pa_cons (pv 4) pa_nil)))) (pss_one (ps_expr (pe_bm PySem.F.plainAttrs_list PySem.F.slot_list_extend PySem.F.type_list_extend mt_extendA (pv 3) (pa_cons (pe_call (ok_part_of T) (hr.mono (by decide)) (by rfl) T.g_part_of T.F_part_of.kp (b_part_of T) .nil pass0 (pa_cons (pv 1) (pa_cons (pe_ix ix_seq (pv 4) pe_int (fun _ _ => rfl)) (pa_cons (pe_op op_add (pe_ix ix_seq (pv 4) pe_int (fun _ _ => rfl)) (pe_ix ix_seq (pv 4) pe_int (fun _ _ => rfl))) pa_nil)))) pa_nil)))))))
      (pss_one (ps_ret (pe_callTy call_tuple_of (by rfl) T.z_tuple (by decide +kernel) (pa_cons (pv 3) pa_nil))))))))
theorem b_l_deck (T : Tx K mg) : Binds K T.fd_l_deck ["_law_script_here"] [] := T.F_l_deck.bindsN fun _ _ _ _ _ _ us hl => match us, hl with | [_], _ => rfl
theorem ok_l_deck (T : Tx K mg) : FnOk P w K mg base CX0 1 (He.fAd K ("_law_deck", none)) T.fd_l_deck ["_law_script_here"] (sp_l_deck K) := by
  refine T.F_l_deck.ok sc_l_deck (fun vs H Q E h => len_l_deck h) (fun cdv A outer s H vs Q E hr h => ⟨t_l_deck K, PSs.nox ?_, pure_l_deck h⟩)
  exact (pss_one (ps_ret (pe_lst (pa_cons (pe_callTy call_list_of (by rfl) T.z_list (by decide +kernel) (pa_cons (pv 0) pa_nil)) (pa_cons pe_int (pa_cons pe_int (pa_cons pe_int pa_nil)))))))
theorem b_l_mixed (T : Tx K mg) : Binds K T.fd_l_mixed ["_law_cell", "_law_turn"] [] := T.F_l_mixed.bindsN fun _ _ _ _ _ _ us hl => match us, hl with | [_, _], _ => rfl
theorem ok_l_mixed (T : Tx K mg) : FnOk P w K mg base CX0 1 (He.fAd K ("_law_mixed", none)) T.fd_l_mixed ["_law_cell", "_law_turn"] (sp_l_mixed K) := by
  refine T.F_l_mixed.ok sc_l_mixed (fun vs H Q E h => len_l_mixed h) (fun cdv A outer s H vs Q E hr h => ⟨t_l_mixed K, PSs.nox ?_, pure_l_mixed h⟩)
  exact (pss_one (ps_ret (pe_op op_mod (pe_op op_pow (pe_op op_add (pe_op op_add (pe_op op_mod (pv 0) pe_int) (pe_op op_mul (pv 1) pe_int)) pe_int) pe_int) pe_int)))
theorem b_l_draw (T : Tx K mg) : Binds K T.fd_l_draw ["_law_deck_here", "_law_many"] [] := T.F_l_draw.bindsN fun _ _ _ _ _ _ us hl => match us, hl with | [_, _], _ => rfl
theorem ok_l_draw (T : Tx K mg) : FnOk P w K mg base CX0 2 (He.fAd K ("_law_draw", none)) T.fd_l_draw ["_law_deck_here", "_law_many"] (sp_l_draw K) := by
  refine T.F_l_draw.ok sc_l_draw (fun vs H Q E h => len_l_draw h) (fun cdv A outer s H vs Q E hr h => ⟨t_l_draw K, PSs.nox ?_, pure_l_draw h⟩)
  exact (pss_cons (ps_set (i := 2) sc_l_draw.nd rfl (Or.inl rfl) (pe_ix ix_seq (pv 0) pe_int (fun _ _ => rfl)))
      (pss_cons (ps_asg (pe_op op_add (pe_ix ix_seq (pv 0) pe_int (fun _ _ => rfl)) pe_int) (pg_sub (pv 0) pe_int set_list))
      (pss_cons (ps_if (PW.pt (pw_and (pt_cmpR op_eq (pe_ix ix_seq (pv 0) pe_int (fun _ _ => rfl)) pe_int (nomark _)) (pw_and1 (pt_cmpR op_lt (pe_ix ix_seq (pv 0) pe_int (fun _ _ => rfl)) (pe_callB call_len (by rfl) T.z_len PySem.boot_len (pa_cons (pv 2) pa_nil)) (nomark _))))) (pss_cons (ps_asg (pe_op op_add (pe_ix ix_seq (pv 0) pe_int (fun _ _ => rfl)) pe_int) (pg_sub (pv 0) pe_int set_list))
      (pss_cons (ps_if (pt_cmpR op_lt (pe_ix ix_seq (pv 2) (pe_op op_sub (pe_ix ix_seq (pv 0) pe_int (fun _ _ => rfl)) pe_int) (fun _ _ => rfl)) (pe_op op_pow pe_int pe_int) (nomark _)) (pss_one (ps_ret (pe_op op_mod (pe_call (ok_l_mixed T) (hr.mono (by decide)) (by rfl) T.g_l_mixed T.F_l_mixed.kp (b_l_mixed T) .nil pass0 (pa_cons (pe_ix ix_seq (pv 2) (pe_op op_sub (pe_ix ix_seq (pv 0) pe_int (fun _ _ => rfl)) pe_int) (fun _ _ => rfl)) (pa_cons (pe_ix ix_seq (pv 0) pe_int (fun _ _ => rfl)) pa_nil))) (pv 1)))) pss_nil)
      (pss_one (ps_asg (pe_ix ix_seq (pv 2) (pe_op op_sub (pe_ix ix_seq (pv 0) pe_int (fun _ _ => rfl)) pe_int) (fun _ _ => rfl)) (pg_sub (pv 0) pe_int set_list))))) pss_nil)
      (pss_cons (ps_if (pt_cmpR op_gt (pe_ix ix_seq (pv 0) pe_int (fun _ _ => rfl)) pe_int (nomark _)) (pss_cons (ps_set (i := 3) sc_l_draw.nd rfl (Or.inl rfl) (pe_op op_mod (pe_ix ix_seq (pv 0) pe_int (fun _ _ => rfl)) (pv 1)))
      (pss_cons (ps_asg (pe_op op_fdivW (pe_ix ix_seq (pv 0) pe_int (fun _ _ => rfl)) (pv 1)) (pg_sub (pv 0) pe_int set_list))
      (pss_one (ps_ret (pv 3))))) pss_nil)
      (pss_cons (ps_set (i := 4) sc_l_draw.nd rfl (Or.inl rfl) (pe_op op_mul (pe_ix ix_seq (pv 0) pe_int (fun _ _ => rfl)) pe_int))
      (pss_cons (ps_if (pt_cmpR op_gt (pe_callB call_len (by rfl) T.z_len PySem.boot_len (pa_cons (pv 2) pa_nil)) pe_int (nomark _)) (pss_one (ps_set (i := 4) sc_l_draw.nd rfl (Or.inl rfl) (pe_op op_add (pv 4) (pe_op op_mod (pe_ix ix_seq (pv 2) (pe_op op_mod (pe_op op_mul (pe_ix ix_seq (pv 0) pe_int (fun _ _ => rfl)) pe_int) (pe_callB call_len (by rfl) T.z_len PySem.boot_len (pa_cons (pv 2) pa_nil))) (fun _ _ => rfl)) pe_int)))) pss_nil)
      (pss_one (ps_ret (pe_op op_mod (pe_call (ok_l_mixed T) (hr.mono (by decide)) (by rfl) T.g_l_mixed T.F_l_mixed.kp (b_l_mixed T) .nil pass0 (pa_cons (pv 4) (pa_cons (pe_ix ix_seq (pv 0) pe_int (fun _ _ => rfl)) pa_nil))) (pv 1))))))))))
theorem b_l_text (T : Tx K mg) : Binds K T.fd_l_text ["_law_deck_here", "_law_size_here"] [] := T.F_l_text.bindsN fun _ _ _ _ _ _ us hl => match us, hl with | [_, _], _ => rfl
theorem ok_l_text (T : Tx K mg) : FnOk P w K mg base CX0 3 (He.fAd K ("_law_text", none)) T.fd_l_text ["_law_deck_here", "_law_size_here"] (sp_l_text K) := by
  refine T.F_l_text.ok sc_l_text (fun vs H Q E h => len_l_text h) (fun cdv A outer s H vs Q E hr h => ⟨t_l_text K, PSs.nox ?_, pure_l_text h⟩)
  exact (pss_cons (ps_set (i := 2) sc_l_text.nd rfl (Or.inr rfl) pe_str)
      (pss_cons (ps_if (pt_cmpR op_eq (pe_call (ok_l_draw T) (hr.mono (by decide)) (by rfl) T.g_l_draw T.F_l_draw.kp (b_l_draw T) .nil pass0 (pa_cons (pv 0) (pa_cons pe_int pa_nil))) pe_int (nomark _)) (pss_one (ps_set (i := 2) sc_l_text.nd rfl (Or.inr rfl) pe_str)) pss_nil)
      (pss_one (ps_ret (pe_join pe_str (pe_lc (own := [("_law_k", 3)]) (g := (gName 3)) (tt := tYes) (te := (tOp (rIx K) (tVar 2) (tCall (sp_l_draw K) [] E0 (tCons (tVar 0) (tCons (tCB (fLen K) (tCons (tVar 2) tNil)) tNil))))) rfl sc_l_text.nd (pi_range1 (by rfl) T.z_range (pa_cons (pe_call (ok_l_draw T) (hr.mono (by decide)) (by rfl) T.g_l_draw T.F_l_draw.kp (b_l_draw T) .nil pass0 (pa_cons (pv 0) (pa_cons (pe_op op_add (pv 1) pe_int) pa_nil))) pa_nil)) (blkOk_by (own := [("_law_k", 3)]) (N := N_l_text) (sc := defScope s_l_text) (by decide +kernel)) (fun _ _ _ _ _ => (pg_name (i := 3) sc_l_text.nd rfl (Or.inl rfl))) (fun _ _ _ _ _ => pts_nil) (fun _ _ _ _ _ => (pe_ix ix_seq (pv 2) (pe_call (ok_l_draw T) (hr.mono (by decide)) (by rfl) T.g_l_draw T.F_l_draw.kp (b_l_draw T) .nil pass0 (pa_cons (pv 0) (pa_cons (pe_callB call_len (by rfl) T.z_len PySem.boot_len (pa_cons (pv 2) pa_nil)) pa_nil))) (fun _ _ => rfl)))))))))
theorem b_l_int (T : Tx K mg) : Binds K T.fd_l_int ["_law_thing"] [] := T.F_l_int.bindsN fun _ _ _ _ _ _ us hl => match us, hl with | [_], _ => rfl
theorem ok_l_int (T : Tx K mg) : FnOk P w K mg base CX0 1 (He.fAd K ("_law_int", none)) T.fd_l_int ["_law_thing"] (sp_l_int K) := by
  refine T.F_l_int.ok sc_l_int (fun vs H Q E h => len_l_int h) (fun cdv A outer s H vs Q E hr h => ⟨t_l_int K, PSs.nox ?_, pure_l_int h⟩)
  exact (pss_one (ps_ret (pe_and (pe_callB call_isi (by rfl) T.z_isinstance (by decide +kernel) (pa_cons (pv 0) (pa_cons (pe_bltn (v := .ty "int") (by rfl) T.z_int (by decide +kernel) rfl) pa_nil))) (pe_one (pe_not (pe_callB call_isi (by rfl) T.z_isinstance (by decide +kernel) (pa_cons (pv 0) (pa_cons (pe_bltn (v := .ty "bool") (by rfl) T.z_bool (by decide +kernel) rfl) pa_nil))))))))
theorem b_l_same (T : Tx K mg) : Binds K T.fd_l_same ["_law_found", "_law_due"] [] := T.F_l_same.bindsN fun _ _ _ _ _ _ us hl => match us, hl with | [_, _], _ => rfl
theorem ok_same2N (T : Tx K mg) : ∀ n : Nat, FnOk P w K mg base CX0 (n + 2) (He.fAd K ("_law_same", none)) T.fd_l_same ["_law_found", "_law_due"] (sp_same2N K n)
  | 0 => T.F_l_same.ok sc_l_same (fun vs H Q E h => len_same2N h) (fun cdv A outer s H vs Q E hr h => by
      obtain ⟨_, _, _, h, _⟩ := h
      exact h.elim)
  | n + 1 => by
    have G : FnOk P w K mg base CX0 (n + 2) (He.fAd K ("_law_same", none)) T.fd_l_same ["_law_found", "_law_due"] (sp_same2N K n) := ok_same2N T n
    refine T.F_l_same.ok sc_l_same (fun vs H Q E h => len_same2N h) (fun cdv A outer s H vs Q E hr h => ⟨t_l_same2 K n, PSs.nox ?_, pure_l_same2 h⟩)
    exact (pss_cons (ps_if (pt_val (pe_callB call_isiT (by rfl) T.z_isinstance (by decide +kernel) (pa_cons (pv 1) (pa_cons (pe_tup (pa_cons (pe_bltn (v := .ty "tuple") (by rfl) T.z_tuple (by decide +kernel) rfl) (pa_cons (pe_bltn (v := .ty "list") (by rfl) T.z_list (by decide +kernel) rfl) pa_nil))) pa_nil)))) (pss_cons (ps_if (PW.pt (pw_or (pt_cmpR op_ne (pe_callB call_isi (by rfl) T.z_isinstance (by decide +kernel) (pa_cons (pv 1) (pa_cons (pe_bltn (v := .ty "tuple") (by rfl) T.z_tuple (by decide +kernel) rfl) pa_nil))) (pe_callB call_isi (by rfl) T.z_isinstance (by decide +kernel) (pa_cons (pv 0) (pa_cons (pe_bltn (v := .ty "tuple") (by rfl) T.z_tuple (by decide +kernel) rfl) pa_nil))) (nomark _)) (pw_or1 (pt_cmpR op_ne (pe_callB call_isi (by rfl) T.z_isinstance (by decide +kernel) (pa_cons (pv 1) (pa_cons (pe_bltn (v := .ty "list") (by rfl) T.z_list (by decide +kernel) rfl) pa_nil))) (pe_callB call_isi (by rfl) T.z_isinstance (by decide +kernel) (pa_cons (pv 0) (pa_cons (pe_bltn (v := .ty "list") (by rfl) T.z_list (by decide +kernel) rfl) pa_nil))) (nomark _))))) (pss_one (ps_ret pe_bl)) pss_nil)
      (pss_cons (ps_if (pt_cmpR op_ne (pe_callB call_len (by rfl) T.z_len PySem.boot_len (pa_cons (pv 0) pa_nil)) (pe_callB call_len (by rfl) T.z_len PySem.boot_len (pa_cons (pv 1) pa_nil)) (nomark _)) (pss_one (ps_ret pe_bl)) pss_nil)
      (pss_cons (ps_for PassesOwn.never rfl (pi_range1 (by rfl) T.z_range (pa_cons (pe_callB call_len (by rfl) T.z_len PySem.boot_len (pa_cons (pv 1) pa_nil)) pa_nil)) (pg_name (i := 2) sc_l_same.nd rfl (Or.inl rfl)) (pss_one (ps_if (pt_not (pt_val (pe_call G hr (by rfl) T.g_l_same T.F_l_same.kp (b_l_same T) .nil pass0 (pa_cons (pe_ix ix_seq (pv 0) (pv 2) (fun _ _ => rfl)) (pa_cons (pe_ix ix_seq (pv 1) (pv 2) (fun _ _ => rfl)) pa_nil))))) (pss_one (ps_ret pe_bl)) pss_nil)))
      (pss_one (ps_ret pe_bl))))) pss_nil)
      (pss_cons (ps_if (pt_val (pe_callB call_isi (by rfl) T.z_isinstance (by decide +kernel) (pa_cons (pv 1) (pa_cons (pe_bltn (v := .ty "dict") (by rfl) T.z_dict (by decide +kernel) rfl) pa_nil)))) (pss_one ps_never) pss_nil)
      (pss_cons (ps_if (pt_val (pe_callB call_isi (by rfl) T.z_isinstance (by decide +kernel) (pa_cons (pv 1) (pa_cons (pe_bltn (v := .ty "bool") (by rfl) T.z_bool (by decide +kernel) rfl) pa_nil)))) (pss_one (ps_ret (pe_and (pe_callB call_isi (by rfl) T.z_isinstance (by decide +kernel) (pa_cons (pv 0) (pa_cons (pe_bltn (v := .ty "bool") (by rfl) T.z_bool (by decide +kernel) rfl) pa_nil))) (pe_one (pe_cmpR op_eq (pv 0) (pv 1) (nomark _)))))) pss_nil)
      (pss_cons (ps_if (pt_val (pe_callB call_isi (by rfl) T.z_isinstance (by decide +kernel) (pa_cons (pv 1) (pa_cons (pe_bltn (v := .ty "int") (by rfl) T.z_int (by decide +kernel) rfl) pa_nil)))) (pss_one (ps_ret (pe_and (pe_call (ok_l_int T) (hr.mono (by omega)) (by rfl) T.g_l_int T.F_l_int.kp (b_l_int T) .nil pass0 (pa_cons (pv 0) pa_nil)) (pe_one (pe_cmpR op_eq (pv 0) (pv 1) (nomark _)))))) pss_nil)
      (pss_cons (ps_if (pt_val (pe_callB call_isi (by rfl) T.z_isinstance (by decide +kernel) (pa_cons (pv 1) (pa_cons (pe_bltn (v := .ty "str") (by rfl) T.z_str (by decide +kernel) rfl) pa_nil)))) (pss_one (ps_ret (pe_and (pe_callB call_isi (by rfl) T.z_isinstance (by decide +kernel) (pa_cons (pv 0) (pa_cons (pe_bltn (v := .ty "str") (by rfl) T.z_str (by decide +kernel) rfl) pa_nil))) (pe_one (pe_cmpR op_eq (pv 0) (pv 1) (nomark _)))))) pss_nil)
      (pss_one (ps_ret (pe_and (pe_cmpR op_isN (pv 1) pe_non (nomark _)) (pe_one (pe_cmpR op_isN (pv 0) pe_non (nomark _)))))))))))
theorem ok_l_same (T : Tx K mg) : FnOk P w K mg base CX0 8 (He.fAd K ("_law_same", none)) T.fd_l_same ["_law_found", "_law_due"] (sp_l_same2 K) := ok_same2N T 6
theorem b_l_stock (T : Tx K mg) : Binds K T.fd_l_stock ["_law_deck_here"] [] := T.F_l_stock.bindsN fun _ _ _ _ _ _ us hl => match us, hl with | [_], _ => rfl
theorem ok_l_stock (T : Tx K mg) : FnOk P w K mg base CX0 4 (He.fAd K ("_law_stock", none)) T.fd_l_stock ["_law_deck_here"] (sp_l_stock K) := by
  refine T.F_l_stock.ok sc_l_stock (fun vs H Q E h => len_l_stock h) (fun cdv A outer s H vs Q E hr h => ⟨t_l_stock K, PSs.nox ?_, pure_l_stock h⟩)
  exact (pss_cons (ps_set (i := 1) sc_l_stock.nd rfl (Or.inr rfl) pe_int)
      (pss_cons (ps_if (pt_cmpR op_eq (pe_call (ok_l_draw T) (hr.mono (by decide)) (by rfl) T.g_l_draw T.F_l_draw.kp (b_l_draw T) .nil pass0 (pa_cons (pv 0) (pa_cons pe_int pa_nil))) pe_int (nomark _)) (pss_one (ps_set (i := 1) sc_l_stock.nd rfl (Or.inr rfl) pe_int)) pss_nil)
      (pss_one (ps_ret (pe_lc (own := [("_law_k", 2)]) (g := (gName 2)) (tt := tYes) (te := (tCall (sp_l_text K) [] E0 (tCons (tVar 0) (tCons (tVar 1) tNil)))) rfl sc_l_stock.nd (pi_range1 (by rfl) T.z_range (pa_cons (pe_op op_add pe_int (pe_call (ok_l_draw T) (hr.mono (by decide)) (by rfl) T.g_l_draw T.F_l_draw.kp (b_l_draw T) .nil pass0 (pa_cons (pv 0) (pa_cons pe_int pa_nil)))) pa_nil)) (blkOk_by (own := [("_law_k", 2)]) (N := N_l_stock) (sc := defScope s_l_stock) (by decide +kernel)) (fun _ _ _ _ _ => (pg_name (i := 2) sc_l_stock.nd rfl (Or.inl rfl))) (fun _ _ _ _ _ => pts_nil) (fun _ _ _ _ _ => (pe_call (ok_l_text T) (hr.mono (by decide)) (by rfl) T.g_l_text T.F_l_text.kp (b_l_text T) .nil pass0 (pa_cons (pv 0) (pa_cons (pv 1) pa_nil)))))))))
theorem b_l_lines (T : Tx K mg) : Binds K T.fd_l_lines ["_law_deck_here", "_law_stock_here", "_law_most_here"] [] := T.F_l_lines.bindsN fun _ _ _ _ _ _ us hl => match us, hl with | [_, _, _], _ => rfl
theorem ok_l_lines (T : Tx K mg) : FnOk P w K mg base CX0 3 (He.fAd K ("_law_lines", none)) T.fd_l_lines ["_law_deck_here", "_law_stock_here", "_law_most_here"] (sp_l_lines K) := by
  refine T.F_l_lines.ok sc_l_lines (fun vs H Q E h => len_l_lines h) (fun cdv A outer s H vs Q E hr h => ⟨t_l_lines K, PSs.nox ?_, pure_l_lines h⟩)
  exact (pss_one (ps_ret (pe_callTy call_tuple_of (by rfl) T.z_tuple (by decide +kernel) (pa_cons (pe_lc (own := [("_law_k", 3)]) (g := (gName 3)) (tt := tYes) (te := (tOp (rIx K) (tVar 1) (tCall (sp_l_draw K) [] E0 (tCons (tVar 0) (tCons (tCB (fLen K) (tCons (tVar 1) tNil)) tNil))))) rfl sc_l_lines.nd (pi_range1 (by rfl) T.z_range (pa_cons (pe_call (ok_l_draw T) (hr.mono (by decide)) (by rfl) T.g_l_draw T.F_l_draw.kp (b_l_draw T) .nil pass0 (pa_cons (pv 0) (pa_cons (pe_op op_add (pv 2) pe_int) pa_nil))) pa_nil)) (blkOk_by (own := [("_law_k", 3)]) (N := N_l_lines) (sc := defScope s_l_lines) (by decide +kernel)) (fun _ _ _ _ _ => (pg_name (i := 3) sc_l_lines.nd rfl (Or.inl rfl))) (fun _ _ _ _ _ => pts_nil) (fun _ _ _ _ _ => (pe_ix ix_seq (pv 1) (pe_call (ok_l_draw T) (hr.mono (by decide)) (by rfl) T.g_l_draw T.F_l_draw.kp (b_l_draw T) .nil pass0 (pa_cons (pv 0) (pa_cons (pe_callB call_len (by rfl) T.z_len PySem.boot_len (pa_cons (pv 1) pa_nil)) pa_nil))) (fun _ _ => rfl)))) pa_nil))))
theorem b_l_most (T : Tx K mg) : Binds K T.fd_l_most ["_law_deck_here"] [] := T.F_l_most.bindsN fun _ _ _ _ _ _ us hl => match us, hl with | [_], _ => rfl
theorem ok_l_most (T : Tx K mg) : FnOk P w K mg base CX0 3 (He.fAd K ("_law_most", none)) T.fd_l_most ["_law_deck_here"] (sp_l_most K) := by
  refine T.F_l_most.ok sc_l_most (fun vs H Q E h => len_l_most h) (fun cdv A outer s H vs Q E hr h => ⟨t_l_most K, PSs.nox ?_, pure_l_most h⟩)
  exact (pss_cons (ps_if (pt_cmpR op_eq (pe_call (ok_l_draw T) (hr.mono (by decide)) (by rfl) T.g_l_draw T.F_l_draw.kp (b_l_draw T) .nil pass0 (pa_cons (pv 0) (pa_cons pe_int pa_nil))) pe_int (nomark _)) (pss_one (ps_ret pe_int)) pss_nil)
      (pss_one (ps_ret pe_int)))
theorem b_l_script (T : Tx K mg) : Binds K T.fd_l_script ["_law_deck_here", "_law_base", "_law_stock_here", "_law_most_here"] [] := T.F_l_script.bindsN fun _ _ _ _ _ _ us hl => match us, hl with | [_, _, _, _], _ => rfl
theorem ok_l_script (T : Tx K mg) : FnOk P w K mg base CX0 3 (He.fAd K ("_law_script", none)) T.fd_l_script ["_law_deck_here", "_law_base", "_law_stock_here", "_law_most_here"] (sp_l_script K) := by
  refine T.F_l_script.ok sc_l_script (fun vs H Q E h => len_l_script h) (fun cdv A outer s H vs Q E hr h => ⟨t_l_script K, PSs.nox ?_, pure_l_script h⟩)
  exact (pss_cons (ps_set (i := 4) sc_l_script.nd rfl (Or.inl rfl) (pe_lst pa_nil))
      (pss_cons (ps_set (i := 5) sc_l_script.nd rfl (Or.inl rfl) (pe_call (ok_l_draw T) (hr.mono (by decide)) (by rfl) T.g_l_draw T.F_l_draw.kp (b_l_draw T) .nil pass0 (pa_cons (pv 0) (pa_cons (pe_op op_add (pv 3) pe_int) pa_nil))))
      (pss_cons (ps_while PassesOwn.never (pt_cmpR op_gt (pv 5) pe_int (nomark _)) (pss_cons (ps_if (PW.pt (pw_and (pt_cmpR op_gt (pe_callB call_len (by rfl) T.z_len PySem.boot_len (pa_cons (pv 1) pa_nil)) pe_int (nomark _)) (pw_and1 (pt_cmpR op_gt (pe_call (ok_l_draw T) (hr.mono (by decide)) (by rfl) T.g_l_draw T.F_l_draw.kp (b_l_draw T) .nil pass0 (pa_cons (pv 0) (pa_cons pe_int pa_nil))) pe_int (nomark _))))) (pss_cons (ps_set (i := 6) sc_l_script.nd rfl (Or.inl rfl) (pe_call (ok_l_draw T) (hr.mono (by decide)) (by rfl) T.g_l_draw T.F_l_draw.kp (b_l_draw T) .nil pass0 (pa_cons (pv 0) (pa_cons (pe_callB call_len (by rfl) T.z_len PySem.boot_len (pa_cons (pv 1) pa_nil)) pa_nil))))
      (pss_cons (ps_set (i := 7) sc_l_script.nd rfl (Or.inl rfl) (pe_op op_add pe_int (pe_call (ok_l_draw T) (hr.mono (by decide)) (by rfl) T.g_l_draw T.F_l_draw.kp (b_l_draw T) .nil pass0 (pa_cons (pv 0) (pa_cons (pe_callB (call_min2 rfl) (by rfl) T.z_min (by decide +kernel) (pa_cons (pv 5) (pa_cons (pe_op op_sub (pe_callB call_len (by rfl) T.z_len PySem.boot_len (pa_cons (pv 1) pa_nil)) (pv 6)) pa_nil))) pa_nil)))))
      (pss_one (ps_expr (pe_bm PySem.F.plainAttrs_list PySem.F.slot_list_append PySem.F.type_list_append mt_append (pv 4) (pa_cons (pe_tup (pa_cons pe_str (pa_cons (pv 6) (pa_cons (pv 7) pa_nil)))) pa_nil)))))) (pss_cons (ps_set (i := 7) sc_l_script.nd rfl (Or.inl rfl) (pe_op op_add pe_int (pe_call (ok_l_draw T) (hr.mono (by decide)) (by rfl) T.g_l_draw T.F_l_draw.kp (b_l_draw T) .nil pass0 (pa_cons (pv 0) (pa_cons (pe_callB (call_min2 rfl) (by rfl) T.z_min (by decide +kernel) (pa_cons (pv 5) (pa_cons pe_int pa_nil))) pa_nil)))))
      (pss_one (ps_expr (pe_bm PySem.F.plainAttrs_list PySem.F.slot_list_append PySem.F.type_list_append mt_append (pv 4) (pa_cons (pe_tup (pa_cons pe_str (pa_cons (pe_callTy call_tuple_of (by rfl) T.z_tuple (by decide +kernel) (pa_cons (pe_lc (own := [("_law_k", 8)]) (g := (gName 8)) (tt := tYes) (te := (tOp (rIx K) (tVar 2) (tCall (sp_l_draw K) [] E0 (tCons (tVar 0) (tCons (tCB (fLen K) (tCons (tVar 2) tNil)) tNil))))) rfl sc_l_script.nd (pi_range1 (by rfl) T.z_range (pa_cons (pv 7) pa_nil)) (blkOk_by (own := [("_law_k", 8)]) (N := N_l_script) (sc := defScope s_l_script) (by decide +kernel)) (fun _ _ _ _ _ => (pg_name (i := 8) sc_l_script.nd rfl (Or.inl rfl))) (fun _ _ _ _ _ => pts_nil) (fun _ _ _ _ _ => (pe_ix ix_seq (pv 2) (pe_call (ok_l_draw T) (hr.mono (by decide)) (by rfl) T.g_l_draw T.F_l_draw.kp (b_l_draw T) .nil pass0 (pa_cons (pv 0) (pa_cons (pe_callB call_len (by rfl) T.z_len PySem.boot_len (pa_cons (pv 2) pa_nil)) pa_nil))) (fun _ _ => rfl)))) pa_nil)) pa_nil))) pa_nil))))))
      (pss_one (ps_set (i := 5) sc_l_script.nd rfl (Or.inl rfl) (pe_op op_sub (pv 5) (pv 7))))))
      (pss_one (ps_ret (pe_callTy call_tuple_of (by rfl) T.z_tuple (by decide +kernel) (pa_cons (pv 4) pa_nil)))))))
theorem b_l_made (T : Tx K mg) : Binds K T.fd_l_made ["_law_base", "_law_pieces"] [] := T.F_l_made.bindsN fun _ _ _ _ _ _ us hl => match us, hl with | [_, _], _ => rfl
theorem ok_l_made (T : Tx K mg) : FnOk P w K mg base CX0 1 (He.fAd K ("_law_made", none)) T.fd_l_made ["_law_base", "_law_pieces"] (sp_l_made K) := by
  refine T.F_l_made.ok sc_l_made (fun vs H Q E h => len_l_made h) (fun cdv A outer s H vs Q E hr h => ⟨t_l_made K, PSs.nox ?_, pure_l_made h⟩)
  exact (pss_cons (ps_set (i := 2) sc_l_made.nd rfl (Or.inl rfl) (pe_lst pa_nil))
      (pss_cons (ps_for PassesOwn.never rfl (pi_tup (pv 1)) (pg_name (i := 3) sc_l_made.nd rfl (Or.inl rfl)) (pss_one (ps_if (pt_cmpR op_eq (pe_ix ix_seq (pv 3) pe_int (fun _ _ => rfl)) pe_str (nomark _)) (pss_one (ps_for PassesOwn.never rfl (pi_range1 (by rfl) T.z_range (pa_cons (pe_ix ix_seq (pv 3) pe_int (fun _ _ => rfl)) pa_nil)) (pg_name (i := 4) sc_l_made.nd rfl (Or.inl rfl)) (pss_one (ps_expr (pe_bm PySem.F.plainAttrs_list PySem.F.slot_list_append PySem.F.type_list_append mt_append (pv 2) (pa_cons (pe_ix ix_seq (pv 0) (pe_op op_add (pe_ix ix_seq (pv 3) pe_int (fun _ _ => rfl)) (pv 4)) (fun _ _ => rfl)) pa_nil)))))) (pss_one (ps_for PassesOwn.never rfl (pi_tup (pe_ix ix_seq (pv 3) pe_int (fun _ _ => rfl))) (pg_name (i := 5) sc_l_made.nd rfl (Or.inl rfl)) (pss_one (ps_expr (pe_bm PySem.F.plainAttrs_list PySem.F.slot_list_append PySem.F.type_list_append mt_append (pv 2) (pa_cons (pv 5) pa_nil)))))))))
      (pss_one (ps_ret (pe_callTy call_tuple_of (by rfl) T.z_tuple (by decide +kernel) (pa_cons (pv 2) pa_nil))))))
theorem b_l_is_line (T : Tx K mg) : Binds K T.fd_l_is_line ["_law_thing"] [] := T.F_l_is_line.bindsN fun _ _ _ _ _ _ us hl => match us, hl with | [_], _ => rfl
theorem ok_l_is_line (T : Tx K mg) : FnOk P w K mg base CX0 1 (He.fAd K ("_law_is_line", none)) T.fd_l_is_line ["_law_thing"] (sp_l_is_line K) := by
  refine T.F_l_is_line.ok sc_l_is_line (fun vs H Q E h => len_l_is_line h) (fun cdv A outer s H vs Q E hr h => ⟨t_l_is_line K, PSs.nox ?_, pure_l_is_line h⟩)
  exact (pss_cons (ps_if (PW.pt (pw_or (pt_not (pt_val (pe_callB call_isi (by rfl) T.z_isinstance (by decide +kernel) (pa_cons (pv 0) (pa_cons (pe_bltn (v := .ty "str") (by rfl) T.z_str (by decide +kernel) rfl) pa_nil))))) (pw_or1 (pt_cmpR op_gt (pe_callB call_len (by rfl) T.z_len PySem.boot_len (pa_cons (pv 0) pa_nil)) pe_int (nomark _))))) (pss_one (ps_ret pe_bl)) pss_nil)
      (pss_cons (ps_for PassesOwn.never rfl (pi_str (pv 0)) (pg_name (i := 1) sc_l_is_line.nd rfl (Or.inl rfl)) (pss_one (ps_if (PW.pt (pw_or (pt_cmpR op_lt_str (pv 1) pe_str (nomark _)) (pw_or1 (pt_cmpR op_gt_str (pv 1) pe_str (nomark _))))) (pss_one (ps_ret pe_bl)) pss_nil)))
      (pss_one (ps_ret pe_bl))))
theorem b_l_size (T : Tx K mg) : Binds K T.fd_l_size ["_law_piece"] [] := T.F_l_size.bindsN fun _ _ _ _ _ _ us hl => match us, hl with | [_], _ => rfl
theorem ok_l_size (T : Tx K mg) : FnOk P w K mg base CX0 2 (He.fAd K ("_law_size", none)) T.fd_l_size ["_law_piece"] (sp_l_size K) := by
  refine T.F_l_size.ok sc_l_size (fun vs H Q E h => len_l_size h) (fun cdv A outer s H vs Q E hr h => ⟨t_l_size K, PSs.nox ?_, pure_l_size h⟩)
  exact (pss_cons (ps_if (PW.pt (pw_or (pt_not (pt_val (pe_callB call_isi (by rfl) T.z_isinstance (by decide +kernel) (pa_cons (pv 0) (pa_cons (pe_bltn (v := .ty "tuple") (by rfl) T.z_tuple (by decide +kernel) rfl) pa_nil))))) (pw_or (pt_cmpR op_lt (pe_callB call_len (by rfl) T.z_len PySem.boot_len (pa_cons (pv 0) pa_nil)) pe_int (nomark _)) (pw_or1 (pt_not (pt_val (pe_callB call_isi (by rfl) T.z_isinstance (by decide +kernel) (pa_cons (pe_ix ix_seq (pv 0) pe_int (fun _ _ => rfl)) (pa_cons (pe_bltn (v := .ty "str") (by rfl) T.z_str (by decide +kernel) rfl) pa_nil))))))))) (pss_one (ps_ret pe_int)) pss_nil)
      (pss_cons (ps_if (PW.pt (pw_and (pt_cmpR op_eq (pe_ix ix_seq (pv 0) pe_int (fun _ _ => rfl)) pe_str (nomark _)) (pw_and (pt_cmpR op_eq (pe_callB call_len (by rfl) T.z_len PySem.boot_len (pa_cons (pv 0) pa_nil)) pe_int (nomark _)) (pw_and (pt_val (pe_call (ok_l_int T) (hr.mono (by decide)) (by rfl) T.g_l_int T.F_l_int.kp (b_l_int T) .nil pass0 (pa_cons (pe_ix ix_seq (pv 0) pe_int (fun _ _ => rfl)) pa_nil))) (pw_and1 (pt_val (pe_call (ok_l_int T) (hr.mono (by decide)) (by rfl) T.g_l_int T.F_l_int.kp (b_l_int T) .nil pass0 (pa_cons (pe_ix ix_seq (pv 0) pe_int (fun _ _ => rfl)) pa_nil)))))))) (pss_cons (ps_if (PW.pt (pw_and (pt_cmpR op_ge (pe_ix ix_seq (pv 0) pe_int (fun _ _ => rfl)) pe_int (nomark _)) (pw_and1 (pt_cmpR op_ge (pe_ix ix_seq (pv 0) pe_int (fun _ _ => rfl)) pe_int (nomark _))))) (pss_one (ps_ret (pe_ix ix_seq (pv 0) pe_int (fun _ _ => rfl)))) pss_nil)
      (pss_one (ps_ret pe_int))) pss_nil)
      (pss_cons (ps_if (PW.pt (pw_or (pt_cmpR op_ne (pe_ix ix_seq (pv 0) pe_int (fun _ _ => rfl)) pe_str (nomark _)) (pw_or (pt_cmpR op_ne (pe_callB call_len (by rfl) T.z_len PySem.boot_len (pa_cons (pv 0) pa_nil)) pe_int (nomark _)) (pw_or1 (pt_not (pt_val (pe_callB call_isi (by rfl) T.z_isinstance (by decide +kernel) (pa_cons (pe_ix ix_seq (pv 0) pe_int (fun _ _ => rfl)) (pa_cons (pe_bltn (v := .ty "tuple") (by rfl) T.z_tuple (by decide +kernel) rfl) pa_nil))))))))) (pss_one (ps_ret pe_int)) pss_nil)
      (pss_cons (ps_for PassesOwn.never rfl (pi_tup (pe_ix ix_seq (pv 0) pe_int (fun _ _ => rfl))) (pg_name (i := 1) sc_l_size.nd rfl (Or.inl rfl)) (pss_one (ps_if (pt_not (pt_val (pe_call (ok_l_is_line T) (hr.mono (by decide)) (by rfl) T.g_l_is_line T.F_l_is_line.kp (b_l_is_line T) .nil pass0 (pa_cons (pv 1) pa_nil)))) (pss_one (ps_ret pe_int)) pss_nil)))
      (pss_one (ps_ret (pe_callB call_len (by rfl) T.z_len PySem.boot_len (pa_cons (pe_ix ix_seq (pv 0) pe_int (fun _ _ => rfl)) pa_nil))))))))
theorem b_l_turned (T : Tx K mg) : Binds K T.fd_l_turned ["_law_one", "_law_spots"] [] := T.F_l_turned.bindsN fun _ _ _ _ _ _ us hl => match us, hl with | [_, _], _ => rfl
theorem ok_l_turned (T : Tx K mg) : FnOk P w K mg base CX0 1 (He.fAd K ("_law_turned", none)) T.fd_l_turned ["_law_one", "_law_spots"] (sp_l_turned K) := by
  refine T.F_l_turned.ok sc_l_turned (fun vs H Q E h => len_l_turned h) (fun cdv A outer s H vs Q E hr h => ⟨t_l_turned K, PSs.nox ?_, pure_l_turned h⟩)
  exact (pss_cons (ps_set (i := 2) sc_l_turned.nd rfl (Or.inl rfl) (pe_lst pa_nil))
      (pss_cons (ps_set (i := 3) sc_l_turned.nd rfl (Or.inl rfl) (pe_un un_neg pe_int))
      (pss_cons (ps_for PassesOwn.never rfl (pi_list (pv 1)) (pg_tup rfl (pgs_cons (pg_name (i := 4) sc_l_turned.nd rfl (Or.inl rfl)) (pgs_cons (pg_name (i := 5) sc_l_turned.nd rfl (Or.inl rfl)) pgs_nil))) (pss_cons (ps_set (i := 6) sc_l_turned.nd rfl (Or.inl rfl) (pe_ix ix_seq (pv 0) (pv 4) (fun _ _ => rfl)))
      (pss_cons (ps_if (PW.pt (pw_and (pt_cmpR op_eq (pe_ix ix_seq (pv 6) pe_int (fun _ _ => rfl)) pe_str (nomark _)) (pw_and1 (pt_cmpR op_eq (pv 4) (pv 3) (nomark _))))) (pss_one (ps_expr (pe_bm PySem.F.plainAttrs_list PySem.F.slot_list_append PySem.F.type_list_append mt_append (pv 2) (pa_cons (pe_tup (pa_cons pe_str (pa_cons (pe_ix ix_seq (pe_bm0 PySem.F.plainAttrs_list PySem.F.slot_list_pop PySem.F.type_list_pop mt_pop (pv 2)) pe_int (fun _ _ => rfl)) (pa_cons (pe_op op_add (pv 5) pe_int) pa_nil)))) pa_nil)))) (pss_one (ps_if (pt_cmpR op_eq (pe_ix ix_seq (pv 6) pe_int (fun _ _ => rfl)) pe_str (nomark _)) (pss_one (ps_expr (pe_bm PySem.F.plainAttrs_list PySem.F.slot_list_append PySem.F.type_list_append mt_append (pv 2) (pa_cons (pe_tup (pa_cons pe_str (pa_cons (pv 5) (pa_cons (pe_op op_add (pv 5) pe_int) pa_nil)))) pa_nil)))) (pss_one (ps_if (pt_cmpR op_eq (pv 4) (pv 3) (nomark _)) (pss_one (ps_expr (pe_bm PySem.F.plainAttrs_list PySem.F.slot_list_append PySem.F.type_list_append mt_append (pv 2) (pa_cons (pe_tup (pa_cons pe_str (pa_cons (pe_op op_catT (pe_ix ix_seq (pe_bm0 PySem.F.plainAttrs_list PySem.F.slot_list_pop PySem.F.type_list_pop mt_pop (pv 2)) pe_int (fun _ _ => rfl)) (pe_slice sl_tupA (pe_ix ix_seq (pv 6) pe_int (fun _ _ => rfl)) (po_some (pv 5)) (po_some (pe_op op_add (pv 5) pe_int)))) pa_nil))) pa_nil)))) (pss_one (ps_expr (pe_bm PySem.F.plainAttrs_list PySem.F.slot_list_append PySem.F.type_list_append mt_append (pv 2) (pa_cons (pe_tup (pa_cons pe_str (pa_cons (pe_slice sl_tupA (pe_ix ix_seq (pv 6) pe_int (fun _ _ => rfl)) (po_some (pv 5)) (po_some (pe_op op_add (pv 5) pe_int))) pa_nil))) pa_nil)))))))))
      (pss_one (ps_set (i := 3) sc_l_turned.nd rfl (Or.inl rfl) (pv 4))))))
      (pss_one (ps_ret (pv 2))))))
theorem b_l_joined (T : Tx K mg) : Binds K T.fd_l_joined ["_law_one", "_law_other"] [] := T.F_l_joined.bindsN fun _ _ _ _ _ _ us hl => match us, hl with | [_, _], _ => rfl
theorem ok_l_joined (T : Tx K mg) : FnOk P w K mg base CX0 3 (He.fAd K ("_law_joined", none)) T.fd_l_joined ["_law_one", "_law_other"] (sp_l_joined K) := by
  refine T.F_l_joined.ok sc_l_joined (fun vs H Q E h => len_l_joined h) (fun cdv A outer s H vs Q E hr h => ⟨t_l_joined K, PSs.nox ?_, pure_l_joined h⟩)
  exact (pss_cons (ps_set (i := 2) sc_l_joined.nd rfl (Or.inl rfl) (pe_lst pa_nil))
      (pss_cons (ps_for PassesOwn.never rfl (pi_range1 (by rfl) T.z_range (pa_cons (pe_callB call_len (by rfl) T.z_len PySem.boot_len (pa_cons (pv 0) pa_nil)) pa_nil)) (pg_name (i := 3) sc_l_joined.nd rfl (Or.inl rfl)) (pss_one (ps_for PassesOwn.never rfl (pi_range1 (by rfl) T.z_range (pa_cons (pe_call (ok_l_size T) (hr.mono (by decide)) (by rfl) T.g_l_size T.F_l_size.kp (b_l_size T) .nil pass0 (pa_cons (pe_ix ix_seq (pv 0) (pv 3) (fun _ _ => rfl)) pa_nil)) pa_nil)) (pg_name (i := 4) sc_l_joined.nd rfl (Or.inl rfl)) (pss_one (ps_expr (pe_bm PySem.F.plainAttrs_list PySem.F.slot_list_append PySem.F.type_list_append mt_append (pv 2) (pa_cons (pe_tup (pa_cons (pv 3) (pa_cons (pv 4) pa_nil))) pa_nil)))))))
      (pss_cons (ps_set (i := 5) sc_l_joined.nd rfl (Or.inl rfl) (pe_lst pa_nil))
      (pss_cons (ps_for PassesOwn.never rfl (pi_tup (pv 1)) (pg_name (i := 6) sc_l_joined.nd rfl (Or.inl rfl)) (pss_one (ps_if (pt_cmpR op_eq (pe_ix ix_seq (pv 6) pe_int (fun _ _ => rfl)) pe_str (nomark _)) (pss_one (ps_expr (pe_bm PySem.F.plainAttrs_list PySem.F.slot_list_append PySem.F.type_list_append mt_append (pv 5) (pa_cons (pv 6) pa_nil)))) (pss_cons (ps_set (i := 7) sc_l_joined.nd rfl (Or.inl rfl) (pe_slice sl_list (pv 2) (po_some (pe_ix ix_seq (pv 6) pe_int (fun _ _ => rfl))) (po_some (pe_op op_add (pe_ix ix_seq (pv 6) pe_int (fun _ _ => rfl)) (pe_ix ix_seq (pv 6) pe_int (fun _ _ => rfl))))))
      (pss_cons (ps_set (i := 8) sc_l_joined.nd rfl (Or.inl rfl) (pe_call (ok_l_turned T) (hr.mono (by decide)) (by rfl) T.g_l_turned T.F_l_turned.kp (b_l_turned T) .nil pass0 (pa_cons (pv 0) (pa_cons (pv 7) pa_nil))))
      (pss_cons (ps_set (i := 9) sc_l_joined.nd rfl (Or.inl rfl) (pe_lst pa_nil))
      (pss_cons (ps_for PassesOwn.never rfl (pi_range1 (by rfl) T.z_range (pa_cons (pe_callB call_len (by rfl) T.z_len PySem.boot_len (pa_cons (pv 7) pa_nil)) pa_nil)) (pg_name (i := 10) sc_l_joined.nd rfl (Or.inl rfl)) (pss_one (ps_if (PW.pt (pw_or (pt_cmpR op_eq (pv 10) pe_int (nomark _)) (pw_or1 (pt_cmpR op_ne (pe_ix ix_seq (pe_ix ix_seq (pv 7) (pv 10) (fun _ _ => rfl)) pe_int (fun _ _ => rfl)) (pe_ix ix_seq (pe_ix ix_seq (pv 7) (pe_op op_sub (pv 10) pe_int) (fun _ _ => rfl)) pe_int (fun _ _ => rfl)) (nomark _))))) (pss_one (ps_expr (pe_bm PySem.F.plainAttrs_list PySem.F.slot_list_append PySem.F.type_list_append mt_append (pv 9) (pa_cons (pe_ix ix_seq (pv 7) (pv 10) (fun _ _ => rfl)) pa_nil)))) pss_nil)))
      (pss_one (ps_for PassesOwn.never rfl (pi_range1 (by rfl) T.z_range (pa_cons (pe_callB call_len (by rfl) T.z_len PySem.boot_len (pa_cons (pv 8) pa_nil)) pa_nil)) (pg_name (i := 10) sc_l_joined.nd rfl (Or.inl rfl)) (pss_one (ps_if (pt_cmpR op_eq (pe_ix ix_seq (pe_ix ix_seq (pv 8) (pv 10) (fun _ _ => rfl)) pe_int (fun _ _ => rfl)) pe_str (nomark _)) (pss_one (ps_expr (pe_bm PySem.F.plainAttrs_list PySem.F.slot_list_append PySem.F.type_list_append mt_append (pv 5) (pa_cons (pe_ix ix_seq (pv 8) (pv 10) (fun _ _ => rfl)) pa_nil)))) (pss_cons (ps_set (i := 11) sc_l_joined.nd rfl (Or.inl rfl) (pe_ix ix_seq (pe_ix ix_seq (pv 0) (pe_ix ix_seq (pe_ix ix_seq (pv 9) (pv 10) (fun _ _ => rfl)) pe_int (fun _ _ => rfl)) (fun _ _ => rfl)) pe_int (fun _ _ => rfl)))
      (pss_one (ps_expr (pe_bm PySem.F.plainAttrs_list PySem.F.slot_list_append PySem.F.type_list_append mt_append (pv 5) (pa_cons (pe_tup (pa_cons pe_str (pa_cons (pe_op op_add (pv 11) (pe_ix ix_seq (pe_ix ix_seq (pv 8) (pv 10) (fun _ _ => rfl)) pe_int (fun _ _ => rfl))) (pa_cons (pe_op op_sub (pe_ix ix_seq (pe_ix ix_seq (pv 8) (pv 10) (fun _ _ => rfl)) pe_int (fun _ _ => rfl)) (pe_ix ix_seq (pe_ix ix_seq (pv 8) (pv 10) (fun _ _ => rfl)) pe_int (fun _ _ => rfl))) pa_nil)))) pa_nil))))))))))))))))
      (pss_one (ps_ret (pe_callTy call_tuple_of (by rfl) T.z_tuple (by decide +kernel) (pa_cons (pv 5) pa_nil))))))))
theorem b_law (T : Tx K mg) : Binds K T.fd_law ["_law_script_here"] [] := T.F_law.bindsN fun _ _ _ _ _ _ us hl => match us, hl with | [_], _ => rfl
theorem ok_law (T : Tx K mg) : FnOk P w K mg base CX0 10 (He.fAd K ("law", none)) T.fd_law ["_law_script_here"] (sp_law K) := by
  refine T.F_law.ok sc_law (fun vs H Q E h => len_law h) (fun cdv A outer s H vs Q E hr h => ⟨t_law K, PSs.nox ?_, pure_law h⟩)
  exact (pss_cons (ps_set (i := 1) sc_law.nd rfl (Or.inl rfl) (pe_call (ok_l_deck T) (hr.mono (by decide)) (by rfl) T.g_l_deck T.F_l_deck.kp (b_l_deck T) .nil pass0 (pa_cons (pv 0) pa_nil)))
      (pss_cons (ps_set (i := 2) sc_law.nd rfl (Or.inl rfl) (pe_call (ok_l_stock T) (hr.mono (by decide)) (by rfl) T.g_l_stock T.F_l_stock.kp (b_l_stock T) .nil pass0 (pa_cons (pv 1) pa_nil)))
      (pss_cons (ps_for PassesOwn.never rfl (pi_range1 (by rfl) T.z_range (pa_cons (pe_op op_add pe_int (pe_op op_fdivW (pe_callB (call_min2 rfl) (by rfl) T.z_min (by decide +kernel) (pa_cons (pe_callB call_len (by rfl) T.z_len PySem.boot_len (pa_cons (pv 0) pa_nil)) (pa_cons pe_int pa_nil))) pe_int)) pa_nil)) (pg_name (i := 3) sc_law.nd rfl (Or.inl rfl)) (pss_cons (ps_set (i := 4) sc_law.nd rfl (Or.inl rfl) (pe_call (ok_l_lines T) (hr.mono (by decide)) (by rfl) T.g_l_lines T.F_l_lines.kp (b_l_lines T) .nil pass0 (pa_cons (pv 1) (pa_cons (pv 2) (pa_cons (pe_call (ok_l_most T) (hr.mono (by decide)) (by rfl) T.g_l_most T.F_l_most.kp (b_l_most T) .nil pass0 (pa_cons (pv 1) pa_nil)) pa_nil)))))
      (pss_cons (ps_set (i := 5) sc_law.nd rfl (Or.inl rfl) (pe_call (ok_l_script T) (hr.mono (by decide)) (by rfl) T.g_l_script T.F_l_script.kp (b_l_script T) .nil pass0 (pa_cons (pv 1) (pa_cons (pv 4) (pa_cons (pv 2) (pa_cons (pe_call (ok_l_most T) (hr.mono (by decide)) (by rfl) T.g_l_most T.F_l_most.kp (b_l_most T) .nil pass0 (pa_cons (pv 1) pa_nil)) pa_nil))))))
      (pss_cons (ps_set (i := 6) sc_law.nd rfl (Or.inl rfl) (pe_call (ok_l_made T) (hr.mono (by decide)) (by rfl) T.g_l_made T.F_l_made.kp (b_l_made T) .nil pass0 (pa_cons (pv 4) (pa_cons (pv 5) pa_nil))))
      (pss_cons (ps_set (i := 7) sc_law.nd rfl (Or.inl rfl) (pe_call (ok_l_script T) (hr.mono (by decide)) (by rfl) T.g_l_script T.F_l_script.kp (b_l_script T) .nil pass0 (pa_cons (pv 1) (pa_cons (pv 6) (pa_cons (pv 2) (pa_cons (pe_call (ok_l_most T) (hr.mono (by decide)) (by rfl) T.g_l_most T.F_l_most.kp (b_l_most T) .nil pass0 (pa_cons (pv 1) pa_nil)) pa_nil))))))
      (pss_cons (ps_set (i := 8) sc_law.nd rfl (Or.inl rfl) (pe_call (ok_l_made T) (hr.mono (by decide)) (by rfl) T.g_l_made T.F_l_made.kp (b_l_made T) .nil pass0 (pa_cons (pv 6) (pa_cons (pv 7) pa_nil))))
      (pss_cons (ps_set (i := 9) sc_law.nd rfl (Or.inl rfl) (pe_call (ok_l_script T) (hr.mono (by decide)) (by rfl) T.g_l_script T.F_l_script.kp (b_l_script T) .nil pass0 (pa_cons (pv 1) (pa_cons (pv 8) (pa_cons (pv 2) (pa_cons pe_int pa_nil))))))
      (pss_cons (ps_set (i := 10) sc_law.nd rfl (Or.inl rfl) (pe_call (ok_l_joined T) (hr.mono (by decide)) (by rfl) T.g_l_joined T.F_l_joined.kp (b_l_joined T) .nil pass0 (pa_cons (pv 5) (pa_cons (pv 7) pa_nil))))
      (pss_cons (ps_set (i := 11) sc_law.nd rfl (Or.inl rfl) (pe_call (ok_joined T) (hr.mono (by decide)) (by rfl) T.g_joined T.F_joined.kp (b_joined T) .nil pass0 (pa_cons (pv 4) (pa_cons (pv 5) (pa_cons (pv 7) pa_nil)))))
      (pss_cons (ps_if (pt_not (pt_val (pe_call (ok_l_same T) (hr.mono (by decide)) (by rfl) T.g_l_same T.F_l_same.kp (b_l_same T) .nil pass0 (pa_cons (pv 11) (pa_cons (pv 10) pa_nil))))) (pss_one (ps_ret pe_bl)) pss_nil)
      (pss_cons (ps_if (pt_not (pt_val (pe_call (ok_l_same T) (hr.mono (by decide)) (by rfl) T.g_l_same T.F_l_same.kp (b_l_same T) .nil pass0 (pa_cons (pe_call (ok_done T) (hr.mono (by decide)) (by rfl) T.g_done T.F_done.kp (b_done T) .nil pass0 (pa_cons (pv 4) (pa_cons (pv 11) pa_nil))) (pa_cons (pv 8) pa_nil))))) (pss_one (ps_ret pe_bl)) pss_nil)
      (pss_cons (ps_set (i := 12) sc_law.nd rfl (Or.inl rfl) (pe_call (ok_joined T) (hr.mono (by decide)) (by rfl) T.g_joined T.F_joined.kp (b_joined T) .nil pass0 (pa_cons (pv 4) (pa_cons (pv 11) (pa_cons (pv 9) pa_nil)))))
      (pss_cons (ps_set (i := 13) sc_law.nd rfl (Or.inl rfl) (pe_call (ok_joined T) (hr.mono (by decide)) (by rfl) T.g_joined T.F_joined.kp (b_joined T) .nil pass0 (pa_cons (pv 4) (pa_cons (pv 5) (pa_cons (pe_call (ok_joined T) (hr.mono (by decide)) (by rfl) T.g_joined T.F_joined.kp (b_joined T) .nil pass0 (pa_cons (pv 6) (pa_cons (pv 7) (pa_cons (pv 9) pa_nil)))) pa_nil)))))
      (pss_one (ps_if (PW.pt (pw_or (pt_not (pt_val (pe_call (ok_l_same T) (hr.mono (by decide)) (by rfl) T.g_l_same T.F_l_same.kp (b_l_same T) .nil pass0 (pa_cons (pv 12) (pa_cons (pv 13) pa_nil))))) (pw_or1 (pt_not (pt_val (pe_call (ok_l_same T) (hr.mono (by decide)) (by rfl) T.g_l_same T.F_l_same.kp (b_l_same T) .nil pass0 (pa_cons (pe_call (ok_done T) (hr.mono (by decide)) (by rfl) T.g_done T.F_done.kp (b_done T) .nil pass0 (pa_cons (pv 4) (pa_cons (pv 12) pa_nil))) (pa_cons (pe_call (ok_l_made T) (hr.mono (by decide)) (by rfl) T.g_l_made T.F_l_made.kp (b_l_made T) .nil pass0 (pa_cons (pv 8) (pa_cons (pv 9) pa_nil))) pa_nil)))))))) (pss_one (ps_ret pe_bl)) pss_nil)))))))))))))))
      (pss_one (ps_ret pe_bl)))))
end
def d_is_int : He.DefD := ⟨("is_int", none), "is_int", "is_int", defArgs s_is_int, defBody s_is_int, defScope s_is_int, [], []⟩
def d_is_sign : He.DefD := ⟨("is_sign", none), "is_sign", "is_sign", defArgs s_is_sign, defBody s_is_sign, defScope s_is_sign, [], []⟩
def d_is_text : He.DefD := ⟨("is_text", none), "is_text", "is_text", defArgs s_is_text, defBody s_is_text, defScope s_is_text, [], []⟩
def d_is_pair : He.DefD := ⟨("is_pair", none), "is_pair", "is_pair", defArgs s_is_pair, defBody s_is_pair, defScope s_is_pair, [], []⟩
def d_is_row : He.DefD := ⟨("is_row", none), "is_row", "is_row", defArgs s_is_row, defBody s_is_row, defScope s_is_row, [], []⟩
def d_are_put : He.DefD := ⟨("are_put", none), "are_put", "are_put", defArgs s_are_put, defBody s_are_put, defScope s_are_put, [], []⟩
def d_rows_in : He.DefD := ⟨("rows_in", none), "rows_in", "rows_in", defArgs s_rows_in, defBody s_rows_in, defScope s_rows_in, [], []⟩
def d_is_piece : He.DefD := ⟨("is_piece", none), "is_piece", "is_piece", defArgs s_is_piece, defBody s_is_piece, defScope s_is_piece, [], []⟩
def d_is_script : He.DefD := ⟨("is_script", none), "is_script", "is_script", defArgs s_is_script, defBody s_is_script, defScope s_is_script, [], []⟩
def d_is_right_over : He.DefD := ⟨("is_right_over", none), "is_right_over", "is_right_over", defArgs s_is_right_over, defBody s_is_right_over, defScope s_is_right_over, [], []⟩
def d_refuse_wrong : He.DefD := ⟨("refuse_wrong", none), "refuse_wrong", "refuse_wrong", defArgs s_refuse_wrong, defBody s_refuse_wrong, defScope s_refuse_wrong, [], []⟩
def d_made : He.DefD := ⟨("made", none), "made", "made", defArgs s_made, defBody s_made, defScope s_made, [], []⟩
def d_done : He.DefD := ⟨("done", none), "done", "done", defArgs s_done, defBody s_done, defScope s_done, [], []⟩
def d_cut_piece : He.DefD := ⟨("cut_piece", none), "cut_piece", "cut_piece", defArgs s_cut_piece, defBody s_cut_piece, defScope s_cut_piece, [], []⟩
def d_part_of : He.DefD := ⟨("part_of", none), "part_of", "part_of", defArgs s_part_of, defBody s_part_of, defScope s_part_of, [], []⟩
def d_joined : He.DefD := ⟨("joined", none), "joined", "joined", defArgs s_joined, defBody s_joined, defScope s_joined, [], []⟩
def d_l_deck : He.DefD := ⟨("_law_deck", none), "_law_deck", "_law_deck", defArgs s_l_deck, defBody s_l_deck, defScope s_l_deck, [], []⟩
def d_l_mixed : He.DefD := ⟨("_law_mixed", none), "_law_mixed", "_law_mixed", defArgs s_l_mixed, defBody s_l_mixed, defScope s_l_mixed, [], []⟩
def d_l_draw : He.DefD := ⟨("_law_draw", none), "_law_draw", "_law_draw", defArgs s_l_draw, defBody s_l_draw, defScope s_l_draw, [], []⟩
def d_l_text : He.DefD := ⟨("_law_text", none), "_law_text", "_law_text", defArgs s_l_text, defBody s_l_text, defScope s_l_text, [], []⟩
def d_l_int : He.DefD := ⟨("_law_int", none), "_law_int", "_law_int", defArgs s_l_int, defBody s_l_int, defScope s_l_int, [], []⟩
def d_l_same : He.DefD := ⟨("_law_same", none), "_law_same", "_law_same", defArgs s_l_same, defBody s_l_same, defScope s_l_same, [], []⟩
def d_l_stock : He.DefD := ⟨("_law_stock", none), "_law_stock", "_law_stock", defArgs s_l_stock, defBody s_l_stock, defScope s_l_stock, [], []⟩
def d_l_lines : He.DefD := ⟨("_law_lines", none), "_law_lines", "_law_lines", defArgs s_l_lines, defBody s_l_lines, defScope s_l_lines, [], []⟩
def d_l_most : He.DefD := ⟨("_law_most", none), "_law_most", "_law_most", defArgs s_l_most, defBody s_l_most, defScope s_l_most, [], []⟩
def d_l_script : He.DefD := ⟨("_law_script", none), "_law_script", "_law_script", defArgs s_l_script, defBody s_l_script, defScope s_l_script, [], []⟩
def d_l_made : He.DefD := ⟨("_law_made", none), "_law_made", "_law_made", defArgs s_l_made, defBody s_l_made, defScope s_l_made, [], []⟩
def d_l_is_line : He.DefD := ⟨("_law_is_line", none), "_law_is_line", "_law_is_line", defArgs s_l_is_line, defBody s_l_is_line, defScope s_l_is_line, [], []⟩
def d_l_size : He.DefD := ⟨("_law_size", none), "_law_size", "_law_size", defArgs s_l_size, defBody s_l_size, defScope s_l_size, [], []⟩
def d_l_turned : He.DefD := ⟨("_law_turned", none), "_law_turned", "_law_turned", defArgs s_l_turned, defBody s_l_turned, defScope s_l_turned, [], []⟩
def d_l_joined : He.DefD := ⟨("_law_joined", none), "_law_joined", "_law_joined", defArgs s_l_joined, defBody s_l_joined, defScope s_l_joined, [], []⟩
def d_law : He.DefD := ⟨("law", none), "law", "law", defArgs s_law, defBody s_law, defScope s_law, [], []⟩
def fn : List He.DefD := [d_is_int, d_is_sign, d_is_text, d_is_pair, d_is_row, d_are_put, d_rows_in, d_is_piece, d_is_script, d_is_right_over, d_refuse_wrong, d_made, d_done, d_cut_piece, d_part_of, d_joined, d_l_deck, d_l_mixed, d_l_draw, d_l_text, d_l_int, d_l_same, d_l_stock, d_l_lines, d_l_most, d_l_script, d_l_made, d_l_is_line, d_l_size, d_l_turned, d_l_joined, d_law]
def fa : List He.Fa := [.glo "is_int", .glo "is_sign", .glo "is_text", .glo "is_pair", .glo "is_row", .glo "are_put", .glo "rows_in", .glo "is_piece", .glo "is_script", .glo "is_right_over", .glo "refuse_wrong", .glo "made", .glo "done", .glo "cut_piece", .glo "part_of", .glo "joined", .glo "_law_deck", .glo "_law_mixed", .glo "_law_draw", .glo "_law_text", .glo "_law_int", .glo "_law_same", .glo "_law_stock", .glo "_law_lines", .glo "_law_most", .glo "_law_script", .glo "_law_made", .glo "_law_is_line", .glo "_law_size", .glo "_law_turned", .glo "_law_joined", .glo "law", .free "all", .free "bool", .free "dict", .free "int", .free "isinstance", .free "len", .free "list", .free "max", .free "min", .free "ord", .free "range", .free "str", .free "sum", .free "tuple", .int "BARRED_SIGN" 37, .int "MOST_ROWS" 40, .int "MOST_SIGNS" 40]
abbrev R : PySem.W.OpenRow := PySem.W.OpenLaw.row PySem.Challenge.rw_fewasks_k38_whole_joined
abbrev hk : PySem.W.Hook := He.hookD 4 fa fn
def ob (s : PySem.W.SharedT) : He.AlD := He.obsDG 4 fa fn (HandSHeadRun.getT s)
theorem ob_eq (s : PySem.W.SharedT) : ob s = hk.obs s.abs := He.obsDG_eq (HandSHeadRun.getT_eq s)
def loose : List Str := [("HouseError" : Str), ("NoScript" : Str), ("is_int" : Str), ("is_text" : Str), ("is_sign" : Str), ("is_pair" : Str), ("is_row" : Str), ("is_script" : Str), ("is_piece" : Str), ("are_put" : Str), ("rows_in" : Str), ("is_right_over" : Str), ("refuse_wrong" : Str), ("done" : Str), ("made" : Str), ("joined" : Str), ("part_of" : Str), ("cut_piece" : Str), ("_law_deck" : Str), ("_law_mixed" : Str), ("_law_draw" : Str), ("_law_text" : Str), ("_law_int" : Str), ("_law_same" : Str), ("_law_stock" : Str), ("_law_lines" : Str), ("_law_most" : Str), ("_law_script" : Str), ("_law_made" : Str), ("_law_is_line" : Str), ("_law_size" : Str), ("_law_turned" : Str), ("_law_joined" : Str), ("BARRED_SIGN" : Str), ("MOST_ROWS" : Str), ("MOST_SIGNS" : Str)]
theorem run (w : World) : HandSHeadRun.RunEq R (PySem.W.view R.prog [40]) hk ob 4000 loose w := by
  intro os
  kernel_rfl
theorem facts {P : Program} {w : World} {K : PySem.W.Frag} {h : Heap} {mg : Str → Option Value} {f : Addr} (X : K.In h) (G : h.Ns mainGlobals mg) (hfa : mg ("law" : Str) = some (.ref f)) (c : He.SaysD fa fn K) :
    ∃ fd : FuncData, (∀ (s : Shared) (v : Value), BindsTo s fd ⟨[v], []⟩ [("_law_script_here", v)]) ∧ ∀ base : Heap, K.In base → base.Ns mainGlobals mg → FnOk P w K mg base CX0 10 f fd ["_law_script_here"] (sp_law K) := by
  obtain ⟨fd0, F0⟩ := c.def_ 0 (d := d_is_int) rfl
  obtain ⟨fd1, F1⟩ := c.def_ 1 (d := d_is_sign) rfl
  obtain ⟨fd2, F2⟩ := c.def_ 2 (d := d_is_text) rfl
  obtain ⟨fd3, F3⟩ := c.def_ 3 (d := d_is_pair) rfl
  obtain ⟨fd4, F4⟩ := c.def_ 4 (d := d_is_row) rfl
  obtain ⟨fd5, F5⟩ := c.def_ 5 (d := d_are_put) rfl
  obtain ⟨fd6, F6⟩ := c.def_ 6 (d := d_rows_in) rfl
  obtain ⟨fd7, F7⟩ := c.def_ 7 (d := d_is_piece) rfl
  obtain ⟨fd8, F8⟩ := c.def_ 8 (d := d_is_script) rfl
  obtain ⟨fd9, F9⟩ := c.def_ 9 (d := d_is_right_over) rfl
  obtain ⟨fd10, F10⟩ := c.def_ 10 (d := d_refuse_wrong) rfl
  obtain ⟨fd11, F11⟩ := c.def_ 11 (d := d_made) rfl
  obtain ⟨fd12, F12⟩ := c.def_ 12 (d := d_done) rfl
  obtain ⟨fd13, F13⟩ := c.def_ 13 (d := d_cut_piece) rfl
  obtain ⟨fd14, F14⟩ := c.def_ 14 (d := d_part_of) rfl
  obtain ⟨fd15, F15⟩ := c.def_ 15 (d := d_joined) rfl
  obtain ⟨fd16, F16⟩ := c.def_ 16 (d := d_l_deck) rfl
  obtain ⟨fd17, F17⟩ := c.def_ 17 (d := d_l_mixed) rfl
  obtain ⟨fd18, F18⟩ := c.def_ 18 (d := d_l_draw) rfl
  obtain ⟨fd19, F19⟩ := c.def_ 19 (d := d_l_text) rfl
  obtain ⟨fd20, F20⟩ := c.def_ 20 (d := d_l_int) rfl
  obtain ⟨fd21, F21⟩ := c.def_ 21 (d := d_l_same) rfl
  obtain ⟨fd22, F22⟩ := c.def_ 22 (d := d_l_stock) rfl
  obtain ⟨fd23, F23⟩ := c.def_ 23 (d := d_l_lines) rfl
  obtain ⟨fd24, F24⟩ := c.def_ 24 (d := d_l_most) rfl
  obtain ⟨fd25, F25⟩ := c.def_ 25 (d := d_l_script) rfl
  obtain ⟨fd26, F26⟩ := c.def_ 26 (d := d_l_made) rfl
  obtain ⟨fd27, F27⟩ := c.def_ 27 (d := d_l_is_line) rfl
  obtain ⟨fd28, F28⟩ := c.def_ 28 (d := d_l_size) rfl
  obtain ⟨fd29, F29⟩ := c.def_ 29 (d := d_l_turned) rfl
  obtain ⟨fd30, F30⟩ := c.def_ 30 (d := d_l_joined) rfl
  obtain ⟨fd31, F31⟩ := c.def_ 31 (d := d_law) rfl
  have e := hfa.symm.trans (He.glo_ok X G (c.fact 31 (f := .glo "law") rfl))
  cases e
  have b := FunD.bindsA (ps := ["_law_script_here"]) F31 fun _ _ _ _ _ _ us hl => match us, hl with | [_], _ => rfl
  exact ⟨fd31, fun s v => b s [v] rfl, fun base _ _ => ok_law (⟨fd0, F0, (He.glo_ok X G (c.fact 0 (f := .glo "is_int") rfl)), fd1, F1, (He.glo_ok X G (c.fact 1 (f := .glo "is_sign") rfl)), fd2, F2, (He.glo_ok X G (c.fact 2 (f := .glo "is_text") rfl)), fd3, F3, (He.glo_ok X G (c.fact 3 (f := .glo "is_pair") rfl)), fd4, F4, (He.glo_ok X G (c.fact 4 (f := .glo "is_row") rfl)), fd5, F5, (He.glo_ok X G (c.fact 5 (f := .glo "are_put") rfl)), fd6, F6, (He.glo_ok X G (c.fact 6 (f := .glo "rows_in") rfl)), fd7, F7, (He.glo_ok X G (c.fact 7 (f := .glo "is_piece") rfl)), fd8, F8, (He.glo_ok X G (c.fact 8 (f := .glo "is_script") rfl)), fd9, F9, (He.glo_ok X G (c.fact 9 (f := .glo "is_right_over") rfl)), fd10, F10, (He.glo_ok X G (c.fact 10 (f := .glo "refuse_wrong") rfl)), fd11, F11, (He.glo_ok X G (c.fact 11 (f := .glo "made") rfl)), fd12, F12, (He.glo_ok X G (c.fact 12 (f := .glo "done") rfl)), fd13, F13, (He.glo_ok X G (c.fact 13 (f := .glo "cut_piece") rfl)), fd14, F14, (He.glo_ok X G (c.fact 14 (f := .glo "part_of") rfl)), fd15, F15, (He.glo_ok X G (c.fact 15 (f := .glo "joined") rfl)), fd16, F16, (He.glo_ok X G (c.fact 16 (f := .glo "_law_deck") rfl)), fd17, F17, (He.glo_ok X G (c.fact 17 (f := .glo "_law_mixed") rfl)), fd18, F18, (He.glo_ok X G (c.fact 18 (f := .glo "_law_draw") rfl)), fd19, F19, (He.glo_ok X G (c.fact 19 (f := .glo "_law_text") rfl)), fd20, F20, (He.glo_ok X G (c.fact 20 (f := .glo "_law_int") rfl)), fd21, F21, (He.glo_ok X G (c.fact 21 (f := .glo "_law_same") rfl)), fd22, F22, (He.glo_ok X G (c.fact 22 (f := .glo "_law_stock") rfl)), fd23, F23, (He.glo_ok X G (c.fact 23 (f := .glo "_law_lines") rfl)), fd24, F24, (He.glo_ok X G (c.fact 24 (f := .glo "_law_most") rfl)), fd25, F25, (He.glo_ok X G (c.fact 25 (f := .glo "_law_script") rfl)), fd26, F26, (He.glo_ok X G (c.fact 26 (f := .glo "_law_made") rfl)), fd27, F27, (He.glo_ok X G (c.fact 27 (f := .glo "_law_is_line") rfl)), fd28, F28, (He.glo_ok X G (c.fact 28 (f := .glo "_law_size") rfl)), fd29, F29, (He.glo_ok X G (c.fact 29 (f := .glo "_law_turned") rfl)), fd30, F30, (He.glo_ok X G (c.fact 30 (f := .glo "_law_joined") rfl)), fd31, F31, (He.free_ok X G (c.fact 32 (f := .free "all") rfl)), (He.free_ok X G (c.fact 33 (f := .free "bool") rfl)), (He.free_ok X G (c.fact 34 (f := .free "dict") rfl)), (He.free_ok X G (c.fact 35 (f := .free "int") rfl)), (He.free_ok X G (c.fact 36 (f := .free "isinstance") rfl)), (He.free_ok X G (c.fact 37 (f := .free "len") rfl)), (He.free_ok X G (c.fact 38 (f := .free "list") rfl)), (He.free_ok X G (c.fact 39 (f := .free "max") rfl)), (He.free_ok X G (c.fact 40 (f := .free "min") rfl)), (He.free_ok X G (c.fact 41 (f := .free "ord") rfl)), (He.free_ok X G (c.fact 42 (f := .free "range") rfl)), (He.free_ok X G (c.fact 43 (f := .free "str") rfl)), (He.free_ok X G (c.fact 44 (f := .free "sum") rfl)), (He.free_ok X G (c.fact 45 (f := .free "tuple") rfl)), (He.int_ok X G (c.fact 46 (f := .int "BARRED_SIGN" 37) rfl)), (He.int_ok X G (c.fact 47 (f := .int "MOST_ROWS" 40) rfl)), (He.int_ok X G (c.fact 48 (f := .int "MOST_SIGNS" 40) rfl))⟩ : Tx K mg)⟩
end K38
open PySem PySem.W PySem.Calls PyProof.Rows
set_option maxRecDepth 100000 in
set_option maxHeartbeats 0 in
theorem PySem.Challenge.cw_fewasks_k38_whole_joined_holds : PySem.Challenge.rw_fewasks_k38_whole_joined.Holds := by
  w_on; o_law
  refine HandSHeadRun.head_any (r := OpenLaw.row PySem.Challenge.rw_fewasks_k38_whole_joined) (q := view (OpenLaw.row PySem.Challenge.rw_fewasks_k38_whole_joined).prog [40]) (H := K38.hk) (ob := K38.ob) (M := 4000) (loose := K38.loose) (d := HandSHeadRun.topDef (OpenLaw.row PySem.Challenge.rw_fewasks_k38_whole_joined).prog 40) (kwd := []) K38.ob_eq
    (by kernel_rfl) (fun s => by kernel_rfl) K38.run (by kernel_rfl) (by kernel_rfl) (by kernel_rfl) (by rfl) (by first | assumption | decide +kernel) (by decide +kernel) ⟨rfl, rfl, rfl, rfl, rfl, by decide +kernel⟩ ?hw ?hc
  case hw => w_witness2
  case hc =>
    refine L2.walk_ofE (l := PySem.Challenge.rw_fewasks_k38_whole_joined) (n := 63) (k := 10) (x := "_law_script_here") (CX := L2.CX0) rfl (by decide) (by kernel_rfl) ⟨rfl, by decide, by decide⟩ ?F (fun _ _ _ _ z => z)
    intro w mg fa h Y G hmg0
    obtain ⟨K, KX, c⟩ := Y
    have hmg : mg ("law" : PySem.Str) = some (.ref fa) := by
      have e : (HandSHeadRun.topDef (OpenLaw.row PySem.Challenge.rw_fewasks_k38_whole_joined).prog 40).name = ("law" : PySem.Str) := by kernel_rfl
      rw [← e]
      exact hmg0
    obtain ⟨fd, hb, hF⟩ := K38.facts (P := (PySem.Challenge.rw_fewasks_k38_whole_joined).prog) (w := w) KX G hmg c
    exact ⟨K, fd, Fw.sp_law K, KX, hb, fun H a ns hl _ hS => ⟨a, ns, rfl, hS, hl, fun _ => rfl⟩, hF⟩
