import PyProof.Rows.All
import Wide.All
import OpenK.AllK
import Wide.FinOn
import KE.KStateDown
import HandS.ForMost
import HandS.IsInst
import HandS.Conv
import HandS.Wide
import HandS.WideBits
import HandS.SortInts
import HandS.DictComp
import HandS.Zip
import HandS.Rev
import HandS.Flow
import HandS.Steps
import HandS.Defaults
import HandS.Head0
import HandS.Head1
import HandS.Head2
import HandS.HeadEnd
import HandS.HeadHook1
import HandS.HeadHook2
import HandS.Walk
import KE.GoesMore
import KE.DatumOrd
import HandS.Text
import HandS.TupAny
import HandS.Style
import HandS.DictEq
import HandS.ListEq
import HandS.TupMul
import HandS.ExcOwn
import HandS.WordsExc
import HandS.CallSlots
import HandS.MakeKwOnly
import HandS.Exc
import PySem.Challenge.RW_fewasks_k39_papers_looked_at
set_option Elab.async false
set_option linter.all false
set_option maxRecDepth 100000
set_option maxHeartbeats 4000000
namespace Fw
open PySem L2 RZ RT
/-! ### readings by name -/
abbrev rAddI : R2 := rI0 fun i j => .int (i + j)
abbrev rSubI : R2 := rI0 fun i j => .int (i - j)
abbrev rMulI : R2 := rI CMul fun i j => .int (i * j)
abbrev rDivI : R2 := rI CDivW fun i j => .int (i / j)
abbrev rModI : R2 := rI (fun _ j => 0 < j) fun i j => .int (i % j)
abbrev rPowI : R2 := rI CPow fun i j => .int (i ^ j.toNat)
abbrev rLtI : R2 := rI0 fun i j => .bl (decide (i < j))
abbrev rLeI : R2 := rI0 fun i j => .bl (decide (i ≤ j))
abbrev rGtI : R2 := rI0 fun i j => .bl (decide (j < i))
abbrev rGeI : R2 := rI0 fun i j => .bl (decide (j ≤ i))
abbrev rNegI : V → Hp → VK → Prop := rU fun i => .int (-i)
abbrev fIsN : R2 := fun x y H Q => y = .non ∧ Q (.bl (decide (x = .non))) H
abbrev fNotN : R2 := fun x y H Q => y = .non ∧ Q (.bl (!decide (x = .non))) H
def fLen (K : PySem.W.Frag) : List V → Hp → VK → Prop := fun xs H Q => ∃ x n, xs = [x] ∧ LenV K x H n ∧ Q (.int n) H
def fListOf (K : PySem.W.Frag) : List V → Hp → VK → Prop := fun xs H Q => ∃ p ys, xs = [.ref p] ∧ (SqL K H p ys ∨ SqT K H p ys) ∧ ∀ l, H l = none → Q (.ref l) (upd H l (.lst ys))
def fTupleOf (K : PySem.W.Frag) : List V → Hp → VK → Prop := fun xs H Q => ∃ p ys, xs = [.ref p] ∧ ((SqL K H p ys ∧ ∀ l, H l = none → Q (.ref l) (upd H l (.tup ys))) ∨ (SqT K H p ys ∧ Q (.ref p) H))
def fMin2 : List V → Hp → VK → Prop := fun xs H Q => ∃ i j, xs = [.int i, .int j] ∧ Q (.int (if j < i then j else i)) H
def fMax2 : List V → Hp → VK → Prop := fun xs H Q => ∃ i j, xs = [.int i, .int j] ∧ Q (.int (if j > i then j else i)) H
/-! ### steps -/
section
variable {K : PySem.W.Frag} {H : Hp} {p : Addr} {xs : List V} {i : Int} {v : V} {Q : VK}
theorem ixL (h : H p = some (.lst xs)) (ha : atI xs i = some v) (q : Q v H) : rIx K (.ref p) (.int i) H Q := .inl ⟨p, xs, i, v, rfl, rfl, .inl (.inl h), ha, q⟩
theorem ixT (h : H p = some (.tup xs)) (ha : atI xs i = some v) (q : Q v H) : rIx K (.ref p) (.int i) H Q := .inr (.inl ⟨p, xs, i, v, rfl, rfl, .inl (.inl h), ha, q⟩)
theorem lenL {σ : L2.St} (h : H p = some (.lst xs)) (q : Q (.int xs.length) H) : tNil σ H fun ys H2 => fLen K (.ref p :: ys) H2 Q := ⟨_, _, rfl, .inl ⟨xs, .inl (.inl h), rfl⟩, q⟩
theorem lenT {σ : L2.St} (h : H p = some (.tup xs)) (q : Q (.int xs.length) H) : tNil σ H fun ys H2 => fLen K (.ref p :: ys) H2 Q := ⟨_, _, rfl, .inr ⟨xs, .inl (.inl h), rfl⟩, q⟩
theorem sqL (h : H p = some (.lst xs)) : SqL K H p xs := .inl (.inl h)
theorem sqT (h : H p = some (.tup xs)) : SqT K H p xs := .inl (.inl h)
end
theorem updS {H : Hp} {a : Addr} {o : HO} : upd H a o a = some o := upd_same
theorem updN {H : Hp} {a b : Addr} {o : HO} {r : Option HO} (n : b ≠ a) (h : H b = r) : upd H a o b = r := by rw [upd_ne n]; exact h
theorem small100 {m : Int} (h : m.natAbs ≤ 1000000000000000000) : m.natAbs < 2 ^ 100 := Nat.lt_of_le_of_lt h (by decide)
/-- the number in a slot, as a measure -/
def slotN (k : Nat) (σ : L2.St) : Nat := match σ[k]? with
  | some (some (V.int n)) => n.toNat
  | _ => 0
theorem getLastD_of {l : List V} (h : l ≠ []) : l.getLastD .non = l.getLast h := by
  rw [List.getLastD_eq_getLast?, List.getLast?_eq_getLast h]
  rfl
theorem pow18 : (10 : Int) ^ (18 : Int).toNat = 1000000000000000000 := by decide
/-! ### the deck of a law -/
/-- the deck at D: the cells at c, the turn at most t -/
def Dk (c D : Addr) (ns : List Int) (t : Nat) (H : Hp) : Prop := c ≠ D ∧ H c = some (.lst (ns.map V.int)) ∧ ns.length ≤ 63 ∧
  ∃ i n u : Int, H D = some (.lst [.ref c, .int i, .int n, .int u]) ∧ 0 ≤ i ∧ i ≤ ns.length ∧ 0 ≤ n ∧ 0 ≤ u ∧ u ≤ t
def sp_l_deck (K : PySem.W.Frag) : Sp := fun vs H Q _ => ∃ (a : Addr) (ns : List Int), vs = [.ref a] ∧ SqL K H a (ns.map V.int) ∧ ns.length ≤ 63 ∧
  ∀ c D H', Same H H' → H c = none → H D = none → Dk c D ns 0 H' → Q (.ref D) H'
def sp_l_mixed (_ : PySem.W.Frag) : Sp := fun vs H Q _ => ∃ (c t : Int), vs = [.int c, .int t] ∧ 0 ≤ t ∧ t ≤ 1000000000 ∧ ∀ v : Int, Q (.int v) H
def sp_l_draw (_ : PySem.W.Frag) : Sp := fun vs H Q _ => ∃ (c D : Addr) (ns : List Int) (t : Nat) (m : Int), vs = [.ref D, .int m] ∧ Dk c D ns t H ∧ t < 1000000000 ∧ 0 < m ∧ m.natAbs < 2 ^ 100 ∧
  ∀ (v : Int) (H' : Hp), 0 ≤ v → v < m → Dk c D ns (t + 1) H' → (∀ b, b ≠ D → H' b = H b) → Q (.int v) H'
def sp_l_int (_ : PySem.W.Frag) : Sp := fun vs H Q _ => ∃ i : Int, vs = [.int i] ∧ Q (.bl true) H
abbrev N_l_deck : List Str := ["_law_script"]
def t_l_deck (K : PySem.W.Frag) : TS := (tRet (tLst (tCons (tCB (fListOf K) (tCons (tVar 0) tNil)) (tCons (tC (.int 0)) (tCons (tC (.int 0)) (tCons (tC (.int 0)) tNil))))))
abbrev N_l_mixed : List Str := ["_law_cell", "_law_turn"]
def t_l_mixed (K : PySem.W.Frag) : TS := (tRet (tOp rModI (tOp rPowI (tOp rAddI (tOp rAddI (tOp rModI (tVar 0) (tC (.int 2147483629))) (tOp rMulI (tVar 1) (tC (.int 1000003)))) (tC (.int 17))) (tC (.int 5))) (tC (.int 2147483647))))
abbrev N_l_draw : List Str := ["_law_deck_here", "_law_many", "_law_cells", "_law_found", "_law_number"]
def t_l_draw_in (K : PySem.W.Frag) : TS := (tSeq (tIfS (tTest (tOp rLtI (tOp (rIx K) (tVar 2) (tOp rSubI (tOp (rIx K) (tVar 0) (tC (.int 1))) (tC (.int 1)))) (tOp rPowI (tC (.int 10)) (tC (.int 18))))) (tRet (tOp rModI (tCall (sp_l_mixed K) [] E0 (tCons (tOp (rIx K) (tVar 2) (tOp rSubI (tOp (rIx K) (tVar 0) (tC (.int 1))) (tC (.int 1)))) (tCons (tOp (rIx K) (tVar 0) (tC (.int 3))) tNil))) (tVar 1))) tNext)
    (tAsg (tOp (rIx K) (tVar 2) (tOp rSubI (tOp (rIx K) (tVar 0) (tC (.int 1))) (tC (.int 1)))) (gSub (tVar 0) (tC (.int 2)) rSetL)))
def t_l_draw_last (K : PySem.W.Frag) : TS := (tRet (tOp rModI (tCall (sp_l_mixed K) [] E0 (tCons (tVar 4) (tCons (tOp (rIx K) (tVar 0) (tC (.int 3))) tNil))) (tVar 1)))
def t_l_draw_rest (K : PySem.W.Frag) : TS := (tSeq (tIfS (tTest (tOp rGtI (tOp (rIx K) (tVar 0) (tC (.int 2))) (tC (.int 0)))) (tSeq (tAsg (tOp rModI (tOp (rIx K) (tVar 0) (tC (.int 2))) (tVar 1)) (gName 3))
    (tSeq (tAsg (tOp rDivI (tOp (rIx K) (tVar 0) (tC (.int 2))) (tVar 1)) (gSub (tVar 0) (tC (.int 2)) rSetL))
    (tRet (tVar 3)))) tNext)
    (tSeq (tAsg (tOp rMulI (tOp (rIx K) (tVar 0) (tC (.int 3))) (tC (.int 48271))) (gName 4))
    (tSeq (tIfS (tTest (tOp rGtI (tCB (fLen K) (tCons (tVar 2) tNil)) (tC (.int 0)))) (tAsg (tOp rAddI (tVar 4) (tOp rModI (tOp (rIx K) (tVar 2) (tOp rModI (tOp rMulI (tOp (rIx K) (tVar 0) (tC (.int 3))) (tC (.int 7))) (tCB (fLen K) (tCons (tVar 2) tNil)))) (tC (.int 2147483629)))) (gName 4)) tNext)
    (t_l_draw_last K))))
def t_l_draw_mid (K : PySem.W.Frag) : TS := (tSeq (tIfS (tAnd (tTest (tOp rEq (tOp (rIx K) (tVar 0) (tC (.int 2))) (tC (.int 0)))) (tTest (tOp rLtI (tOp (rIx K) (tVar 0) (tC (.int 1))) (tCB (fLen K) (tCons (tVar 2) tNil))))) (tSeq (tAsg (tOp rAddI (tOp (rIx K) (tVar 0) (tC (.int 1))) (tC (.int 1))) (gSub (tVar 0) (tC (.int 1)) rSetL))
    (t_l_draw_in K)) tNext)
    (t_l_draw_rest K))
def t_l_draw (K : PySem.W.Frag) : TS := (tSeq (tAsg (tOp (rIx K) (tVar 0) (tC (.int 0))) (gName 2))
    (tSeq (tAsg (tOp rAddI (tOp (rIx K) (tVar 0) (tC (.int 3))) (tC (.int 1))) (gSub (tVar 0) (tC (.int 3)) rSetL))
    (t_l_draw_mid K)))
abbrev N_l_int : List Str := ["_law_thing"]
def t_l_int (K : PySem.W.Frag) : TS := (tRet (tAndV (tCB (rIsi K) (tCons (tVar 0) (tCons (tC (.ty "int")) tNil))) (tNotV (tCB (rIsi K) (tCons (tVar 0) (tCons (tC (.ty "bool")) tNil))))))
theorem pure_l_deck {K : PySem.W.Frag} {vs : List V} {H : Hp} {Q : VK} {E : XK} (h : sp_l_deck K vs H Q E) : t_l_deck K { nx := fun _ H' => Q .non H', rt := Q } (start N_l_deck vs) H := by
  obtain ⟨a, ns, rfl, hS, hl, k⟩ := h
  refine ⟨_, rfl, a, _, rfl, .inl hS, fun c nc => ⟨by show (4 : Nat) ≤ sizeLine; decide, fun D nD => ?_⟩⟩
  have ncD : c ≠ D := fun e => by rw [← e, updS] at nD; cases nD
  have nD0 : H D = none := by rw [upd_ne ncD.symm] at nD; exact nD
  refine k c D _ (fun b o e => updN (ne_of_none e nD0) (updN (ne_of_none e nc) e)) nc nD0 ⟨ncD, updN ncD updS, hl, 0, 0, 0, updS, Int.le_refl _, by omega, Int.le_refl _, Int.le_refl _, Int.le_refl _⟩
theorem pure_l_mixed {K : PySem.W.Frag} {vs : List V} {H : Hp} {Q : VK} {E : XK} (h : sp_l_mixed K vs H Q E) : t_l_mixed K { nx := fun _ H' => Q .non H', rt := Q } (start N_l_mixed vs) H := by
  obtain ⟨c, t, rfl, h0, h1, k⟩ := h
  refine ⟨_, rfl, _, _, rfl, rfl, (by show (0 : Int) < 2147483629; decide), _, rfl, _, _, rfl, rfl, .inr ⟨by decide, by decide⟩, _, _, rfl, rfl, _, _, rfl, rfl, _, _, rfl, rfl, ⟨by decide, by decide, ?_⟩, _, _, rfl, rfl, (by show (0 : Int) < 2147483647; decide), k _⟩
  have := Int.emod_nonneg c (show (2147483629 : Int) ≠ 0 by decide)
  have := Int.emod_lt_of_pos c (show (0 : Int) < 2147483629 by decide)
  omega
theorem pure_l_int {K : PySem.W.Frag} {vs : List V} {H : Hp} {Q : VK} {E : XK} (h : sp_l_int K vs H Q E) : t_l_int K { nx := fun _ H' => Q .non H', rt := Q } (start N_l_int vs) H := by
  obtain ⟨i, rfl, k⟩ := h
  refine ⟨_, rfl, _, _, _, _, true, rfl, .ty _, .base (.int i), kit_ty (by decide +kernel), _, rfl, iteT ?_⟩
  refine ⟨_, rfl, _, _, _, _, false, rfl, .ty _, .base (.int i), kit_ty (by decide +kernel), _, rfl, k⟩
theorem pure_l_draw {K : PySem.W.Frag} {vs : List V} {H : Hp} {Q : VK} {E : XK} (h : sp_l_draw K vs H Q E) : t_l_draw K { nx := fun _ H' => Q .non H', rt := Q } (start N_l_draw vs) H := by
  obtain ⟨c, D, ns, t, m, rfl, ⟨ncD, hc, hl, i, n, u, hD, i0, i1, n0, u0, u1⟩, ht, m0, m1, k⟩ := h
  have cells : ∀ {j : Int}, 0 ≤ j → j < ns.length → ∃ z : Int, atI (ns.map V.int) j = some (.int z) := fun {j} h0 h1 => by
    obtain ⟨q, rfl⟩ := Int.eq_ofNat_of_zero_le h0
    have hq : q < ns.length := by omega
    exact ⟨ns[q], atI_nat (by rw [List.getElem?_map, List.getElem?_eq_getElem hq]; rfl)⟩
  -- the rest, from any i and n
  have rest : ∀ (i n : Int) (H2 : Hp) (z3 z4 : Option V), 0 ≤ i → i ≤ ns.length → 0 ≤ n → H2 D = some (.lst [.ref c, .int i, .int n, .int (u + 1)]) → H2 c = some (.lst (ns.map V.int)) → (∀ b, b ≠ D → H2 b = H b) →
      t_l_draw_rest K { nx := fun _ H' => Q .non H', rt := Q } [some (.ref D), some (.int m), some (.ref c), z3, z4] H2 := by
    intro i n H2 z3 z4 i0 i1 n0 hD2 hc2 fr2
    have mod0 : ∀ x : Int, 0 ≤ x % m := fun x => Int.emod_nonneg x (by omega)
    have mod1 : ∀ x : Int, x % m < m := fun x => Int.emod_lt_of_pos x m0
    refine ⟨_, rfl, ixL hD2 rfl ⟨_, _, rfl, rfl, _, rfl, ite2 (fun e => ?_) (fun e => ?_)⟩⟩
    · have hn : 0 < n := of_decide_eq_true e
      refine ⟨_, rfl, ixL hD2 rfl ⟨_, rfl, _, _, rfl, rfl, m0, ?_⟩⟩
      refine ⟨_, rfl, ixL hD2 rfl ⟨_, rfl, _, _, rfl, rfl, wide_div m0 m1 (by decide) (by decide), _, rfl, D, _, _, 2, rfl, rfl, hD2, rfl, ?_⟩⟩
      refine ⟨_, rfl, k _ _ (mod0 n) (mod1 n) ⟨ncD, updN ncD hc2, hl, i, n / m, u + 1, updS, i0, i1, Int.ediv_nonneg n0 (by omega), by omega, by omega⟩ fun b nb => (upd_ne nb).trans (fr2 b nb)⟩
    · refine ⟨_, rfl, ixL hD2 rfl ⟨_, _, rfl, rfl, .inr ⟨by decide, by decide⟩, ?_⟩⟩
      have last : ∀ (y : Int), t_l_draw_last K { nx := fun _ H' => Q .non H', rt := Q } [some (.ref D), some (.int m), some (.ref c), z3, some (.int y)] H2 := fun y => by
        refine ⟨_, rfl, _, rfl, ixL hD2 rfl ⟨y, u + 1, rfl, by omega, by omega, fun v => ?_⟩⟩
        refine ⟨_, rfl, _, _, rfl, rfl, m0, k _ _ (mod0 v) (mod1 v) ⟨ncD, hc2, hl, i, n, u + 1, hD2, i0, i1, n0, by omega, by omega⟩ fr2⟩
      refine ⟨_, rfl, lenL hc2 ⟨_, _, rfl, rfl, _, rfl, ite2 (fun e => ?_) (fun e => ?_)⟩⟩
      · have hn : 0 < ns.length := by
          have q : (0 : Int) < (ns.map V.int).length := of_decide_eq_true e
          rw [List.length_map] at q
          omega
        have hlen : ((ns.map V.int).length : Int) = ns.length := by rw [List.length_map]
        obtain ⟨z, hz⟩ := cells (j := (u + 1) * 7 % ((ns.map V.int).length : Int)) (Int.emod_nonneg _ (by omega)) (by rw [hlen]; exact Int.emod_lt_of_pos _ (by omega))
        refine ⟨_, rfl, _, rfl, _, rfl, ixL hD2 rfl ⟨_, _, rfl, rfl, .inr ⟨by decide, by decide⟩, _, rfl, lenL hc2 ⟨_, _, rfl, rfl, (by show (0 : Int) < ((ns.map V.int).length : Int); omega), ixL hc2 hz ⟨_, _, rfl, rfl, (by show (0 : Int) < 2147483629; decide), _, _, rfl, rfl, ?_⟩⟩⟩⟩
        exact last _
      · exact last _
  have mid : ∀ (H1 : Hp) (z3 z4 : Option V), H1 D = some (.lst [.ref c, .int i, .int n, .int (u + 1)]) → H1 c = some (.lst (ns.map V.int)) → (∀ b, b ≠ D → H1 b = H b) →
      t_l_draw_mid K { nx := fun _ H' => Q .non H', rt := Q } [some (.ref D), some (.int m), some (.ref c), z3, z4] H1 := by
    intro H1 z3 z4 hD1 hc1 fr1
    refine ⟨_, rfl, ixL hD1 rfl ⟨rfl, _, rfl, ?_⟩⟩
    refine ite2 (fun e => ?_) (fun e => iteF (rest i n H1 _ _ i0 i1 n0 hD1 hc1 fr1))
    refine ⟨_, rfl, ixL hD1 rfl ⟨_, rfl, lenL hc1 ⟨_, _, rfl, rfl, _, rfl, ite2 (fun e2 => ?_) (fun e2 => rest i n H1 _ _ i0 i1 n0 hD1 hc1 fr1)⟩⟩⟩
    have hi : i < ns.length := by
      have q : i < ((ns.map V.int).length : Int) := of_decide_eq_true e2
      rw [List.length_map] at q
      exact q
    obtain ⟨z, hz⟩ := cells i0 hi
    have ei : i + 1 - 1 = i := by omega
    have inn : ∀ (H2 : Hp), H2 D = some (.lst [.ref c, .int (i + 1), .int n, .int (u + 1)]) → H2 c = some (.lst (ns.map V.int)) → (∀ b, b ≠ D → H2 b = H b) →
        t_l_draw_in K { nx := t_l_draw_rest K { nx := fun _ H' => Q .non H', rt := Q }, rt := Q } [some (.ref D), some (.int m), some (.ref c), z3, z4] H2 := by
      intro H2 hD2 hc2 fr2
      refine ⟨_, rfl, _, rfl, ixL hD2 rfl ⟨_, _, rfl, rfl, ixL hc2 (by rw [ei]; exact hz) ⟨_, _, rfl, rfl, ⟨by decide, by decide, by decide⟩, _, _, rfl, rfl, _, rfl, ite2 (fun e3 => ?_) (fun e3 => ?_)⟩⟩⟩
      · refine ⟨_, rfl, _, rfl, ixL hD2 rfl ⟨_, _, rfl, rfl, ixL hc2 (by rw [ei]; exact hz) ⟨_, rfl, ixL hD2 rfl ⟨z, u + 1, rfl, by omega, by omega, fun v => ?_⟩⟩⟩⟩
        refine ⟨_, rfl, _, _, rfl, rfl, m0, k _ _ (Int.emod_nonneg v (by omega)) (Int.emod_lt_of_pos v m0) ⟨ncD, hc2, hl, i + 1, n, u + 1, hD2, by omega, by omega, n0, by omega, by omega⟩ fr2⟩
      · have hz0 : ¬ z < 1000000000000000000 := fun q => e3 (decide_eq_true (by rw [pow18]; exact q))
        refine ⟨_, rfl, _, rfl, ixL hD2 rfl ⟨_, _, rfl, rfl, ixL hc2 (by rw [ei]; exact hz) ⟨_, rfl, D, _, _, 2, rfl, rfl, hD2, rfl, ?_⟩⟩⟩
        exact rest (i + 1) z _ _ _ (by omega) (by omega) (by omega) updS (updN ncD hc2) fun b nb => updN nb (fr2 b nb)
    refine ⟨_, rfl, ixL hD1 rfl ⟨_, _, rfl, rfl, _, rfl, D, _, _, 1, rfl, rfl, hD1, rfl, ?_⟩⟩
    exact inn _ updS (updN ncD hc1) fun b nb => updN nb (fr1 b nb)
  -- cells = deck[0]; deck[3] = deck[3] + 1
  refine ⟨_, rfl, ixL hD rfl ?_⟩
  refine ⟨_, rfl, ixL hD rfl ⟨_, _, rfl, rfl, _, rfl, D, _, _, 3, rfl, rfl, hD, rfl, ?_⟩⟩
  exact mid _ _ _ updS (updN ncD hc) fun b nb => upd_ne nb
/-! ### the same data, kind for kind -/
/-- two values of the same data, at most n deep -/
def SameV (H : Hp) : Nat → V → V → Prop
  | 0, _, _ => False
  | n + 1, x, y => (x = y ∧ (x = .non ∨ (∃ i, x = .int i) ∨ (∃ b, x = .bl b) ∨ ∃ z, x = .str z)) ∨
    ∃ p q xs ys, x = .ref p ∧ y = .ref q ∧ ((H p = some (.lst xs) ∧ H q = some (.lst ys)) ∨ (H p = some (.tup xs) ∧ H q = some (.tup ys))) ∧ xs.length = ys.length ∧ xs.length ≤ 100000 ∧
      ∀ (i : Nat) (a b : V), xs[i]? = some a → ys[i]? = some b → SameV H n a b
theorem SameV.int {H : Hp} {n : Nat} {i j : Int} (e : i = j) : SameV H (n + 1) (.int i) (.int j) := Or.inl ⟨by rw [e], .inr (.inl ⟨i, rfl⟩)⟩
theorem SameV.bl {H : Hp} {n : Nat} {i j : Bool} (e : i = j) : SameV H (n + 1) (.bl i) (.bl j) := Or.inl ⟨by rw [e], .inr (.inr (.inl ⟨i, rfl⟩))⟩
theorem SameV.tup {H : Hp} {n : Nat} {p q : Addr} {xs ys : List V} (h1 : H p = some (.tup xs)) (h2 : H q = some (.tup ys)) (hl : xs.length = ys.length) (hz : xs.length ≤ 100000) (h : ∀ (i : Nat) (a b : V), xs[i]? = some a → ys[i]? = some b → SameV H n a b) : SameV H (n + 1) (.ref p) (.ref q) :=
  Or.inr ⟨p, q, xs, ys, rfl, rfl, .inr ⟨h1, h2⟩, hl, hz, h⟩
theorem SameV.lst {H : Hp} {n : Nat} {p q : Addr} {xs ys : List V} (h1 : H p = some (.lst xs)) (h2 : H q = some (.lst ys)) (hl : xs.length = ys.length) (hz : xs.length ≤ 100000) (h : ∀ (i : Nat) (a b : V), xs[i]? = some a → ys[i]? = some b → SameV H n a b) : SameV H (n + 1) (.ref p) (.ref q) :=
  Or.inr ⟨p, q, xs, ys, rfl, rfl, .inl ⟨h1, h2⟩, hl, hz, h⟩
theorem SameV.ints {H : Hp} {n : Nat} {ns : List Int} : ∀ (i : Nat) (a b : V), (ns.map V.int)[i]? = some a → (ns.map V.int)[i]? = some b → SameV H (n + 1) a b := fun i a b h1 h2 => by
  have e : a = b := Option.some.inj (h1.symm.trans h2)
  rw [List.getElem?_map] at h1
  cases q : ns[i]? with
  | none => rw [q] at h1; cases h1
  | some z => rw [q] at h1; exact Or.inl ⟨e, .inr (.inl ⟨z, (Option.some.inj h1).symm⟩)⟩
def sp_sameN (_ : PySem.W.Frag) (n : Nat) : Sp := fun vs H Q _ => ∃ x y, vs = [x, y] ∧ SameV H n x y ∧ Q (.bl true) H
abbrev sp_l_same (K : PySem.W.Frag) : Sp := sp_sameN K 6
abbrev N_l_same : List Str := ["_law_found", "_law_due", "_law_k"]
def t_l_same_loop (K : PySem.W.Frag) (n : Nat) : TS := (tSeq (tIfS (tTest (tOp rNe (tCB (fLen K) (tCons (tVar 0) tNil)) (tCB (fLen K) (tCons (tVar 1) tNil)))) (tRet (tC (.bl false))) tNext)
    (tSeq (tFor (iRng1 (tCons (tCB (fLen K) (tCons (tVar 1) tNil)) tNil)) (gName 2) (tIfS (tNot (tB (tCall (sp_sameN K n) [] E0 (tCons (tOp (rIx K) (tVar 0) (tVar 2)) (tCons (tOp (rIx K) (tVar 1) (tVar 2)) tNil))))) (tRet (tC (.bl false))) tNext))
    (tRet (tC (.bl true)))))
def t_l_same_tail (K : PySem.W.Frag) (n : Nat) : TS := (tSeq (tIfS (tB (tCB (rIsi K) (tCons (tVar 1) (tCons (tC (.ty "bool")) tNil)))) (tRet (tAndV (tCB (rIsi K) (tCons (tVar 0) (tCons (tC (.ty "bool")) tNil))) (tOp rEq (tVar 0) (tVar 1)))) tNext)
    (tSeq (tIfS (tB (tCB (rIsi K) (tCons (tVar 1) (tCons (tC (.ty "int")) tNil)))) (tRet (tAndV (tCall (sp_l_int K) [] E0 (tCons (tVar 0) tNil)) (tOp rEq (tVar 0) (tVar 1)))) tNext)
    (tSeq (tIfS (tB (tCB (rIsi K) (tCons (tVar 1) (tCons (tC (.ty "str")) tNil)))) (tRet (tAndV (tCB (rIsi K) (tCons (tVar 0) (tCons (tC (.ty "str")) tNil))) (tOp rEq (tVar 0) (tVar 1)))) tNext)
    (tRet (tAndV (tOp fIsN (tVar 1) (tC .non)) (tOp fIsN (tVar 0) (tC .non)))))))
def t_l_same (K : PySem.W.Frag) (n : Nat) : TS := (tSeq (tIfS (tOr (tB (tCB (rIsi K) (tCons (tVar 1) (tCons (tC (.ty "tuple")) tNil)))) (tB (tCB (rIsi K) (tCons (tVar 1) (tCons (tC (.ty "list")) tNil))))) (tSeq (tIfS (tOr (tTest (tOp rNe (tCB (rIsi K) (tCons (tVar 1) (tCons (tC (.ty "tuple")) tNil))) (tCB (rIsi K) (tCons (tVar 0) (tCons (tC (.ty "tuple")) tNil))))) (tTest (tOp rNe (tCB (rIsi K) (tCons (tVar 1) (tCons (tC (.ty "list")) tNil))) (tCB (rIsi K) (tCons (tVar 0) (tCons (tC (.ty "list")) tNil)))))) (tRet (tC (.bl false))) tNext)
    (t_l_same_loop K n)) tNext)
    (t_l_same_tail K n))
section
variable {K : PySem.W.Frag} {H : Hp} {x : V} {Q : VK} {σ : L2.St} {c t : String} {b : Bool}
theorem isi (ty : TyX K H x (.type t)) (k : kitB t c = some b) (q : Q (.bl b) H) : tCons (tC (.ty c)) tNil σ H fun ys H2 => rIsi K (x :: ys) H2 Q := ⟨_, _, _, _, b, rfl, .ty _, ty, kit_ty k, q⟩
end
theorem k_it : kitB "int" "tuple" = some false := by decide +kernel
theorem k_il : kitB "int" "list" = some false := by decide +kernel
theorem k_ib : kitB "int" "bool" = some false := by decide +kernel
theorem k_ii : kitB "int" "int" = some true := by decide +kernel
theorem k_bt : kitB "bool" "tuple" = some false := by decide +kernel
theorem k_bl : kitB "bool" "list" = some false := by decide +kernel
theorem k_bb : kitB "bool" "bool" = some true := by decide +kernel
theorem k_bi : kitB "bool" "int" = some true := by decide +kernel
theorem k_st : kitB "str" "tuple" = some false := by decide +kernel
theorem k_sl : kitB "str" "list" = some false := by decide +kernel
theorem k_sb : kitB "str" "bool" = some false := by decide +kernel
theorem k_si : kitB "str" "int" = some false := by decide +kernel
theorem k_ss : kitB "str" "str" = some true := by decide +kernel
theorem k_nt : kitB "NoneType" "tuple" = some false := by decide +kernel
theorem k_nl : kitB "NoneType" "list" = some false := by decide +kernel
theorem k_nb : kitB "NoneType" "bool" = some false := by decide +kernel
theorem k_ni : kitB "NoneType" "int" = some false := by decide +kernel
theorem k_ns : kitB "NoneType" "str" = some false := by decide +kernel
theorem k_tt : kitB "tuple" "tuple" = some true := by decide +kernel
theorem k_tl : kitB "tuple" "list" = some false := by decide +kernel
theorem k_ti : kitB "tuple" "int" = some false := by decide +kernel
theorem k_tb : kitB "tuple" "bool" = some false := by decide +kernel
theorem k_lt : kitB "list" "tuple" = some false := by decide +kernel
theorem k_ll : kitB "list" "list" = some true := by decide +kernel
theorem k_li : kitB "list" "int" = some false := by decide +kernel
theorem k_lb : kitB "list" "bool" = some false := by decide +kernel
theorem len_le {n : Nat} (h : n ≤ 100000) : -(2 ^ 62 : Int) ≤ (n : Int) ∧ (n : Int) < 2 ^ 62 := by
  have e : (2 : Int) ^ 62 = 4611686018427387904 := by decide
  rw [e]
  omega
theorem pure_l_same {K : PySem.W.Frag} {n : Nat} {vs : List V} {H : Hp} {Q : VK} {E : XK} (h : sp_sameN K (n + 1) vs H Q E) : t_l_same K n { nx := fun _ H' => Q .non H', rt := Q } (start N_l_same vs) H := by
  obtain ⟨x, y, rfl, h, k⟩ := h
  rcases h with ⟨rfl, h⟩ | ⟨p, q, xs, ys, rfl, rfl, h, hl, hz, hs⟩
  · rcases h with rfl | ⟨i, rfl⟩ | ⟨b, rfl⟩ | ⟨z, rfl⟩
    · refine ⟨_, rfl, isi (.base .non) k_nt ⟨_, rfl, iteF ⟨_, rfl, isi (.base .non) k_nl ⟨_, rfl, iteF ?_⟩⟩⟩⟩
      refine ⟨_, rfl, isi (.base .non) k_nb ⟨_, rfl, iteF ?_⟩⟩
      refine ⟨_, rfl, isi (.base .non) k_ni ⟨_, rfl, iteF ?_⟩⟩
      refine ⟨_, rfl, isi (.base .non) k_ns ⟨_, rfl, iteF ?_⟩⟩
      exact ⟨_, rfl, rfl, _, rfl, iteT ⟨_, rfl, rfl, k⟩⟩
    · refine ⟨_, rfl, isi (.base (.int i)) k_it ⟨_, rfl, iteF ⟨_, rfl, isi (.base (.int i)) k_il ⟨_, rfl, iteF ?_⟩⟩⟩⟩
      refine ⟨_, rfl, isi (.base (.int i)) k_ib ⟨_, rfl, iteF ?_⟩⟩
      refine ⟨_, rfl, isi (.base (.int i)) k_ii ⟨_, rfl, iteT ?_⟩⟩
      refine ⟨_, rfl, i, rfl, _, rfl, iteT ⟨_, rfl, _, rfl, rfl, ?_⟩⟩
      rw [decide_eq_true rfl]
      exact k
    · refine ⟨_, rfl, isi (.base (.bl b)) k_bt ⟨_, rfl, iteF ⟨_, rfl, isi (.base (.bl b)) k_bl ⟨_, rfl, iteF ?_⟩⟩⟩⟩
      refine ⟨_, rfl, isi (.base (.bl b)) k_bb ⟨_, rfl, iteT ?_⟩⟩
      refine ⟨_, rfl, isi (.base (.bl b)) k_bb ⟨_, rfl, iteT ⟨_, rfl, _, rfl, rfl, ?_⟩⟩⟩
      rw [decide_eq_true rfl]
      exact k
    · refine ⟨_, rfl, isi (.base (.str z)) k_st ⟨_, rfl, iteF ⟨_, rfl, isi (.base (.str z)) k_sl ⟨_, rfl, iteF ?_⟩⟩⟩⟩
      refine ⟨_, rfl, isi (.base (.str z)) k_sb ⟨_, rfl, iteF ?_⟩⟩
      refine ⟨_, rfl, isi (.base (.str z)) k_si ⟨_, rfl, iteF ?_⟩⟩
      refine ⟨_, rfl, isi (.base (.str z)) k_ss ⟨_, rfl, iteT ?_⟩⟩
      refine ⟨_, rfl, isi (.base (.str z)) k_ss ⟨_, rfl, iteT ⟨_, rfl, _, rfl, rfl, ?_⟩⟩⟩
      rw [decide_eq_true rfl]
      exact k
  · -- the loop over both
    have loop : (∃ o, (H p = some o ∧ (o = .lst xs ∨ o = .tup xs))) → (∃ o, (H q = some o ∧ (o = .lst ys ∨ o = .tup ys))) → ∀ z2 : Option V,
        t_l_same_loop K n { nx := t_l_same_tail K n { nx := fun _ H' => Q .non H', rt := Q }, rt := Q } [some (.ref p), some (.ref q), z2] H := by
      intro hp hq z2
      have hlen : ∀ {r : Addr} {zs : List V} {R : VK} {σ : L2.St}, (∃ o, (H r = some o ∧ (o = .lst zs ∨ o = .tup zs))) → R (.int zs.length) H → tNil σ H fun ws H2 => fLen K (.ref r :: ws) H2 R := by
        rintro r zs R σ ⟨o, h1, rfl | rfl⟩ h2
        · exact lenL h1 h2
        · exact lenT h1 h2
      have hix : ∀ {r : Addr} {zs : List V} {R : VK} {i : Int} {v : V}, (∃ o, (H r = some o ∧ (o = .lst zs ∨ o = .tup zs))) → atI zs i = some v → R v H → rIx K (.ref r) (.int i) H R := by
        rintro r zs R i v ⟨o, h1, rfl | rfl⟩ h2 h3
        · exact ixL h1 h2 h3
        · exact ixT h1 h2 h3
      refine ⟨_, rfl, hlen hp ⟨_, rfl, hlen hq ⟨rfl, _, rfl, ?_⟩⟩⟩
      rw [decide_eq_true (show V.int (xs.length : Int) = V.int (ys.length : Int) by rw [hl])]
      refine iteF ?_
      refine ⟨_, rfl, hlen hq ⟨_, rfl, (len_le (by omega)).1, (len_le (by omega)).2, for_range (lo := 0) (n := ((ys.length : Int)).toNat) (fun i σ H' => H' = H ∧ ∃ z, σ = [some (.ref p), some (.ref q), z]) ⟨rfl, _, rfl⟩ ?_ ?_⟩⟩
      · rintro i σ H' hi ⟨rfl, z, rfl⟩
        have hi1 : i < ys.length := by omega
        have hi2 : i < xs.length := by omega
        have e1 : atI xs (0 + (i : Int)) = some xs[i] := by rw [Int.zero_add]; exact atI_nat (List.getElem?_eq_getElem hi2)
        have e2 : atI ys (0 + (i : Int)) = some ys[i] := by rw [Int.zero_add]; exact atI_nat (List.getElem?_eq_getElem hi1)
        refine ⟨_, rfl, _, rfl, hix hp e1 ⟨_, rfl, _, rfl, hix hq e2 ⟨_, _, rfl, hs i _ _ (List.getElem?_eq_getElem hi2) (List.getElem?_eq_getElem hi1), _, rfl, iteF ?_⟩⟩⟩
        exact ⟨rfl, _, rfl⟩
      · rintro σ H' ⟨rfl, z, rfl⟩
        exact k
    rcases h with ⟨h1, h2⟩ | ⟨h1, h2⟩
    · have t1 : TyX K H (.ref p) (.type "list") := .base (.lst h1)
      have t2 : TyX K H (.ref q) (.type "list") := .base (.lst h2)
      refine ⟨_, rfl, isi t2 k_lt ⟨_, rfl, iteF ⟨_, rfl, isi t2 k_ll ⟨_, rfl, iteT ?_⟩⟩⟩⟩
      refine ⟨_, rfl, isi t2 k_lt ⟨_, rfl, isi t1 k_lt ⟨rfl, _, rfl, iteF ⟨_, rfl, isi t2 k_ll ⟨_, rfl, isi t1 k_ll ⟨rfl, _, rfl, iteF ?_⟩⟩⟩⟩⟩⟩
      exact loop ⟨_, h1, .inl rfl⟩ ⟨_, h2, .inl rfl⟩ _
    · have t1 : TyX K H (.ref p) (.type "tuple") := .base (.tup h1)
      have t2 : TyX K H (.ref q) (.type "tuple") := .base (.tup h2)
      refine ⟨_, rfl, isi t2 k_tt ⟨_, rfl, iteT ?_⟩⟩
      refine ⟨_, rfl, isi t2 k_tt ⟨_, rfl, isi t1 k_tt ⟨rfl, _, rfl, iteF ⟨_, rfl, isi t2 k_tl ⟨_, rfl, isi t1 k_tl ⟨rfl, _, rfl, iteF ?_⟩⟩⟩⟩⟩⟩
      exact loop ⟨_, h1, .inr rfl⟩ ⟨_, h2, .inr rfl⟩ _
def sp_law (K : PySem.W.Frag) : Sp := fun vs H Q _ => ∃ (a : Addr) (ns : List Int), vs = [.ref a] ∧ SqL K H a (ns.map V.int) ∧ ns.length ≤ 63 ∧ ∀ H', Q (.bl true) H'
section
variable {K : PySem.W.Frag} {vs : List V} {H : Hp} {Q : VK} {E : XK}
theorem len_law (h : sp_law K vs H Q E) : vs.length = 1 := by
  obtain ⟨_, _, rfl, _⟩ := h
  rfl
theorem len_l_deck (h : sp_l_deck K vs H Q E) : vs.length = 1 := by
  obtain ⟨_, _, rfl, _⟩ := h
  rfl
theorem len_l_mixed (h : sp_l_mixed K vs H Q E) : vs.length = 2 := by
  obtain ⟨_, _, rfl, _⟩ := h
  rfl
theorem len_l_draw (h : sp_l_draw K vs H Q E) : vs.length = 2 := by
  obtain ⟨_, _, _, _, _, rfl, _⟩ := h
  rfl
theorem len_l_int (h : sp_l_int K vs H Q E) : vs.length = 1 := by
  obtain ⟨_, rfl, _⟩ := h
  rfl
theorem len_sameN {n : Nat} (h : sp_sameN K n vs H Q E) : vs.length = 2 := by
  obtain ⟨_, _, rfl, _⟩ := h
  rfl
end
/-! ### comprehensions whose elements change nothing -/
section
variable {K : PySem.W.Frag} {a : Addr} {xs ys : List V} {g : TG} {tt : TT} {te : TE} {vs : List Nat} {σ : L2.St} {H1 : Hp} {D : Addr} {Qd : Hp → Prop}
/-- [e for x in xs], xs a tuple, ys the values in order -/
theorem lc_mapT (hq : ∀ acc, SqT K (upd H1 D (.lst acc)) a xs) (hl : ys.length = xs.length) (hz : xs.length ≤ 100000)
    (hs : ∀ (i : Nat) (x y : V) (acc : List V) (R : VK), xs[i]? = some x → ys[i]? = some y → R y (upd H1 D (.lst acc)) → g x (wipe σ vs) (upd H1 D (.lst acc)) fun σ2 H2 => wipe σ2 vs = wipe σ vs ∧ tt σ2 H2 fun b H3 => if b = true then te σ2 H3 R else False)
    (hd : Qd (upd H1 D (.lst ys))) (mt : ∀ σ H P P', (∀ b H1, P b H1 → P' b H1) → tt σ H P → tt σ H P') (mg : ∀ v σ H P P', (∀ σ1 H1, P σ1 H1 → P' σ1 H1) → g v σ H P → g v σ H P') :
    ∃ W : Nat → Nat → Hp → Prop, (∃ m, W 0 m (upd H1 D (.lst []))) ∧ ∀ i m H, W i m H →
      ((Itt K a).stop i H ∧ Qd H) ∨ ((Itt K a).go i H ∧ ∃ Nx : Hp → Prop, (∀ H', Nx H' → ∃ m', m' < m ∧ W (i + 1) m' H') ∧ ∀ x H', (Itt K a).yld i H x H' → g x (wipe σ vs) H' fun σ2 H2 => wipe σ2 vs = wipe σ vs ∧ tt σ2 H2 fun b H3 =>
        if b = true then te σ2 H3 fun y H4 => ∃ acc, H4 D = some (.lst acc) ∧ acc.length < sizeLine ∧ Nx (upd H4 D (.lst (acc ++ [y]))) else Nx H3) := by
  refine lc_tup (K := K) (a := a) (xs := xs) (fun i H => H = upd H1 D (.lst (ys.take i))) (by rw [List.take_zero]) (fun i H _ e => by rw [e]; exact hq _) (fun i x H hx e => ?_) (fun H e => by
    rw [e, List.take_of_length_le (by omega)]
    exact hd)
  subst e
  have hi : i < ys.length := by
    have := (List.getElem?_eq_some_iff.mp hx).1
    omega
  refine mg _ _ _ _ _ (fun σ1 H2 q => ⟨q.1, mt _ _ _ _ (fun b H3 q2 => ?_) q.2⟩) (hs i x ys[i] (ys.take i) (fun y H4 => ∃ acc, H4 D = some (.lst acc) ∧ acc.length < sizeLine ∧ upd H4 D (.lst (acc ++ [y])) = upd H1 D (.lst (ys.take (i + 1)))) hx (List.getElem?_eq_getElem hi) ⟨ys.take i, upd_same, Nat.lt_of_le_of_lt (by rw [List.length_take]; omega : (ys.take i).length ≤ 100000) (by decide), by rw [upd_upd, List.take_add_one, List.getElem?_eq_getElem hi]; rfl⟩)
  cases b with
  | true => exact q2
  | false => exact q2.elim
theorem lc_mapL (hq : ∀ acc, SqL K (upd H1 D (.lst acc)) a xs) (hl : ys.length = xs.length) (hz : xs.length ≤ 100000)
    (hs : ∀ (i : Nat) (x y : V) (acc : List V) (R : VK), xs[i]? = some x → ys[i]? = some y → R y (upd H1 D (.lst acc)) → g x (wipe σ vs) (upd H1 D (.lst acc)) fun σ2 H2 => wipe σ2 vs = wipe σ vs ∧ tt σ2 H2 fun b H3 => if b = true then te σ2 H3 R else False)
    (hd : Qd (upd H1 D (.lst ys))) (mt : ∀ σ H P P', (∀ b H1, P b H1 → P' b H1) → tt σ H P → tt σ H P') (mg : ∀ v σ H P P', (∀ σ1 H1, P σ1 H1 → P' σ1 H1) → g v σ H P → g v σ H P') :
    ∃ W : Nat → Nat → Hp → Prop, (∃ m, W 0 m (upd H1 D (.lst []))) ∧ ∀ i m H, W i m H →
      ((Itl K a).stop i H ∧ Qd H) ∨ ((Itl K a).go i H ∧ ∃ Nx : Hp → Prop, (∀ H', Nx H' → ∃ m', m' < m ∧ W (i + 1) m' H') ∧ ∀ x H', (Itl K a).yld i H x H' → g x (wipe σ vs) H' fun σ2 H2 => wipe σ2 vs = wipe σ vs ∧ tt σ2 H2 fun b H3 =>
        if b = true then te σ2 H3 fun y H4 => ∃ acc, H4 D = some (.lst acc) ∧ acc.length < sizeLine ∧ Nx (upd H4 D (.lst (acc ++ [y]))) else Nx H3) := by
  refine lc_list (K := K) (a := a) (xs := xs) (fun i H => H = upd H1 D (.lst (ys.take i))) (by rw [List.take_zero]) (fun i H _ e => by rw [e]; exact hq _) (fun i x H hx e => ?_) (fun H e => by
    rw [e, List.take_of_length_le (by omega)]
    exact hd)
  subst e
  have hi : i < ys.length := by
    have := (List.getElem?_eq_some_iff.mp hx).1
    omega
  refine mg _ _ _ _ _ (fun σ1 H2 q => ⟨q.1, mt _ _ _ _ (fun b H3 q2 => ?_) q.2⟩) (hs i x ys[i] (ys.take i) (fun y H4 => ∃ acc, H4 D = some (.lst acc) ∧ acc.length < sizeLine ∧ upd H4 D (.lst (acc ++ [y])) = upd H1 D (.lst (ys.take (i + 1)))) hx (List.getElem?_eq_getElem hi) ⟨ys.take i, upd_same, Nat.lt_of_le_of_lt (by rw [List.length_take]; omega : (ys.take i).length ≤ 100000) (by decide), by rw [upd_upd, List.take_add_one, List.getElem?_eq_getElem hi]; rfl⟩)
  cases b with
  | true => exact q2
  | false => exact q2.elim
theorem mono_yes : ∀ (σ : L2.St) (H : Hp) (P P' : Bool → Hp → Prop), (∀ b H1, P b H1 → P' b H1) → tYes σ H P → tYes σ H P' := fun _ _ _ _ f h => f _ _ h
theorem mono_gName {k : Nat} : ∀ (v : V) (σ : L2.St) (H : Hp) (P P' : L2.St → Hp → Prop), (∀ σ1 H1, P σ1 H1 → P' σ1 H1) → gName k v σ H P → gName k v σ H P' := fun _ _ _ _ _ f h => f _ _ h
end
end Fw

set_option Elab.async false
set_option linter.all false
set_option maxRecDepth 100000
set_option maxHeartbeats 4000000
namespace Fw
open PySem PySem.Spec PyProof.Rows L2
theorem meets_ext (l b : Addr) (xs ys : Array Value) (n m : Nat) (od : Option Addr) (sl : Array (Option Value)) (short : ¬(!xs.isEmpty && Builtin.List.listTooLong (xs.size + ys.size)) = true) (z1 : xs.size ≤ sizeLine) (z2 : xs.size + ys.size ≤ sizeLine + 1) :
    Meets (Builtin.«list.extend» ⟨[.ref l, .ref b], []⟩) (fun _ R s => s.heap.get? l = some ⟨.type "list", none, .seq xs n, #[]⟩ ∧ s.heap.get? b = some ⟨.type "tuple", od, .seq ys m, sl⟩ ∧ R (.ok (.ret Value.none)) { s with heap := s.heap.update l (Obj.mapSeq fun x => x ++ ys), toks := s.toks }) :=
  .of_wp fun prog w A R s h => by
    obtain ⟨hp, g, d, tk, os⟩ := s
    obtain ⟨hl, hb, h⟩ := h
    have f1 := AutoSeq1.idx_int
    have f2 := AutoSeq1.sub_tuple_tuple
    have f3 := AutoSeq1.sub_list_list
    have f4 := AutoSeq1.sub_tuple_list
    have f5 := AutoSeq1.sub_list_tuple
    have hz' : (xs ++ ys).size ≤ sizeLine + 1 := by rw [Array.size_append]; exact z2
    wp_walk using (wpAny_updateSeq hl rfl (hz := z1) (_hz' := hz')), AutoSeq1.wpAny_loadPart' hl, AutoSeq1.wpAny_loadPart' hb
    exact ⟨_, rfl, h⟩
/-- l.extend(b): b another list, or a tuple -/
def rExtendA (K : PySem.W.Frag) : V → List V → Hp → VK → Prop := fun x vs H Q => ∃ (l b : Addr) (xs ys : List V), x = .ref l ∧ vs = [.ref b] ∧ H l = some (.lst xs) ∧ (H b = some (.lst ys) ∨ H b = some (.tup ys)) ∧ xs.length + ys.length ≤ 100000 ∧ Q .non (upd H l (.lst (xs ++ ys)))
theorem mt_extendA {X : Cx} : MtM X "list.extend" (rExtendA X.K) := by
  intro pins s σ H x vs v us Q inv rx rs rd
  obtain ⟨l, b, xs, ys, rfl, rfl, hl, hb, few, q⟩ := rd
  have few2 : xs.length + ys.length ≤ sizeLine := Nat.le_trans few (by decide)
  rcases hb with hb | hb
  · exact mt_extend pins s σ H _ _ v us Q inv rx rs ⟨l, b, xs, ys, rfl, rfl, hl, hb, few2, q⟩
  · cases rx
    obtain ⟨u, rfl, ru⟩ := rs.one
    cases ru
    obtain ⟨_, its, n, r, e0, e⟩ := inv.lstM hl
    obtain ⟨_, its2, r2, o, e2, c2, m, d2⟩ := (show ObjOk X.prog X.w H s.heap b (.tup ys) from inv.hok b _ hb)
    obtain ⟨oc, od, dt, sl⟩ := o
    simp only at c2 d2
    subst c2 d2
    have l2 := r2.length
    have sz : its.toArray.size + its2.toArray.size ≤ sizeLine := by rw [List.size_toArray, List.size_toArray]; omega
    have lng : ¬ (!its.toArray.isEmpty && Builtin.List.listTooLong (its.toArray.size + its2.toArray.size)) = true := by
      rw [notLongL sz, Bool.and_false]
      exact Bool.false_ne_true
    refine call_meets F.slot_list_extend ⟨_, e, rfl⟩ F.entry_list_extend (F.args_list_extend_2 _ _) (meets_ext l b its.toArray its2.toArray n m od sl lng (by rw [List.size_toArray]; omega) (by omega)) ⟨e, e2, ?_⟩
    refine ⟨.non, _, inv.lset (its' := its ++ its2) hl e (by simp) (r.append r2) ?_, rfl, q⟩
    rw [List.length_append]
    omega
end Fw

set_option Elab.async false
set_option linter.all false
set_option maxRecDepth 100000
set_option maxHeartbeats 4000000
namespace Fw
open PySem PySem.Spec PyProof.Rows L2
theorem meets_enumT (t : Addr) (xs : Array Value) (n : Nat) (od : Option Addr) (sl : Array (Option Value)) :
    Meets (Builtin.«enumerate.__new__» ⟨[.type "enumerate", .ref t], []⟩) (fun _ R s => s.heap.get? t = some ⟨.type "tuple", od, .seq xs n, sl⟩ ∧
      R (.ok (.ret (.ref (s.heap.push { cls := .type "tuple_iterator", data := .fields #[.ref t, .int 0 0] }).objs.size)))
        { s with heap := (s.heap.push { cls := .type "tuple_iterator", data := .fields #[.ref t, .int 0 0] }).push { cls := .type "enumerate", data := .fields #[.none, .bool false, .ref s.heap.objs.size, rawInt 0, .none, .none] } }) :=
  .of_wp fun prog w A R s h => by
    obtain ⟨hp, g, d, tk, os⟩ := s
    obtain ⟨hl, h⟩ := h
    have hsub := sub_enumerate
    have hT : Heap.IsTuple (Shared.heap ⟨hp, g, d, tk, os⟩) t xs := ⟨_, hl, rfl, n, rfl⟩
    wp_walk using AutoSeq1.wpAny_loadPart' hl
    refine wpAny_stack_any fun st => wpAny_pure ?_
    split
    · rename_i c _ _ _ _ _
      cases (c == Value.type "enumerate")
      · wp_walk using AutoSeq1.wpAny_loadPart' hl, wpAny_pyIter_tuple hT
        exact ⟨_, rfl, h⟩
      · wp_walk using AutoSeq1.wpAny_loadPart' hl, wpAny_pyIter_tuple hT
        exact ⟨_, rfl, h⟩
    · wp_walk using AutoSeq1.wpAny_loadPart' hl, wpAny_pyIter_tuple hT
      exact ⟨_, rfl, h⟩
theorem call_enumT {prog : Program} {w : World} {A : Around} {E : Value → Shared → Prop} {s : Shared} {t : Addr} {xs : Array Value} {Q : Value → Shared → Prop} (ht : s.heap.IsTuple t xs)
    (h : ∀ h', IsEnum h' (s.heap.objs.size + 1) s.heap.objs.size 0 .none → h'.IsTupleIter s.heap.objs.size t 0 → (∀ b o, s.heap.get? b = some o → h'.get? b = some o) → Q (.ref (s.heap.objs.size + 1)) { s with heap := h' }) :
    wpAny (model prog w) A (call (.type "enumerate") [.ref t]) Q E s := by
  obtain ⟨⟨c, od, dt, sl⟩, hl, hc, n, hd⟩ := ht
  replace hc : c = .type "tuple" := hc
  replace hd : dt = .seq xs n := hd
  subst hc hd
  refine callType_new F.called_enumerate (by decide) (F.typeCall_enumerate_1 _) (F.newCall_enumerate_1 _) (fun obj => F.args_object_init_2 obj _) F.entry_enumerate_new (meets_enumT t xs n od sl) ⟨hl, ?_⟩
  have hz : (s.heap.push { cls := .type "tuple_iterator", data := .fields #[.ref t, .int 0 0] }).objs.size = s.heap.objs.size + 1 := Heap.size_push ..
  show _ ∧ _
  rw [hz]
  have he : IsEnum ((s.heap.push { cls := .type "tuple_iterator", data := .fields #[.ref t, .int 0 0] }).push { cls := .type "enumerate", data := .fields #[.none, .bool false, .ref s.heap.objs.size, rawInt 0, .none, .none] }) (s.heap.objs.size + 1) s.heap.objs.size 0 .none := by
    have q := Heap.get?_push_size (s.heap.push { cls := .type "tuple_iterator", data := .fields #[.ref t, .int 0 0] }) (o := { cls := .type "enumerate", data := .fields #[.none, .bool false, .ref s.heap.objs.size, rawInt 0, .none, .none] }) rfl
    rw [hz] at q
    exact q
  exact ⟨⟨_, he, rfl⟩, h _ he ⟨_, Heap.get?_push_of_some _ (Heap.get?_push_size _ rfl), rfl, rfl⟩ fun b o x => Heap.get?_push_of_some _ (Heap.get?_push_of_some _ x)⟩
/-- the tuple at a, each item in a new pair with its number -/
def ItT (K : PySem.W.Frag) (a : Addr) : It :=
  ⟨fun i H => ∃ (xs : List V) (x : V), SqT K H a xs ∧ xs[i]? = some x, fun i H v H' => ∃ T x, v = .ref T ∧ H T = none ∧ H' = upd H T (.tup [.int (i : Nat), x]) ∧ ∀ xs, SqT K H a xs → xs[i]? = some x, fun i H => ∃ xs : List V, SqT K H a xs ∧ xs.length ≤ i⟩
theorem turn_enumT {P : Program} {w : World} {K : PySem.W.Frag} {elts : List Expr} {kk : Nat} {tpos : Pos} (a e it : Addr) (hai : a ≠ it) (hae : a ≠ e) :
    Turn P w K (.Tuple elts kk tpos) (ItT K a) [e, it] e (fun i h => (∃ old, IsEnum h e it ((i : Nat) : Int) old) ∧ h.IsTupleIter it a i ∧ e ≠ it) where
  mem := by simp
  obj := fun i h st b hb => by
    obtain ⟨⟨old, he⟩, ⟨o, ho, hc, hd⟩, _⟩ := st
    have e' : b = e ∨ b = it := by simpa using hb
    rcases e' with z | z
    · rw [z]; exact ⟨_, he, fun v q => nomatch q⟩
    · rw [z]; exact ⟨o, ho, fun v q => by rw [hd] at q; cases q⟩
  keep := fun i h h' st k => let ⟨⟨old, he⟩, hi, hne⟩ := st; ⟨⟨old, k e (by simp) _ he⟩, hi.at fun o q => k it (by simp) o q, hne⟩
  item := by
    intro X hP hw hK hc i pins s σ H E I hf st hg
    subst hP hw hK
    obtain ⟨⟨old, he⟩, hit, hne⟩ := st
    obtain ⟨xs, x, hq, hx⟩ := hg
    obtain ⟨its, rv, p, hz⟩ := I.tuple hq
    obtain ⟨u, hu, ru⟩ := rv.get hx
    have hel : e < s.heap.objs.size := Heap.lt_size he
    have hil : it < s.heap.objs.size := by obtain ⟨_, q, _⟩ := hit; exact Heap.lt_size q
    have hlt : i < its.toArray.size := by
      obtain ⟨q, _⟩ := List.getElem?_eq_some_iff.mp hu
      simpa using q
    refine wpAny_pyNext_enum_itemD (Draws.tuple (A := X.A.in1) (show X.A.in1.handled = none from I.ok.hd hc) it a hai its.toArray) he ⟨hit, p⟩ hlt hne (by simp [hne, Ne.symm hae]) fun y h' tk hy ho hit' hT hsz hk => ?_
    have ey : y = u := by
      have hu2 : its.toArray[i]? = some u := by simpa using hu
      exact Option.some.inj (hy.symm.trans hu2)
    subst ey
    refine ⟨_, rfl, wpAny_letOwnedTupleGo_enum (s := { s with heap := h', toks := tk + 1 }) ho fun h'' he' sb => ?_⟩
    have hT2 : h''.get? s.heap.objs.size = some { cls := .type "tuple", data := .seq #[.int i tk, y] } := (sb.2 _ (Nat.ne_of_gt hel)).trans hT
    have new : ObjOk X.prog X.w (upd H s.heap.objs.size (.tup [.int (i : Nat), x])) h'' s.heap.objs.size (.tup [.int (i : Nat), x]) :=
      ⟨by show 2 ≤ sizeLine; decide, [.int i tk, y], .cons ⟨_, rfl⟩ (.cons ru .nil), ⟨_, hT2, rfl, _, rfl⟩⟩
    have I1 : Inv X pins σ (upd H s.heap.objs.size (.tup [.int (i : Nat), x])) { s with heap := h'', toks := tk + 1 } :=
      I.turnedNew (ch := [e, it]) (fun b ob hb q => (sb.2 b (fun z => hb (by simp [z]))).trans (hk b ob (fun z => hb (by simp [z])) (fun z => hb (by simp [z])) q)) hf (Nat.le_refl _) new
    refine ⟨.ref s.heap.objs.size, _, I1, rfl, ⟨_, x, rfl, I.hok.fresh (Nat.le_refl _), rfl, fun ys hy => by rw [I.tuple_inj hy hq]; exact hx⟩, ⟨⟨y, ?_⟩, hit'.1.at fun o q => (sb.2 it (Ne.symm hne)).trans q, hne⟩, fun b hb => ?_⟩
    · have e1 : ((i + 1 : Nat) : Int) = (i : Int) + 1 := by omega
      rw [e1]; exact he'
    · have hb' : b < s.heap.objs.size := by
        have e' : b = e ∨ b = it := by simpa using hb
        rcases e' with z | z
        · rw [z]; exact hel
        · rw [z]; exact hil
      rw [upd_ne (Nat.ne_of_lt hb')]
      exact (hf b hb).1
  done := by
    intro X hP hw hK hc i pins s σ H E I hf st hg
    subst hP hw hK
    obtain ⟨⟨old, he⟩, hit, hne⟩ := st
    obtain ⟨xs, hq, hx⟩ := hg
    obtain ⟨its, rv, p, hz⟩ := I.tuple hq
    obtain ⟨f0, f1, f2, f3, f4, f5⟩ := hf it (by simp)
    have hl := rv.length
    have hT : s.TypeIs (.ref e) "enumerate" := ⟨_, he, rfl⟩
    unfold pyNext
    refine wpAny_bind (wpAny_attempt (wpAny_callSpecial?_slot (name := Str.ofString "__next__") hT F.slot_enumerate_next (wpAny_call_entry F.slot_enumerate_next hT F.entry_enumerate_next ?_ (F.args_enumerate_next_1 _))))
    show wpAny _ _ (field (.ref e) 2 >>= _) _ _ _
    refine wpAny_bind (wpAny_field he rfl (x := .ref it) rfl ?_)
    refine wpAny_bind (wpAny_nextOf_tuple_end (I.ok.hd hc) hit (show s.heap.IsTuple a its.toArray from p) (by simp; omega) fun h' x he' hx' => ?_)
    obtain ⟨o, ho, hc⟩ := hx'
    refine wpAny_bind (wpAny_isInstance (T := "StopIteration") (b := true) ⟨o, ho, hc⟩ isSubtype_stop ?_)
    exact wpAny_pure ⟨rfl, I.turned (t' := s.toks) (fun b o hb q => he' b o hb q) f0 f1 f3 f4 f5⟩
  self := fun A i s Q E st h => let ⟨⟨_, he⟩, _⟩ := st; wpAny_pyIter_enum he h
def iEnumT (K : PySem.W.Frag) (ta : TA) : TI := fun σ H R => ta σ H fun vs H1 => ∃ a xs, vs = [.ref a] ∧ SqT K H1 a xs ∧ R (ItT K a) H1
theorem pi_enumT {X : Cx} {e : Expr} {ta : TA} {p pos tpos : Pos} {elts : List Expr} {kk : Nat} (hg : Gl X "enumerate") (hm : X.mg "enumerate" = none) (ha : PA X [e] ta) (hs : starEach [e] X.env = [(false, eval e X.env)] := by rfl) :
    PI X (.Tuple elts kk tpos) (.Call (.Name "enumerate" p) [e] [] pos) (iEnumT X.K ta) := by
  refine ⟨fun pins s σ H R I h => ?_⟩
  refine Call_ (ld_blt I hg hm boot_enumerate (PyProof.Rows.callWith_type1 (thn (ha.run pos pins s σ H _ I h) fun us s1 ⟨vs, H1, I1, r1, q1⟩ => ?_) hs rfl))
  obtain ⟨a, xs, ex, hq, q⟩ := q1
  subst ex
  cases r1 with
  | cons r rr =>
    cases rr
    cases r
    obtain ⟨its, rv, p', hz⟩ := I1.tuple hq
    have hlt : a < s1.heap.objs.size := by obtain ⟨_, q, _⟩ := p'; exact Heap.lt_size q
    refine call_enumT (show s1.heap.IsTuple a its.toArray from p') fun h' he hit hk => wpAny_pyIter_enum he ?_
    have I2 : Inv X pins σ H1 { s1 with heap := h' } := I1.kept (t' := s1.toks) hk
    refine ⟨s1.heap.objs.size + 1, [s1.heap.objs.size + 1, s1.heap.objs.size], _, _, H1, rfl, I2, turn_enumT a (s1.heap.objs.size + 1) s1.heap.objs.size (Nat.ne_of_lt hlt) (Nat.ne_of_lt (Nat.lt_succ_of_lt hlt)), ⟨⟨.none, he⟩, hit, Nat.succ_ne_self _⟩, fun b hb => ?_, q⟩
    have e' : b = s1.heap.objs.size + 1 ∨ b = s1.heap.objs.size := by simpa using hb
    have hle : s1.heap.objs.size ≤ b := by
      rcases e' with z | z
      · rw [z]; exact Nat.le_add_right _ _
      · rw [z]; exact Nat.le_refl _
    exact I1.fpOk hle (I1.hok.fresh hle)
theorem walk_enumT {K : PySem.W.Frag} {a : Addr} {xs : List V} : Walk (ItT K a) xs.length (fun H => SqT K H a xs) (YPair (fun i => some (.int (i : Nat))) (fun i => xs[i]?)) := by
  refine ⟨fun i _ hi q => ⟨xs, xs[i], q, by simp [hi]⟩, fun _ q => ⟨xs, q, Nat.le_refl _⟩, fun i H v H' _ q y => ?_⟩
  obtain ⟨T, x, h1, h2, h3, h4⟩ := y
  exact ⟨T, .int (i : Nat), x, h1, h2, h3, rfl, h4 xs q⟩
end Fw

set_option Elab.async false
set_option linter.all false
set_option maxRecDepth 100000
set_option maxHeartbeats 4000000
namespace Fw
open PySem PySem.Spec PyProof.Rows L2 PySem.W.Datum PySem.W
/-- max(t), t a tuple of ints -/
def rMaxT (K : PySem.W.Frag) : List V → Hp → VK → Prop := fun vs H Q => ∃ (a : Addr) (ns : List Int), vs = [.ref a] ∧ SqT K H a (ns.map V.int) ∧ ns ≠ [] ∧ ∀ m, m ∈ ns → (∀ y ∈ ns, y ≤ m) → Q (.int m) H
theorem maxOf_int : ∀ (xs : List Int) (x : Int), maxOf x xs ∈ x :: xs ∧ ∀ y ∈ x :: xs, y ≤ maxOf x xs
  | [], x => ⟨List.mem_cons_self .., fun y hy => by rw [List.mem_singleton.mp hy]; exact Int.le_refl _⟩
  | z :: xs, x => by
    have e : maxOf x (z :: xs) = maxOf (if DatumOrd.lt x z = true then z else x) xs := rfl
    rw [e]
    by_cases h : DatumOrd.lt x z = true
    · rw [if_pos h]
      have h : decide (x < z) = true := h
      have h := of_decide_eq_true h
      obtain ⟨a, b⟩ := maxOf_int xs z
      refine ⟨List.mem_cons_of_mem _ a, fun y hy => ?_⟩
      rcases List.mem_cons.mp hy with q | q
      · have := b z (List.mem_cons_self ..)
        rw [q]
        omega
      · exact b y q
    · rw [if_neg h]
      have h : ¬ decide (x < z) = true := h
      have h : ¬ x < z := fun q => h (decide_eq_true q)
      obtain ⟨a, b⟩ := maxOf_int xs x
      refine ⟨?_, fun y hy => ?_⟩
      · rcases List.mem_cons.mp a with q | q
        · rw [q]; exact List.mem_cons_self ..
        · exact List.mem_cons_of_mem _ (List.mem_cons_of_mem _ q)
      · rcases List.mem_cons.mp hy with q | q
        · rw [q]; exact b x (List.mem_cons_self ..)
        · rcases List.mem_cons.mp q with q | q
          · have := b x (List.mem_cons_self ..)
            rw [q]
            omega
          · exact b y (List.mem_cons_of_mem _ q)
theorem dp_ints {K : PySem.W.Frag} {H : Hp} : ∀ ns : List Int, DpAll K H (ns.map V.int) (ns.map PyData.int)
  | [] => .nil
  | n :: ns => .cons (.int n) (dp_ints ns)
theorem cr_maxT {X : Cx} (hc : X.calm = true) (hu : X.A.units + 64 < cLine) : CallR X (.builtin "max") (rMaxT X.K) := by
  intro pins s σ H vs us Q inv r h
  obtain ⟨a, ns, rfl, hs, hne, q⟩ := h
  obtain ⟨its, rv, p, _⟩ := inv.tuple hs
  rw [Vals.ref1 r]
  cases ns with
  | nil => exact absurd rfl hne
  | cons n ns =>
    obtain ⟨as, rd⟩ := Dp.readsAll inv _ _ its (dp_ints (n :: ns)) rv
    refine max_tuple_datum (α := Int) (x := n) (xs := ns) (inv.ok.hd hc) (show s.heap.IsTuple a its.toArray from p) ⟨as, rd⟩ (by show X.A.units + 1 + 0 < cLine; omega) fun i v h' tk hi hold hk => ?_
    obtain ⟨bs, rd2⟩ := hold
    have rd2 : Reads h' v (.int (maxOf n ns)) bs := rd2
    obtain ⟨m1, m2⟩ := maxOf_int ns n
    cases rd2 with
    | int _ t => exact ⟨.int _, H, inv.kept hk, ⟨_, rfl⟩, q _ m1 m2⟩
end Fw

set_option Elab.async false
set_option linter.all false
set_option maxRecDepth 100000
set_option maxHeartbeats 4000000
namespace Fw
open PySem L2 RZ RT
theorem Dk.upd {c D q : Addr} {ns : List Int} {t : Nat} {H : Hp} {o : HO} (d : Dk c D ns t H) (h1 : q ≠ c) (h2 : q ≠ D) : Dk c D ns t (L2.upd H q o) := by
  obtain ⟨a, b, e, i, n, u, h, r⟩ := d
  exact ⟨a, updN h1.symm b, e, i, n, u, updN h2.symm h, r⟩
theorem Dk.le {c D : Addr} {ns : List Int} {t t' : Nat} {H : Hp} (d : Dk c D ns t H) (h : t ≤ t') : Dk c D ns t' H := by
  obtain ⟨a, b, e, i, n, u, hh, r1, r2, r3, r4, r5⟩ := d
  exact ⟨a, b, e, i, n, u, hh, r1, r2, r3, r4, by omega⟩
theorem Dk.someD {c D : Addr} {ns : List Int} {t : Nat} {H : Hp} (d : Dk c D ns t H) : ∃ xs, H D = some (.lst xs) := by
  obtain ⟨_, _, _, _, _, _, h, _⟩ := d
  exact ⟨_, h⟩
theorem Dk.someC {c D : Addr} {ns : List Int} {t : Nat} {H : Hp} (d : Dk c D ns t H) : ∃ xs, H c = some (.lst xs) := ⟨_, d.2.1⟩
theorem Dk.neD {c D q : Addr} {ns : List Int} {t : Nat} {H : Hp} (d : Dk c D ns t H) (h : H q = none) : q ≠ D := by
  obtain ⟨xs, e⟩ := d.someD
  exact (ne_of_none e h).symm
theorem Dk.neC {c D q : Addr} {ns : List Int} {t : Nat} {H : Hp} (d : Dk c D ns t H) (h : H q = none) : q ≠ c := by
  obtain ⟨xs, e⟩ := d.someC
  exact (ne_of_none e h).symm
/-- all but the deck stands -/
def Kp (D : Addr) (H H' : Hp) : Prop := ∀ b o, H b = some o → b ≠ D → H' b = some o
theorem Kp.refl (D : Addr) (H : Hp) : Kp D H H := fun _ _ e _ => e
theorem Kp.trans {D : Addr} {H H1 H2 : Hp} (a : Kp D H H1) (b : Kp D H1 H2) : Kp D H H2 := fun x o e n => b x o (a x o e n) n
theorem Kp.fr {D : Addr} {H H' : Hp} (f : ∀ b, b ≠ D → H' b = H b) : Kp D H H' := fun b o e n => by rw [f b n]; exact e
theorem Kp.new {D q : Addr} {H : Hp} {o : HO} (n : H q = none) : Kp D H (L2.upd H q o) := fun b u e _ => updN (ne_of_none e n) e
theorem Kp.of_same {D : Addr} {H H' : Hp} (s : Same H H') : Kp D H H' := fun b o e _ => s b o e
theorem Kp.tup {D : Addr} {H H' : Hp} {c : Addr} {ns : List Int} {t : Nat} (k : Kp D H H') (d : Dk c D ns t H) (a : Addr) (xs : List V) (h : H a = some (.tup xs)) : H' a = some (.tup xs) := by
  obtain ⟨ys, e⟩ := d.someD
  exact k a _ h (ne_of h e (by intro z; cases z))
/-- what was free at first, behind what keeps -/
theorem Kp.free {D q : Addr} {H H' : Hp} (k : Kp D H H') (h : H' q = none) (n : q ≠ D) : H q = none := by
  cases e : H q with
  | none => rfl
  | some o => rw [k q o e n] at h; cases h
end Fw

set_option Elab.async false
set_option linter.all false
set_option maxRecDepth 100000
set_option maxHeartbeats 4000000
namespace Fw
open PySem L2 RZ RT
abbrev rLeS : R2 := fun x y H Q => ∃ i j, x = .str i ∧ y = .str j ∧ Q (.bl (!decide (j.cps.toList < i.cps.toList))) H
abbrev rLtS : R2 := fun x y H Q => ∃ i j, x = .str i ∧ y = .str j ∧ Q (.bl (decide (i.cps.toList < j.cps.toList))) H
def fOrd : List V → Hp → VK → Prop := fun xs H Q => ∃ x, xs = [.str x] ∧ x.length = 1 ∧ Q (.int (x.cps.getD 0 0 : Nat)) H
def fJoin (K : PySem.W.Frag) : V → List V → Hp → VK → Prop := fun x xs H Q => ∃ a p, ∃ ys : List Str, x = .str a ∧ xs = [.ref p] ∧ (SqL K H p (ys.map V.str) ∨ SqT K H p (ys.map V.str)) ∧ (ys.map (·.length)).sum + ys.length * a.length ≤ 16777216 ∧ Q (.str (Txt.join a ys)) H
theorem ixS {K : PySem.W.Frag} {H : Hp} {z : Str} {i : Int} {c : Nat} {Q : VK} (hz : z.length ≤ 1000) (ha : atI z.cps.toList i = some c) (q : Q (.str ⟨#[c]⟩) H) : rIx K (.str z) (.int i) H Q := .inr (.inr ⟨z, i, c, rfl, rfl, Nat.le_trans hz (by decide), ha, q⟩)
theorem lenS {K : PySem.W.Frag} {H : Hp} {z : Str} {Q : VK} {σ : L2.St} (hz : z.length ≤ 1000) (q : Q (.int z.length) H) : tNil σ H fun ys H2 => fLen K (.str z :: ys) H2 Q := ⟨_, _, rfl, ⟨Nat.le_trans hz (by decide), rfl⟩, q⟩
theorem Same.upd {H : Hp} {p : Addr} {o : HO} (n : H p = none) : Same H (upd H p o) := fun b u e => updN (ne_of_none e n) e
theorem Same.updI {H H' : Hp} {p : Addr} {o : HO} (s : Same H H') (n : H p = none) : Same H (L2.upd H' p o) := fun b u e => updN (ne_of_none e n) (s b u e)
/-- a comprehension whose elements may make new things, nothing else -/
theorem lc_grow {J : It} {n : Nat} {G : Hp → Prop} {Y : Nat → Hp → V → Hp → Prop} (w : Walk J n G Y) (hY : ∀ i H x H', Y i H x H' → H' = H) {k : Nat} {te : TE} {vs : List Nat} {σ : L2.St} {H1 : Hp} {D : Addr} {Qd : Hp → Prop} {ys : List V}
    (hD : H1 D = none) (hl : ys.length = n) (hz : n ≤ 100000) (hG : ∀ H', Same H1 H' → G H')
    (hs : ∀ (i : Nat) (x y : V) (H' : Hp) (R : VK), i < n → Y i H' x H' → ys[i]? = some y → Same H1 H' → (∀ H'', Same H' H'' → R y H'') → wipe ((wipe σ vs).set k (some x)) vs = wipe σ vs ∧ te ((wipe σ vs).set k (some x)) H' R)
    (hd : ∀ H', Same H1 H' → H' D = some (.lst ys) → Qd H') :
    ∃ W : Nat → Nat → Hp → Prop, (∃ m, W 0 m (L2.upd H1 D (.lst []))) ∧ ∀ i m H, W i m H →
      (J.stop i H ∧ Qd H) ∨ (J.go i H ∧ ∃ Nx : Hp → Prop, (∀ H', Nx H' → ∃ m', m' < m ∧ W (i + 1) m' H') ∧ ∀ x H', J.yld i H x H' → gName k x (wipe σ vs) H' fun σ2 H2 => wipe σ2 vs = wipe σ vs ∧ tYes σ2 H2 fun b H3 =>
        if b = true then te σ2 H3 fun y H4 => ∃ acc, H4 D = some (.lst acc) ∧ acc.length < sizeLine ∧ Nx (L2.upd H4 D (.lst (acc ++ [y]))) else Nx H3) := by
  refine lc_it w (fun i H => Same H1 H ∧ H D = some (.lst (ys.take i))) ⟨Same.upd hD, updS⟩ (fun i H _ p => hG H p.1) (fun i x H H' hi p hy => ?_) (fun H p => hd H p.1 (by rw [p.2, List.take_of_length_le (by omega)]))
  have e := hY i H x H' hy
  subst e
  have hi2 : i < ys.length := by omega
  obtain ⟨q1, q2⟩ := hs i x ys[i] H' (fun y H4 => ∃ acc, H4 D = some (.lst acc) ∧ acc.length < sizeLine ∧ (Same H1 (L2.upd H4 D (.lst (acc ++ [y]))) ∧ L2.upd H4 D (.lst (acc ++ [y])) D = some (.lst (ys.take (i + 1))))) hi hy (List.getElem?_eq_getElem hi2) p.1 (fun H'' s => ⟨_, s _ _ p.2, Nat.lt_of_le_of_lt (by rw [List.length_take]; omega : (ys.take i).length ≤ 100000) (by decide), Same.updI (Same.trans p.1 s) hD, by rw [updS, List.take_add_one, List.getElem?_eq_getElem hi2]; rfl⟩)
  exact ⟨q1, q2⟩
/-- the same where each element draws: what it gives keeps P -/
theorem lc_deck {J : It} {n : Nat} {Y : Nat → Hp → V → Hp → Prop} (w : Walk J n (fun _ => True) Y) (hY : ∀ i H x H', Y i H x H' → H' = H) {α : Type} (f : α → V) (P : α → Prop) (st : Nat) {k : Nat} {te : TE} {vs : List Nat} {σ : L2.St} {H1 : Hp} {L : Addr} {Qd : Hp → Prop} {c D : Addr} {ns : List Int} {t : Nat}
    (hL : H1 L = none) (dk : Dk c D ns t H1) (hz : n ≤ 100000)
    (hs : ∀ (i : Nat) (x : V) (H' : Hp) (R : VK), i < n → Kp D H1 H' → Dk c D ns (t + st * i) H' → (∀ y H'', P y → Kp D H' H'' → Dk c D ns (t + st * i + st) H'' → R (f y) H'') → wipe ((wipe σ vs).set k (some x)) vs = wipe σ vs ∧ te ((wipe σ vs).set k (some x)) H' R)
    (hd : ∀ (ys : List α) (H' : Hp), ys.length = n → (∀ y ∈ ys, P y) → Kp D H1 H' → Dk c D ns (t + st * n) H' → H' L = some (.lst (ys.map f)) → Qd H') :
    ∃ W : Nat → Nat → Hp → Prop, (∃ m, W 0 m (L2.upd H1 L (.lst []))) ∧ ∀ i m H, W i m H →
      (J.stop i H ∧ Qd H) ∨ (J.go i H ∧ ∃ Nx : Hp → Prop, (∀ H', Nx H' → ∃ m', m' < m ∧ W (i + 1) m' H') ∧ ∀ x H', J.yld i H x H' → gName k x (wipe σ vs) H' fun σ2 H2 => wipe σ2 vs = wipe σ vs ∧ tYes σ2 H2 fun b H3 =>
        if b = true then te σ2 H3 fun y H4 => ∃ acc, H4 L = some (.lst acc) ∧ acc.length < sizeLine ∧ Nx (L2.upd H4 L (.lst (acc ++ [y]))) else Nx H3) := by
  have nLD : L ≠ D := dk.neD hL
  have nLC : L ≠ c := dk.neC hL
  refine lc_it w (fun i H => ∃ ys : List α, ys.length = i ∧ (∀ y ∈ ys, P y) ∧ Kp D H1 H ∧ Dk c D ns (t + st * i) H ∧ H L = some (.lst (ys.map f))) ⟨[], rfl, (fun _ h => by cases h), .new hL, dk.upd nLC nLD, updS⟩ (fun _ _ _ _ => True.intro) ?_ ?_
  · rintro i x H H' hi ⟨ys, hl, hp, kp, dk2, hLs⟩ hy
    have e := hY i H x H' hy
    subst e
    obtain ⟨q1, q2⟩ := hs i x H' (fun y H4 => ∃ acc, H4 L = some (.lst acc) ∧ acc.length < sizeLine ∧ ∃ ys : List α, ys.length = i + 1 ∧ (∀ y ∈ ys, P y) ∧ Kp D H1 (L2.upd H4 L (.lst (acc ++ [y]))) ∧ Dk c D ns (t + st * (i + 1)) (L2.upd H4 L (.lst (acc ++ [y]))) ∧ L2.upd H4 L (.lst (acc ++ [y])) L = some (.lst (ys.map f))) hi kp dk2 (fun y H'' py k2 d2 => by
      refine ⟨_, k2 _ _ hLs nLD, Nat.lt_of_le_of_lt (by rw [List.length_map]; omega : (ys.map f).length ≤ 100000) (by decide), ys ++ [y], by rw [List.length_append, hl]; rfl, fun z hz2 => ?_, fun b o e n => updN (ne_of_none e hL) ((kp.trans k2) b o e n), ?_, by rw [updS, List.map_append]; rfl⟩
      · rcases List.mem_append.mp hz2 with h | h
        · exact hp z h
        · cases List.mem_singleton.mp h
          exact py
      · have e2 : t + st * (i + 1) = t + st * i + st := by rw [Nat.mul_add, Nat.mul_one, Nat.add_assoc]
        rw [e2]
        exact d2.upd nLC nLD)
    exact ⟨q1, q2⟩
  · rintro H ⟨ys, hl, hp, kp, dk2, hLs⟩
    exact hd ys H hl hp kp dk2 hLs
/-! ### the same data, where looking makes new things -/
theorem SameV.mono {H H' : Hp} (s : Same H H') : ∀ {n : Nat} {x y : V}, SameV H n x y → SameV H' n x y
  | 0, _, _, h => h
  | n + 1, x, y, h => by
    rcases h with h | ⟨p, q, xs, ys, rfl, rfl, h, hl, hz, hs⟩
    · exact .inl h
    · refine .inr ⟨p, q, xs, ys, rfl, rfl, h.imp (fun h => ⟨s _ _ h.1, s _ _ h.2⟩) (fun h => ⟨s _ _ h.1, s _ _ h.2⟩), hl, hz, fun i a b h1 h2 => (hs i a b h1 h2).mono s⟩
theorem SameV.strs {H : Hp} {n : Nat} {zs : List Str} : ∀ (i : Nat) (a b : V), (zs.map V.str)[i]? = some a → (zs.map V.str)[i]? = some b → SameV H (n + 1) a b := fun i a b h1 h2 => by
  have e : a = b := Option.some.inj (h1.symm.trans h2)
  rw [List.getElem?_map] at h1
  cases q : zs[i]? with
  | none => rw [q] at h1; cases h1
  | some z => rw [q] at h1; exact Or.inl ⟨e, .inr (.inr (.inr ⟨z, (Option.some.inj h1).symm⟩))⟩
def sp_same2N (_ : PySem.W.Frag) (n : Nat) : Sp := fun vs H Q _ => ∃ x y, vs = [x, y] ∧ SameV H n x y ∧ ∀ H', Same H H' → Q (.bl true) H'
abbrev sp_l_same2 (K : PySem.W.Frag) : Sp := sp_same2N K 6
theorem len_same2N {K : PySem.W.Frag} {vs : List V} {H : Hp} {Q : VK} {E : XK} {n : Nat} (h : sp_same2N K n vs H Q E) : vs.length = 2 := by
  obtain ⟨_, _, rfl, _⟩ := h
  rfl
def t_l_same2_loop (K : PySem.W.Frag) (n : Nat) : TS := (tSeq (tIfS (tTest (tOp rNe (tCB (fLen K) (tCons (tVar 0) tNil)) (tCB (fLen K) (tCons (tVar 1) tNil)))) (tRet (tC (.bl false))) tNext)
    (tSeq (tFor (iRng1 (tCons (tCB (fLen K) (tCons (tVar 1) tNil)) tNil)) (gName 2) (tIfS (tNot (tB (tCall (sp_same2N K n) [] E0 (tCons (tOp (rIx K) (tVar 0) (tVar 2)) (tCons (tOp (rIx K) (tVar 1) (tVar 2)) tNil))))) (tRet (tC (.bl false))) tNext))
    (tRet (tC (.bl true)))))
def t_l_same2_tail (K : PySem.W.Frag) (n : Nat) : TS := (tSeq (tIfS (tB (tCB (rIsi K) (tCons (tVar 1) (tCons (tC (.ty "dict")) tNil)))) tNever tNext)
    (tSeq (tIfS (tB (tCB (rIsi K) (tCons (tVar 1) (tCons (tC (.ty "bool")) tNil)))) (tRet (tAndV (tCB (rIsi K) (tCons (tVar 0) (tCons (tC (.ty "bool")) tNil))) (tOp rEq (tVar 0) (tVar 1)))) tNext)
    (tSeq (tIfS (tB (tCB (rIsi K) (tCons (tVar 1) (tCons (tC (.ty "int")) tNil)))) (tRet (tAndV (tCall (sp_l_int K) [] E0 (tCons (tVar 0) tNil)) (tOp rEq (tVar 0) (tVar 1)))) tNext)
    (tSeq (tIfS (tB (tCB (rIsi K) (tCons (tVar 1) (tCons (tC (.ty "str")) tNil)))) (tRet (tAndV (tCB (rIsi K) (tCons (tVar 0) (tCons (tC (.ty "str")) tNil))) (tOp rEq (tVar 0) (tVar 1)))) tNext)
    (tRet (tAndV (tOp fIsN (tVar 1) (tC .non)) (tOp fIsN (tVar 0) (tC .non))))))))
def t_l_same2 (K : PySem.W.Frag) (n : Nat) : TS := (tSeq (tIfS (tB (tCB (rIsiT K) (tCons (tVar 1) (tCons (tTup (tCons (tC (.ty "tuple")) (tCons (tC (.ty "list")) tNil))) tNil)))) (tSeq (tIfS (tOr (tTest (tOp rNe (tCB (rIsi K) (tCons (tVar 1) (tCons (tC (.ty "tuple")) tNil))) (tCB (rIsi K) (tCons (tVar 0) (tCons (tC (.ty "tuple")) tNil))))) (tTest (tOp rNe (tCB (rIsi K) (tCons (tVar 1) (tCons (tC (.ty "list")) tNil))) (tCB (rIsi K) (tCons (tVar 0) (tCons (tC (.ty "list")) tNil)))))) (tRet (tC (.bl false))) tNext)
    (t_l_same2_loop K n)) tNext)
    (t_l_same2_tail K n))
section
variable {K : PySem.W.Frag} {H : Hp} {x : V} {Q : VK} {σ : L2.St} {t : String} {b : Bool}
/-- isinstance(x, (tuple, list)) -/
theorem isi2 (ty : ∀ H', Same H H' → TyX K H' x (.type t)) {b1 b2 : Bool} (k1 : kitB t "tuple" = some b1) (k2 : kitB t "list" = some b2) (q : ∀ T, H T = none → Q (.bl (b1 || b2)) (upd H T (.tup [.ty "tuple", .ty "list"]))) :
    tCons (tTup (tCons (tC (.ty "tuple")) (tCons (tC (.ty "list")) tNil))) tNil σ H fun ys H2 => rIsiT K (x :: ys) H2 Q := by
  refine ⟨by show (2 : Nat) ≤ sizeLine; decide, fun T nT => ⟨x, T, _, _, [.type "tuple", .type "list"], (b1 || b2), rfl, updS, .cons (.ty _) (.cons (.ty _) .nil), ty _ (Same.upd nT), ?_, q T nT⟩⟩
  refine kitAny_cons (kit_ty k1) (fun e => ?_) (fun e => by rw [e]; rfl)
  subst e
  exact kitAny_cons (kit_ty k2) (fun e => by subst e; exact kitAny_nil) (fun e => by rw [e]; rfl)
end
theorem k_id : kitB "int" "dict" = some false := by decide +kernel
theorem k_bd : kitB "bool" "dict" = some false := by decide +kernel
theorem k_sd : kitB "str" "dict" = some false := by decide +kernel
theorem k_nd : kitB "NoneType" "dict" = some false := by decide +kernel
theorem pure_l_same2 {K : PySem.W.Frag} {n : Nat} {vs : List V} {H : Hp} {Q : VK} {E : XK} (h : sp_same2N K (n + 1) vs H Q E) : t_l_same2 K n { nx := fun _ H' => Q .non H', rt := Q } (start N_l_same vs) H := by
  obtain ⟨x, y, rfl, h, k⟩ := h
  rcases h with ⟨rfl, h⟩ | ⟨p, q, xs, ys, rfl, rfl, h, hl, hz, hs⟩
  · rcases h with rfl | ⟨i, rfl⟩ | ⟨b, rfl⟩ | ⟨z, rfl⟩
    · refine ⟨_, rfl, isi2 (fun _ _ => .base .non) k_nt k_nl fun T nT => ⟨_, rfl, iteF ?_⟩⟩
      refine ⟨_, rfl, isi (.base .non) k_nd ⟨_, rfl, iteF ?_⟩⟩
      refine ⟨_, rfl, isi (.base .non) k_nb ⟨_, rfl, iteF ?_⟩⟩
      refine ⟨_, rfl, isi (.base .non) k_ni ⟨_, rfl, iteF ?_⟩⟩
      refine ⟨_, rfl, isi (.base .non) k_ns ⟨_, rfl, iteF ?_⟩⟩
      exact ⟨_, rfl, rfl, _, rfl, iteT ⟨_, rfl, rfl, k _ (Same.upd nT)⟩⟩
    · refine ⟨_, rfl, isi2 (fun _ _ => .base (.int i)) k_it k_il fun T nT => ⟨_, rfl, iteF ?_⟩⟩
      refine ⟨_, rfl, isi (.base (.int i)) k_id ⟨_, rfl, iteF ?_⟩⟩
      refine ⟨_, rfl, isi (.base (.int i)) k_ib ⟨_, rfl, iteF ?_⟩⟩
      refine ⟨_, rfl, isi (.base (.int i)) k_ii ⟨_, rfl, iteT ?_⟩⟩
      refine ⟨_, rfl, i, rfl, _, rfl, iteT ⟨_, rfl, _, rfl, rfl, ?_⟩⟩
      rw [decide_eq_true rfl]
      exact k _ (Same.upd nT)
    · refine ⟨_, rfl, isi2 (fun _ _ => .base (.bl b)) k_bt k_bl fun T nT => ⟨_, rfl, iteF ?_⟩⟩
      refine ⟨_, rfl, isi (.base (.bl b)) k_bd ⟨_, rfl, iteF ?_⟩⟩
      refine ⟨_, rfl, isi (.base (.bl b)) k_bb ⟨_, rfl, iteT ?_⟩⟩
      refine ⟨_, rfl, isi (.base (.bl b)) k_bb ⟨_, rfl, iteT ⟨_, rfl, _, rfl, rfl, ?_⟩⟩⟩
      rw [decide_eq_true rfl]
      exact k _ (Same.upd nT)
    · refine ⟨_, rfl, isi2 (fun _ _ => .base (.str z)) k_st k_sl fun T nT => ⟨_, rfl, iteF ?_⟩⟩
      refine ⟨_, rfl, isi (.base (.str z)) k_sd ⟨_, rfl, iteF ?_⟩⟩
      refine ⟨_, rfl, isi (.base (.str z)) k_sb ⟨_, rfl, iteF ?_⟩⟩
      refine ⟨_, rfl, isi (.base (.str z)) k_si ⟨_, rfl, iteF ?_⟩⟩
      refine ⟨_, rfl, isi (.base (.str z)) k_ss ⟨_, rfl, iteT ?_⟩⟩
      refine ⟨_, rfl, isi (.base (.str z)) k_ss ⟨_, rfl, iteT ⟨_, rfl, _, rfl, rfl, ?_⟩⟩⟩
      rw [decide_eq_true rfl]
      exact k _ (Same.upd nT)
  · have loop : ∀ H0 : Hp, Same H H0 → (∃ o, (H p = some o ∧ (o = .lst xs ∨ o = .tup xs))) → (∃ o, (H q = some o ∧ (o = .lst ys ∨ o = .tup ys))) → ∀ z2 : Option V,
        t_l_same2_loop K n { nx := t_l_same2_tail K n { nx := fun _ H' => Q .non H', rt := Q }, rt := Q } [some (.ref p), some (.ref q), z2] H0 := by
      intro H0 s0 hp hq z2
      have hlen : ∀ {r : Addr} {zs : List V} {R : VK} {σ : L2.St} {H1 : Hp}, (∃ o, (H r = some o ∧ (o = .lst zs ∨ o = .tup zs))) → Same H H1 → R (.int zs.length) H1 → tNil σ H1 fun ws H2 => fLen K (.ref r :: ws) H2 R := by
        rintro r zs R σ H1 ⟨o, h1, rfl | rfl⟩ s h2
        · exact lenL (s _ _ h1) h2
        · exact lenT (s _ _ h1) h2
      have hix : ∀ {r : Addr} {zs : List V} {R : VK} {i : Int} {v : V} {H1 : Hp}, (∃ o, (H r = some o ∧ (o = .lst zs ∨ o = .tup zs))) → Same H H1 → atI zs i = some v → R v H1 → rIx K (.ref r) (.int i) H1 R := by
        rintro r zs R i v H1 ⟨o, h1, rfl | rfl⟩ s h2 h3
        · exact ixL (s _ _ h1) h2 h3
        · exact ixT (s _ _ h1) h2 h3
      refine ⟨_, rfl, hlen hp s0 ⟨_, rfl, hlen hq s0 ⟨rfl, _, rfl, ?_⟩⟩⟩
      rw [decide_eq_true (show V.int (xs.length : Int) = V.int (ys.length : Int) by rw [hl])]
      refine iteF ?_
      refine ⟨_, rfl, hlen hq s0 ⟨_, rfl, (len_le (by omega)).1, (len_le (by omega)).2, for_range (lo := 0) (n := ((ys.length : Int)).toNat) (fun i σ H' => Same H H' ∧ ∃ z, σ = [some (.ref p), some (.ref q), z]) ⟨s0, _, rfl⟩ ?_ ?_⟩⟩
      · rintro i σ H' hi ⟨s1, z, rfl⟩
        have hi1 : i < ys.length := by omega
        have hi2 : i < xs.length := by omega
        have e1 : atI xs (0 + (i : Int)) = some xs[i] := by rw [Int.zero_add]; exact atI_nat (List.getElem?_eq_getElem hi2)
        have e2 : atI ys (0 + (i : Int)) = some ys[i] := by rw [Int.zero_add]; exact atI_nat (List.getElem?_eq_getElem hi1)
        refine ⟨_, rfl, _, rfl, hix hp s1 e1 ⟨_, rfl, _, rfl, hix hq s1 e2 ⟨_, _, rfl, (hs i _ _ (List.getElem?_eq_getElem hi2) (List.getElem?_eq_getElem hi1)).mono s1, fun H2 s2 => ⟨_, rfl, iteF ?_⟩⟩⟩⟩
        exact ⟨s1.trans s2, _, rfl⟩
      · rintro σ H' ⟨s1, z, rfl⟩
        exact k _ s1
    rcases h with ⟨h1, h2⟩ | ⟨h1, h2⟩
    · have t1 : ∀ H', Same H H' → TyX K H' (.ref p) (.type "list") := fun H' s => .base (.lst (s _ _ h1))
      have t2 : ∀ H', Same H H' → TyX K H' (.ref q) (.type "list") := fun H' s => .base (.lst (s _ _ h2))
      refine ⟨_, rfl, isi2 t2 k_lt k_ll fun T nT => ⟨_, rfl, iteT ?_⟩⟩
      have s0 : Same H (upd H T (.tup [.ty "tuple", .ty "list"])) := Same.upd nT
      refine ⟨_, rfl, isi (t2 _ s0) k_lt ⟨_, rfl, isi (t1 _ s0) k_lt ⟨rfl, _, rfl, iteF ⟨_, rfl, isi (t2 _ s0) k_ll ⟨_, rfl, isi (t1 _ s0) k_ll ⟨rfl, _, rfl, iteF ?_⟩⟩⟩⟩⟩⟩
      exact loop _ s0 ⟨_, h1, .inl rfl⟩ ⟨_, h2, .inl rfl⟩ _
    · have t1 : ∀ H', Same H H' → TyX K H' (.ref p) (.type "tuple") := fun H' s => .base (.tup (s _ _ h1))
      have t2 : ∀ H', Same H H' → TyX K H' (.ref q) (.type "tuple") := fun H' s => .base (.tup (s _ _ h2))
      refine ⟨_, rfl, isi2 t2 k_tt k_tl fun T nT => ⟨_, rfl, iteT ?_⟩⟩
      have s0 : Same H (upd H T (.tup [.ty "tuple", .ty "list"])) := Same.upd nT
      refine ⟨_, rfl, isi (t2 _ s0) k_tt ⟨_, rfl, isi (t1 _ s0) k_tt ⟨rfl, _, rfl, iteF ⟨_, rfl, isi (t2 _ s0) k_tl ⟨_, rfl, isi (t1 _ s0) k_tl ⟨rfl, _, rfl, iteF ?_⟩⟩⟩⟩⟩⟩
      exact loop _ s0 ⟨_, h1, .inr rfl⟩ ⟨_, h2, .inr rfl⟩ _
end Fw

set_option Elab.async false
set_option linter.all false
set_option maxRecDepth 100000
set_option maxHeartbeats 4000000
namespace Fw
open PySem L2 RZ RT
/-! ### rows, pieces, scripts -/
def OkC (c : Nat) : Prop := 32 ≤ c ∧ c ≤ 126 ∧ c ≠ 37
def OkS (z : Str) : Prop := z.cps.size ≤ 40 ∧ ∀ c ∈ z.cps.toList, OkC c
inductive Pc where
  | take (b m : Nat)
  | put (rs : List Str)
def Pc.n : Pc → Nat
  | .take _ m => m
  | .put rs => rs.length
def Pc.ok : Pc → Prop
  | .take _ m => 1 ≤ m
  | .put rs => rs ≠ [] ∧ ∀ z ∈ rs, OkS z
def Pc.fits (L : Nat) : Pc → Prop
  | .take b m => b + m ≤ L
  | .put _ => True
def Pc.mk (bs : List Str) : Pc → List Str
  | .take b m => (bs.drop b).take m
  | .put rs => rs
def Pc.cost (t p : Int) : Pc → Int
  | .take _ _ => t
  | .put rs => p * (rs.length : Int)
def total (ps : List Pc) : Nat := (ps.map Pc.n).sum
def makes (bs : List Str) (ps : List Pc) : List Str := (ps.map (Pc.mk bs)).flatten
def cost (t p : Int) (ps : List Pc) : Int := (ps.map (Pc.cost t p)).sum
structure ScOk (ps : List Pc) : Prop where
  ok : ∀ p ∈ ps, p.ok
  few : total ps ≤ 40
theorem Pc.one {p : Pc} (h : p.ok) : 1 ≤ p.n := by
  cases p with
  | take b m => exact h
  | put rs => exact List.length_pos_iff.mpr h.1
theorem len_le_total : ∀ {ps : List Pc}, (∀ p ∈ ps, p.ok) → ps.length ≤ total ps
  | [], _ => Nat.le_refl _
  | p :: ps, h => by
    have a := len_le_total (ps := ps) fun q hq => h q (List.mem_cons_of_mem _ hq)
    have b := Pc.one (h p (List.mem_cons_self ..))
    show ps.length + 1 ≤ p.n + (ps.map Pc.n).sum
    have e : total ps = (ps.map Pc.n).sum := rfl
    omega
theorem ScOk.len {ps : List Pc} (h : ScOk ps) : ps.length ≤ 40 := Nat.le_trans (len_le_total h.ok) h.few
theorem n_le_total : ∀ {ps : List Pc} {p : Pc}, p ∈ ps → p.n ≤ total ps
  | q :: ps, p, h => by
    have e : total (q :: ps) = q.n + total ps := rfl
    rcases List.mem_cons.mp h with h | h
    · rw [h, e]; omega
    · have := n_le_total h
      omega
theorem mk_len {bs : List Str} {p : Pc} (h : p.fits bs.length) : (p.mk bs).length = p.n := by
  cases p with
  | take b m =>
    show ((bs.drop b).take m).length = m
    have h : b + m ≤ bs.length := h
    rw [List.length_take, List.length_drop]
    omega
  | put rs => rfl
theorem makes_len {bs : List Str} : ∀ {ps : List Pc}, (∀ p ∈ ps, p.fits bs.length) → (makes bs ps).length = total ps
  | [], _ => rfl
  | p :: ps, h => by
    show (p.mk bs ++ makes bs ps).length = p.n + total ps
    rw [List.length_append, mk_len (h p (List.mem_cons_self ..)), makes_len fun q hq => h q (List.mem_cons_of_mem _ hq)]
/-! ### as they stand in the heap -/
def TM (H H' : Hp) : Prop := ∀ (a : Addr) (xs : List V), H a = some (.tup xs) → H' a = some (.tup xs)
theorem TM.of {H H' : Hp} (s : Same H H') : TM H H' := fun a xs h => s _ _ h
theorem TM.trans {H H1 H2 : Hp} (a : TM H H1) (b : TM H1 H2) : TM H H2 := fun x xs h => b _ _ (a _ _ h)
theorem Kp.tm {D : Addr} {H H' : Hp} {c : Addr} {ns : List Int} {t : Nat} (k : Kp D H H') (d : Dk c D ns t H) : TM H H' := fun a xs h => k.tup d a xs h
def RwAt (H : Hp) (a : Addr) (rs : List Str) : Prop := H a = some (.tup (rs.map V.str))
def PcAt (H : Hp) (a : Addr) : Pc → Prop
  | .take b m => H a = some (.tup [.str "take", .int (b : Int), .int (m : Int)])
  | .put rs => ∃ r, H a = some (.tup [.str "put", .ref r]) ∧ RwAt H r rs
theorem PcAt.mono {H H' : Hp} {a : Addr} {p : Pc} (h : PcAt H a p) (s : TM H H') : PcAt H' a p := by
  cases p with
  | take b m => exact s _ _ h
  | put rs =>
    obtain ⟨r, h1, h2⟩ := h
    exact ⟨r, s _ _ h1, s _ _ h2⟩
/-- the pieces at these addresses -/
def PsAt (H : Hp) (as : List Addr) (ps : List Pc) : Prop := as.length = ps.length ∧ ∀ (i : Nat) (a : Addr) (p : Pc), as[i]? = some a → ps[i]? = some p → PcAt H a p
theorem PsAt.mono {H H' : Hp} {as : List Addr} {ps : List Pc} (h : PsAt H as ps) (s : TM H H') : PsAt H' as ps := ⟨h.1, fun i a p h1 h2 => (h.2 i a p h1 h2).mono s⟩
theorem PsAt.nil {H : Hp} : PsAt H [] [] := ⟨rfl, fun i a p h => by cases h⟩
theorem PsAt.snoc {H : Hp} {as : List Addr} {ps : List Pc} {T : Addr} {p : Pc} (h : PsAt H as ps) (hT : PcAt H T p) : PsAt H (as ++ [T]) (ps ++ [p]) := by
  refine ⟨by rw [List.length_append, List.length_append, h.1]; rfl, fun i a m h1 h2 => ?_⟩
  by_cases hi : i < as.length
  · rw [List.getElem?_append_left hi] at h1
    rw [List.getElem?_append_left (by rw [← h.1]; exact hi)] at h2
    exact h.2 i a m h1 h2
  · have hi2 : i < (as ++ [T]).length := (List.getElem?_eq_some_iff.mp h1).1
    rw [List.length_append, List.length_singleton] at hi2
    have e : i = as.length := by omega
    rw [List.getElem?_append_right (by omega), e, Nat.sub_self] at h1
    rw [List.getElem?_append_right (by rw [← h.1]; omega), e, h.1, Nat.sub_self] at h2
    cases Option.some.inj h1
    cases Option.some.inj h2
    exact hT
def ScAt (H : Hp) (s : Addr) (ps : List Pc) : Prop := ∃ as : List Addr, H s = some (.tup (as.map V.ref)) ∧ PsAt H as ps
theorem ScAt.mono {H H' : Hp} {s : Addr} {ps : List Pc} (h : ScAt H s ps) (m : TM H H') : ScAt H' s ps := by
  obtain ⟨as, h1, h2⟩ := h
  exact ⟨as, m _ _ h1, h2.mono m⟩
/-- the i-th value of a script's tuple -/
theorem sc_get {as : List Addr} {ps : List Pc} {H : Hp} {i : Nat} {x : V} (h : PsAt H as ps) (hx : (as.map V.ref)[i]? = some x) : ∃ a p, x = .ref a ∧ as[i]? = some a ∧ ps[i]? = some p ∧ PcAt H a p := by
  rw [List.getElem?_map] at hx
  cases q : as[i]? with
  | none => rw [q] at hx; cases hx
  | some a =>
    rw [q] at hx
    have hi : i < ps.length := by rw [← h.1]; exact (List.getElem?_eq_some_iff.mp q).1
    exact ⟨a, ps[i], (Option.some.inj hx).symm, rfl, List.getElem?_eq_getElem hi, h.2 i a _ q (List.getElem?_eq_getElem hi)⟩
theorem put_take : decide (V.str "put" = V.str "take") = false := decide_eq_false (by intro h; injection h with h; exact absurd h (by decide +kernel))
theorem take_put : decide (V.str "take" = V.str "put") = false := decide_eq_false (by intro h; injection h with h; exact absurd h (by decide +kernel))
/-- the word of a piece, its other parts -/
theorem PcAt.word {K : PySem.W.Frag} {H : Hp} {a : Addr} {p : Pc} {Q : VK} (h : PcAt H a p) (ht : ∀ b m, p = .take b m → Q (.str "take") H) (hp : ∀ rs, p = .put rs → Q (.str "put") H) : rIx K (.ref a) (.int 0) H Q := by
  cases p with
  | take b m => exact ixT h rfl (ht b m rfl)
  | put rs => obtain ⟨r, h1, h2⟩ := h; exact ixT h1 rfl (hp rs rfl)
/-! ### forms of texts -/
def sp_is_sign (_ : PySem.W.Frag) : Sp := fun vs H Q _ => ∃ c : Nat, vs = [.str ⟨#[c]⟩] ∧ OkC c ∧ Q (.bl true) H
def sp_is_text (_ : PySem.W.Frag) : Sp := fun vs H Q _ => ∃ z : Str, vs = [.str z] ∧ OkS z ∧ ∀ H', Same H H' → Q (.bl true) H'
def sp_is_row (_ : PySem.W.Frag) : Sp := fun vs H Q _ => ∃ z : Str, vs = [.str z] ∧ OkS z ∧ ∀ H', Same H H' → Q (.bl true) H'
def sp_is_intI (_ : PySem.W.Frag) : Sp := fun vs H Q _ => ∃ i : Int, vs = [.int i] ∧ Q (.bl true) H
def sp_is_pairT (_ : PySem.W.Frag) : Sp := fun vs H Q _ => ∃ (a : Addr) (x y : V), vs = [.ref a] ∧ H a = some (.tup [x, y]) ∧ Q (.bl true) H
def sp_are_put (_ : PySem.W.Frag) : Sp := fun vs H Q _ => ∃ (a : Addr) (rs : List Str), vs = [.ref a] ∧ RwAt H a rs ∧ rs ≠ [] ∧ rs.length ≤ 1000 ∧ (∀ z ∈ rs, OkS z) ∧ ∀ H', Same H H' → Q (.bl true) H'
def sp_rows_in (_ : PySem.W.Frag) : Sp := fun vs H Q _ => ∃ (a : Addr) (p : Pc), vs = [.ref a] ∧ PcAt H a p ∧ Q (.int (p.n : Int)) H
def sp_is_piece (_ : PySem.W.Frag) : Sp := fun vs H Q _ => ∃ (a : Addr) (p : Pc), vs = [.ref a] ∧ PcAt H a p ∧ p.ok ∧ p.n ≤ 1000 ∧ ∀ H', Same H H' → Q (.bl true) H'
def sp_is_script (_ : PySem.W.Frag) : Sp := fun vs H Q _ => ∃ (a : Addr) (ps : List Pc), vs = [.ref a] ∧ ScAt H a ps ∧ ScOk ps ∧ ∀ H', Same H H' → Q (.bl true) H'
def sp_is_right_over (_ : PySem.W.Frag) : Sp := fun vs H Q _ => ∃ (B a : Addr) (bs : List Str) (ps : List Pc), vs = [.ref B, .ref a] ∧ RwAt H B bs ∧ ScAt H a ps ∧ ScOk ps ∧ (∀ p ∈ ps, p.fits bs.length) ∧ ∀ H', Same H H' → Q (.bl true) H'
def sp_refuse_wrong (_ : PySem.W.Frag) : Sp := fun vs H Q _ => ∃ (B a : Addr) (bs : List Str) (ps : List Pc), vs = [.ref B, .ref a] ∧ RwAt H B bs ∧ ScAt H a ps ∧ ScOk ps ∧ (∀ p ∈ ps, p.fits bs.length) ∧ ∀ H', Same H H' → Q .non H'
def sp_made (_ : PySem.W.Frag) : Sp := fun vs H Q _ => ∃ (B a : Addr) (bs : List Str) (ps : List Pc), vs = [.ref B, .ref a] ∧ RwAt H B bs ∧ ScAt H a ps ∧ ScOk ps ∧ (∀ p ∈ ps, p.fits bs.length) ∧ ∀ (r : Addr) (H' : Hp), Same H H' → RwAt H' r (makes bs ps) → Q (.ref r) H'
abbrev sp_done (K : PySem.W.Frag) : Sp := sp_made K
abbrev sp_l_made (K : PySem.W.Frag) : Sp := sp_made K
def sp_price (_ : PySem.W.Frag) : Sp := fun vs H Q _ => ∃ (a : Addr) (ps : List Pc) (t p : Int), vs = [.ref a, .int t, .int p] ∧ ScAt H a ps ∧ ScOk ps ∧ 0 ≤ t ∧ t ≤ 10000000 ∧ 0 ≤ p ∧ p ≤ 10000000 ∧ ∀ H', Same H H' → Q (.int (cost t p ps)) H'
def sp_l_cost (_ : PySem.W.Frag) : Sp := fun vs H Q _ => ∃ (a : Addr) (ps : List Pc) (t p : Int), vs = [.ref a, .int t, .int p] ∧ ScAt H a ps ∧ ScOk ps ∧ 0 ≤ t ∧ t ≤ 10000000 ∧ 0 ≤ p ∧ p ≤ 10000000 ∧ Q (.int (cost t p ps)) H
section
variable {K : PySem.W.Frag} {vs : List V} {H : Hp} {Q : VK} {E : XK}
theorem len_is_sign (h : sp_is_sign K vs H Q E) : vs.length = 1 := by obtain ⟨_, rfl, _⟩ := h; rfl
theorem len_is_text (h : sp_is_text K vs H Q E) : vs.length = 1 := by obtain ⟨_, rfl, _⟩ := h; rfl
theorem len_is_row (h : sp_is_row K vs H Q E) : vs.length = 1 := by obtain ⟨_, rfl, _⟩ := h; rfl
theorem len_is_intI (h : sp_is_intI K vs H Q E) : vs.length = 1 := by obtain ⟨_, rfl, _⟩ := h; rfl
theorem len_is_pairT (h : sp_is_pairT K vs H Q E) : vs.length = 1 := by obtain ⟨_, _, _, rfl, _⟩ := h; rfl
theorem len_are_put (h : sp_are_put K vs H Q E) : vs.length = 1 := by obtain ⟨_, _, rfl, _⟩ := h; rfl
theorem len_rows_in (h : sp_rows_in K vs H Q E) : vs.length = 1 := by obtain ⟨_, _, rfl, _⟩ := h; rfl
theorem len_is_piece (h : sp_is_piece K vs H Q E) : vs.length = 1 := by obtain ⟨_, _, rfl, _⟩ := h; rfl
theorem len_is_script (h : sp_is_script K vs H Q E) : vs.length = 1 := by obtain ⟨_, _, rfl, _⟩ := h; rfl
theorem len_is_right_over (h : sp_is_right_over K vs H Q E) : vs.length = 2 := by obtain ⟨_, _, _, _, rfl, _⟩ := h; rfl
theorem len_refuse_wrong (h : sp_refuse_wrong K vs H Q E) : vs.length = 2 := by obtain ⟨_, _, _, _, rfl, _⟩ := h; rfl
theorem len_made (h : sp_made K vs H Q E) : vs.length = 2 := by obtain ⟨_, _, _, _, rfl, _⟩ := h; rfl
theorem len_done (h : sp_done K vs H Q E) : vs.length = 2 := len_made h
theorem len_l_made (h : sp_l_made K vs H Q E) : vs.length = 2 := len_made h
theorem len_price (h : sp_price K vs H Q E) : vs.length = 3 := by obtain ⟨_, _, _, _, rfl, _⟩ := h; rfl
theorem len_l_cost (h : sp_l_cost K vs H Q E) : vs.length = 3 := by obtain ⟨_, _, _, _, rfl, _⟩ := h; rfl
end
abbrev N_is_int : List Str := ["thing"]
def t_is_int (K : PySem.W.Frag) : TS := (tRet (tAndV (tCB (rIsi K) (tCons (tVar 0) (tCons (tC (.ty "int")) tNil))) (tNotV (tCB (rIsi K) (tCons (tVar 0) (tCons (tC (.ty "bool")) tNil))))))
abbrev N_is_text : List Str := ["thing", "sign"]
def t_is_text (K : PySem.W.Frag) : TS := (tRet (tAndV (tCB (rIsi K) (tCons (tVar 0) (tCons (tC (.ty "str")) tNil))) (tCB (rAll K) (tCons (tLc (iStr (tVar 0)) (gName 1) tYes (tCall (sp_is_sign K) [] E0 (tCons (tVar 1) tNil)) [1]) tNil))))
abbrev N_is_sign : List Str := ["sign"]
def t_is_sign (K : PySem.W.Frag) : TS := (tRet (tAndV (tChain rLeS rLeS (tC (.str " ")) (tVar 0) (tC (.str "~"))) (tOp rNe (tCB fOrd (tCons (tVar 0) tNil)) (tC (.int 37)))))
abbrev N_is_pair : List Str := ["thing"]
def t_is_pair (K : PySem.W.Frag) : TS := (tRet (tAndV (tCB (rIsi K) (tCons (tVar 0) (tCons (tC (.ty "tuple")) tNil))) (tOp rEq (tCB (fLen K) (tCons (tVar 0) tNil)) (tC (.int 2)))))
abbrev N_is_row : List Str := ["thing"]
def t_is_row (K : PySem.W.Frag) : TS := (tRet (tAndV (tCall (sp_is_text K) [] E0 (tCons (tVar 0) tNil)) (tOp rLeI (tCB (fLen K) (tCons (tVar 0) tNil)) (tC (.int 40)))))
abbrev N_is_script : List Str := ["thing", "piece"]
def t_is_script (K : PySem.W.Frag) : TS := (tSeq (tIfS (tOr (tNot (tB (tCB (rIsi K) (tCons (tVar 0) (tCons (tC (.ty "tuple")) tNil))))) (tNot (tB (tCB (rAll K) (tCons (tLc (iTup K (tVar 0)) (gName 1) tYes (tCall (sp_is_piece K) [] E0 (tCons (tVar 1) tNil)) [1]) tNil))))) (tRet (tC (.bl false))) tNext)
    (tRet (tOp rLeI (tCB (rSum K) (tCons (tLc (iTup K (tVar 0)) (gName 1) tYes (tCall (sp_rows_in K) [] E0 (tCons (tVar 1) tNil)) [1]) tNil)) (tC (.int 40)))))
abbrev N_is_piece : List Str := ["thing"]
def t_is_piece (K : PySem.W.Frag) : TS := (tSeq (tIfS (tOr (tNot (tB (tCB (rIsi K) (tCons (tVar 0) (tCons (tC (.ty "tuple")) tNil))))) (tTest (tOp rEq (tCB (fLen K) (tCons (tVar 0) tNil)) (tC (.int 0))))) (tRet (tC (.bl false))) tNext)
    (tSeq (tIfS (tTest (tOp rEq (tOp (rIx K) (tVar 0) (tC (.int 0))) (tC (.str "take")))) (tRet (tAndV (tOp rEq (tCB (fLen K) (tCons (tVar 0) tNil)) (tC (.int 3))) (tAndV (tCall (sp_is_intI K) [] E0 (tCons (tOp (rIx K) (tVar 0) (tC (.int 1))) tNil)) (tAndV (tCall (sp_is_intI K) [] E0 (tCons (tOp (rIx K) (tVar 0) (tC (.int 2))) tNil)) (tAndV (tOp rGeI (tOp (rIx K) (tVar 0) (tC (.int 1))) (tC (.int 0))) (tOp rGeI (tOp (rIx K) (tVar 0) (tC (.int 2))) (tC (.int 1)))))))) tNext)
    (tRet (tAndV (tOp rEq (tOp (rIx K) (tVar 0) (tC (.int 0))) (tC (.str "put"))) (tAndV (tCall (sp_is_pairT K) [] E0 (tCons (tVar 0) tNil)) (tCall (sp_are_put K) [] E0 (tCons (tOp (rIx K) (tVar 0) (tC (.int 1))) tNil)))))))
abbrev N_are_put : List Str := ["thing", "row"]
def t_are_put (K : PySem.W.Frag) : TS := (tRet (tAndV (tCB (rIsi K) (tCons (tVar 0) (tCons (tC (.ty "tuple")) tNil))) (tAndV (tOp rGtI (tCB (fLen K) (tCons (tVar 0) tNil)) (tC (.int 0))) (tCB (rAll K) (tCons (tLc (iTup K (tVar 0)) (gName 1) tYes (tCall (sp_is_row K) [] E0 (tCons (tVar 1) tNil)) [1]) tNil)))))
abbrev N_rows_in : List Str := ["piece"]
def t_rows_in (K : PySem.W.Frag) : TS := (tRet (tIf (tTest (tOp rEq (tOp (rIx K) (tVar 0) (tC (.int 0))) (tC (.str "put")))) (tCB (fLen K) (tCons (tOp (rIx K) (tVar 0) (tC (.int 1))) tNil)) (tOp (rIx K) (tVar 0) (tC (.int 2)))))
abbrev N_is_right_over : List Str := ["base", "thing", "piece"]
def t_is_right_over (K : PySem.W.Frag) : TS := (tSeq (tIfS (tNot (tB (tCall (sp_is_script K) [] E0 (tCons (tVar 1) tNil)))) (tRet (tC (.bl false))) tNext)
    (tRet (tCB (rAll K) (tCons (tLc (iTup K (tVar 1)) (gName 2) tYes (tOrV (tOp rEq (tOp (rIx K) (tVar 2) (tC (.int 0))) (tC (.str "put"))) (tOp rLeI (tOp rAddI (tOp (rIx K) (tVar 2) (tC (.int 1))) (tOp (rIx K) (tVar 2) (tC (.int 2)))) (tCB (fLen K) (tCons (tVar 0) tNil)))) [2]) tNil))))
abbrev N_refuse_wrong : List Str := ["base", "thing"]
def t_refuse_wrong (K : PySem.W.Frag) : TS := (tIfS (tNot (tB (tCall (sp_is_right_over K) [] E0 (tCons (tVar 0) (tCons (tVar 1) tNil))))) tNever tNext)
abbrev N_done : List Str := ["base", "script"]
def t_done (K : PySem.W.Frag) : TS := (tSeq (tDrop (tCall (sp_refuse_wrong K) [] E0 (tCons (tVar 0) (tCons (tVar 1) tNil))))
    (tRet (tCall (sp_made K) [] E0 (tCons (tVar 0) (tCons (tVar 1) tNil)))))
abbrev N_made : List Str := ["base", "script", "rows", "piece"]
def t_made (K : PySem.W.Frag) : TS := (tSeq (tAsg (tLst tNil) (gName 2))
    (tSeq (tFor (iTup K (tVar 1)) (gName 3) (tDrop (tBM K "list" (rExtendA K) (tVar 2) (tCons (tIf (tTest (tOp rEq (tOp (rIx K) (tVar 3) (tC (.int 0))) (tC (.str "put")))) (tOp (rIx K) (tVar 3) (tC (.int 1))) (tSl (rSlA K) (tVar 0) (tPart (tOp (rIx K) (tVar 3) (tC (.int 1)))) (tPart (tOp rAddI (tOp (rIx K) (tVar 3) (tC (.int 1))) (tOp (rIx K) (tVar 3) (tC (.int 2))))))) tNil))))
    (tRet (tCB (fTupleOf K) (tCons (tVar 2) tNil)))))
abbrev N_price : List Str := ["script", "take", "put", "piece"]
def t_price (K : PySem.W.Frag) : TS := (tSeq (tIfS (tNot (tB (tCall (sp_is_script K) [] E0 (tCons (tVar 0) tNil)))) tNever tNext)
    (tRet (tCB (rSum K) (tCons (tLc (iTup K (tVar 0)) (gName 3) tYes (tIf (tTest (tOp rEq (tOp (rIx K) (tVar 3) (tC (.int 0))) (tC (.str "put")))) (tOp rMulI (tVar 2) (tCall (sp_rows_in K) [] E0 (tCons (tVar 3) tNil))) (tVar 1)) [3]) tNil))))
abbrev N_l_made : List Str := ["_law_base", "_law_pieces", "_law_made_here", "_law_piece", "_law_k", "_law_line"]
def t_l_made (K : PySem.W.Frag) : TS := (tSeq (tAsg (tLst tNil) (gName 2))
    (tSeq (tFor (iTup K (tVar 1)) (gName 3) (tIfS (tTest (tOp rEq (tOp (rIx K) (tVar 3) (tC (.int 0))) (tC (.str "take")))) (tFor (iRng1 (tCons (tOp (rIx K) (tVar 3) (tC (.int 2))) tNil)) (gName 4) (tDrop (tBM K "list" rAppend (tVar 2) (tCons (tOp (rIx K) (tVar 0) (tOp rAddI (tOp (rIx K) (tVar 3) (tC (.int 1))) (tVar 4))) tNil)))) (tFor (iTup K (tOp (rIx K) (tVar 3) (tC (.int 1)))) (gName 5) (tDrop (tBM K "list" rAppend (tVar 2) (tCons (tVar 5) tNil))))))
    (tRet (tCB (fTupleOf K) (tCons (tVar 2) tNil)))))
abbrev N_l_cost : List Str := ["_law_pieces", "_law_by_take", "_law_by_put", "_law_total", "_law_piece"]
def t_l_cost (K : PySem.W.Frag) : TS := (tSeq (tAsg (tC (.int 0)) (gName 3))
    (tSeq (tFor (iTup K (tVar 0)) (gName 4) (tIfS (tTest (tOp rEq (tOp (rIx K) (tVar 4) (tC (.int 0))) (tC (.str "take")))) (tAsg (tOp rAddI (tVar 3) (tVar 1)) (gName 3)) (tAsg (tOp rAddI (tVar 3) (tOp rMulI (tVar 2) (tCB (fLen K) (tCons (tOp (rIx K) (tVar 4) (tC (.int 1))) tNil)))) (gName 3))))
    (tRet (tVar 3))))
theorem blT {p : Prop} [Decidable p] {Q : VK} {H : Hp} (h : p) (q : Q (.bl true) H) : Q (.bl (decide p)) H := by rw [decide_eq_true h]; exact q
theorem blF {p : Prop} [Decidable p] {Q : VK} {H : Hp} (h : ¬ p) (q : Q (.bl false) H) : Q (.bl (decide p)) H := by rw [decide_eq_false h]; exact q
theorem rep_get {n i : Nat} {y : V} {x : V} (h : (List.replicate n x)[i]? = some y) : y = x := by
  obtain ⟨_, e⟩ := List.getElem?_eq_some_iff.mp h
  rw [← e, List.getElem_replicate]
theorem all_rep (n : Nat) : (List.replicate n true).all id = true := by
  rw [List.all_eq_true]
  intro x hx
  rw [List.eq_of_mem_replicate hx]
  rfl
theorem yStr {z : Str} : ∀ (i : Nat) (H : Hp) (x : V) (H' : Hp), (H' = H ∧ ∃ c, z.cps[i]? = some c ∧ x = .str ⟨#[c]⟩) → H' = H := fun _ _ _ _ h => h.1
theorem yAt {xs : List V} : ∀ (i : Nat) (H : Hp) (x : V) (H' : Hp), YAt xs i H x H' → H' = H := fun _ _ _ _ h => h.1
theorem yFn {f : Nat → V} : ∀ (i : Nat) (H : Hp) (x : V) (H' : Hp), YFn f i H x H' → H' = H := fun _ _ _ _ h => h.1
theorem blank_le {c : Nat} (h : 32 ≤ c) : (!decide ((⟨#[c]⟩ : Str).cps.toList < (" " : Str).cps.toList)) = true := by
  have e : (" " : Str).cps.toList = [32] := by decide +kernel
  rw [e]
  show (!decide ([c] < [32])) = true
  rw [decide_eq_false]
  · rfl
  · intro h2
    rcases List.cons_lt_cons_iff.mp h2 with h3 | h3
    · omega
    · exact absurd h3.2 (by decide)
theorem le_tilde {c : Nat} (h : c ≤ 126) : (!decide (("~" : Str).cps.toList < (⟨#[c]⟩ : Str).cps.toList)) = true := by
  have e : ("~" : Str).cps.toList = [126] := by decide +kernel
  rw [e]
  show (!decide ([126] < [c])) = true
  rw [decide_eq_false]
  · rfl
  · intro h2
    rcases List.cons_lt_cons_iff.mp h2 with h3 | h3
    · omega
    · exact absurd h3.2 (by decide)
section
variable {K : PySem.W.Frag} {vs : List V} {H : Hp} {Q : VK} {E : XK}
theorem pure_is_intI (h : sp_is_intI K vs H Q E) : t_is_int K { nx := fun _ H' => Q .non H', rt := Q } (start N_is_int vs) H := by
  obtain ⟨i, rfl, k⟩ := h
  exact ⟨_, rfl, isi (.base (.int i)) k_ii ⟨_, rfl, iteT ⟨_, rfl, isi (.base (.int i)) k_ib ⟨_, rfl, k⟩⟩⟩⟩
theorem pure_is_pairT (h : sp_is_pairT K vs H Q E) : t_is_pair K { nx := fun _ H' => Q .non H', rt := Q } (start N_is_pair vs) H := by
  obtain ⟨a, x, y, rfl, ha, k⟩ := h
  exact ⟨_, rfl, isi (.base (.tup ha)) k_tt ⟨_, rfl, iteT ⟨_, rfl, lenT ha ⟨rfl, k⟩⟩⟩⟩
theorem pure_is_sign (h : sp_is_sign K vs H Q E) : t_is_sign K { nx := fun _ H' => Q .non H', rt := Q } (start N_is_sign vs) H := by
  obtain ⟨c, rfl, ⟨h1, h2, h3⟩, k⟩ := h
  refine ⟨_, rfl, _, _, rfl, rfl, _, rfl, ?_⟩
  rw [blank_le h1]
  refine iteT ⟨_, _, rfl, rfl, _, rfl, ?_⟩
  rw [le_tilde h2]
  refine iteT ⟨_, rfl, _, rfl, rfl, rfl, ?_⟩
  have e : decide (V.int (((⟨#[c]⟩ : Str).cps.getD 0 0 : Nat) : Int) = V.int 37) = false := decide_eq_false (by
    intro h
    injection h with h
    have h : (c : Int) = 37 := h
    omega)
  rw [e]
  exact k
theorem pure_is_text (h : sp_is_text K vs H Q E) : t_is_text K { nx := fun _ H' => Q .non H', rt := Q } (start N_is_text vs) H := by
  obtain ⟨z, rfl, ⟨h1, h2⟩, k⟩ := h
  refine ⟨_, rfl, isi (.base (.str z)) k_ss ⟨_, rfl, iteT ⟨_, rfl, z, rfl, fun L nL => ?_⟩⟩⟩
  refine lc_grow walk_str yStr (ys := List.replicate z.cps.size (.bl true)) nL List.length_replicate (by omega) (fun _ _ => True.intro) ?_ ?_
  · rintro i x y H' R hi ⟨_, c, hc, rfl⟩ hy s r
    refine ⟨rfl, ⟨_, rfl, c, rfl, ?_, ?_⟩⟩
    · exact h2 c (by obtain ⟨q1, q2⟩ := Array.getElem?_eq_some_iff.mp hc; rw [← q2]; exact Array.getElem_mem_toList q1)
    · rw [← rep_get hy]
      exact r _ (Same.refl _)
  · intro H' s hL
    refine ⟨L, List.replicate z.cps.size true, rfl, sqL (by rw [hL, List.map_replicate]), ?_⟩
    rw [all_rep]
    exact k _ s
theorem pure_is_row (h : sp_is_row K vs H Q E) : t_is_row K { nx := fun _ H' => Q .non H', rt := Q } (start N_is_row vs) H := by
  obtain ⟨z, rfl, o, k⟩ := h
  refine ⟨_, rfl, z, rfl, o, fun H' s => ⟨_, rfl, iteT ⟨_, rfl, lenS (Nat.le_trans o.1 (by decide)) ⟨_, _, rfl, rfl, ?_⟩⟩⟩⟩
  exact blT (Q := Q) (show ((z.length : Nat) : Int) ≤ 40 by have := o.1; show ((z.cps.size : Nat) : Int) ≤ 40; omega) (k _ s)
theorem pure_are_put (h : sp_are_put K vs H Q E) : t_are_put K { nx := fun _ H' => Q .non H', rt := Q } (start N_are_put vs) H := by
  obtain ⟨a, rs, rfl, ha, h0, hz, ho, k⟩ := h
  refine ⟨_, rfl, isi (.base (.tup ha)) k_tt ⟨_, rfl, iteT ⟨_, rfl, lenT ha ⟨_, _, rfl, rfl, _, rfl, ?_⟩⟩⟩⟩
  have hl : 0 < rs.length := List.length_pos_iff.mpr h0
  rw [decide_eq_true (show (0 : Int) < ((rs.map V.str).length : Int) by rw [List.length_map]; omega)]
  refine iteT ⟨_, rfl, a, rfl, ⟨_, sqT ha⟩, fun L nL => ?_⟩
  refine lc_grow (walk_tup (xs := rs.map V.str)) yAt (ys := List.replicate (rs.map V.str).length (.bl true)) nL List.length_replicate (by rw [List.length_map]; omega) (fun H' s => sqT (s _ _ ha)) ?_ ?_
  · rintro i x y H' R hi ⟨_, hx⟩ hy s r
    rw [List.getElem?_map] at hx
    cases q : rs[i]? with
    | none => rw [q] at hx; cases hx
    | some z =>
      rw [q] at hx
      cases Option.some.inj hx
      refine ⟨rfl, ⟨_, rfl, z, rfl, ho z (List.mem_of_getElem? q), ?_⟩⟩
      rw [rep_get hy] at r
      exact r
  · intro H' s hL
    refine ⟨L, List.replicate (rs.map V.str).length true, rfl, sqL (by rw [hL, List.map_replicate]), ?_⟩
    rw [all_rep]
    exact k _ s
theorem pure_rows_in (h : sp_rows_in K vs H Q E) : t_rows_in K { nx := fun _ H' => Q .non H', rt := Q } (start N_rows_in vs) H := by
  obtain ⟨a, p, rfl, ha, k⟩ := h
  cases p with
  | take b m =>
    refine ⟨_, rfl, ixT ha rfl ⟨rfl, _, rfl, ?_⟩⟩
    rw [take_put]
    exact iteF ⟨_, rfl, ixT ha rfl k⟩
  | put rs =>
    obtain ⟨r, h1, h2⟩ := ha
    refine ⟨_, rfl, ixT h1 rfl ⟨rfl, _, rfl, ?_⟩⟩
    rw [decide_eq_true rfl]
    refine iteT ⟨_, rfl, ixT h1 rfl (lenT h2 ?_)⟩
    rw [List.length_map]
    exact k
theorem pure_is_piece (h : sp_is_piece K vs H Q E) : t_is_piece K { nx := fun _ H' => Q .non H', rt := Q } (start N_is_piece vs) H := by
  obtain ⟨a, p, rfl, ha, ok, hz, k⟩ := h
  cases p with
  | take b m =>
    have ok : 1 ≤ m := ok
    refine ⟨_, rfl, isi (.base (.tup ha)) k_tt ⟨_, rfl, iteF ⟨_, rfl, lenT ha ⟨rfl, _, rfl, ?_⟩⟩⟩⟩
    refine iteF ⟨_, rfl, ixT ha rfl ⟨rfl, _, rfl, ?_⟩⟩
    rw [decide_eq_true rfl]
    refine iteT ⟨_, rfl, lenT ha ⟨rfl, _, rfl, iteT ?_⟩⟩
    refine ⟨_, rfl, ixT ha rfl ⟨_, rfl, _, rfl, iteT ⟨_, rfl, ixT ha rfl ⟨_, rfl, _, rfl, iteT ?_⟩⟩⟩⟩
    refine ⟨_, rfl, ixT ha rfl ⟨_, _, rfl, rfl, _, rfl, ?_⟩⟩
    rw [decide_eq_true (show (0 : Int) ≤ (b : Int) by omega)]
    refine iteT ⟨_, rfl, ixT ha rfl ⟨_, _, rfl, rfl, ?_⟩⟩
    exact blT (Q := Q) (show (1 : Int) ≤ (m : Int) by omega) (k _ (Same.refl _))
  | put rs =>
    obtain ⟨r, h1, h2⟩ := ha
    refine ⟨_, rfl, isi (.base (.tup h1)) k_tt ⟨_, rfl, iteF ⟨_, rfl, lenT h1 ⟨rfl, _, rfl, ?_⟩⟩⟩⟩
    refine iteF ⟨_, rfl, ixT h1 rfl ⟨rfl, _, rfl, ?_⟩⟩
    rw [put_take]
    refine iteF ⟨_, rfl, ixT h1 rfl ⟨rfl, _, rfl, ?_⟩⟩
    rw [decide_eq_true rfl]
    refine iteT ⟨_, rfl, a, _, _, rfl, h1, _, rfl, iteT ⟨_, rfl, ixT h1 rfl ⟨r, rs, rfl, h2, ok.1, hz, ok.2, k⟩⟩⟩
theorem pure_is_script (h : sp_is_script K vs H Q E) : t_is_script K { nx := fun _ H' => Q .non H', rt := Q } (start N_is_script vs) H := by
  obtain ⟨a, ps, rfl, ⟨as, ha, hp⟩, ok, k⟩ := h
  have hl : (as.map V.ref).length = ps.length := by rw [List.length_map, hp.1]
  have hz := ok.len
  refine ⟨_, rfl, isi (.base (.tup ha)) k_tt ⟨_, rfl, iteF ⟨_, rfl, a, rfl, ⟨_, sqT ha⟩, fun L nL => ?_⟩⟩⟩
  refine lc_grow (walk_tup (xs := as.map V.ref)) yAt (ys := List.replicate (as.map V.ref).length (.bl true)) nL List.length_replicate (by omega) (fun H' s => sqT (s _ _ ha)) ?_ ?_
  · rintro i x y H' R hi ⟨_, hx⟩ hy s r
    obtain ⟨b, p, rfl, h1, h2, h3⟩ := sc_get (hp.mono (.of s)) hx
    refine ⟨rfl, ⟨_, rfl, b, p, rfl, h3, ok.ok p (List.mem_of_getElem? h2), ?_, ?_⟩⟩
    · have := n_le_total (List.mem_of_getElem? h2)
      have := ok.few
      omega
    · rw [rep_get hy] at r
      exact r
  · intro H1 s1 hL
    refine ⟨L, List.replicate (as.map V.ref).length true, rfl, sqL (by rw [hL, List.map_replicate]), ?_⟩
    rw [all_rep]
    refine ⟨_, rfl, iteF ⟨_, rfl, a, rfl, ⟨_, sqT (s1 _ _ ha)⟩, fun L2 nL2 => ?_⟩⟩
    refine lc_grow (walk_tup (xs := as.map V.ref)) yAt (ys := (ps.map fun p => (p.n : Int)).map V.int) nL2 (by rw [List.length_map, List.length_map, hl]) (by omega) (fun H' s => sqT (s _ _ (s1 _ _ ha))) ?_ ?_
    · rintro i x y H' R hi ⟨_, hx⟩ hy s r
      obtain ⟨b, p, rfl, h1, h2, h3⟩ := sc_get (hp.mono (.of (s1.trans s))) hx
      rw [List.getElem?_map, List.getElem?_map, h2] at hy
      cases Option.some.inj hy
      exact ⟨rfl, ⟨_, rfl, b, p, rfl, h3, r _ (Same.refl _)⟩⟩
    · intro H2 s2 hL2
      refine ⟨L2, _, rfl, sqL hL2, _, _, rfl, rfl, ?_⟩
      have e : (ps.map fun p => (p.n : Int)).sum = ((total ps : Nat) : Int) := by
        unfold total
        clear hp ha hl hz k ok s1 s2 hL hL2
        induction ps with
        | nil => rfl
        | cons p ps ih =>
          rw [List.map_cons, List.map_cons, List.sum_cons, List.sum_cons, ih]
          omega
      rw [e]
      exact blT (Q := Q) (show ((total ps : Nat) : Int) ≤ 40 by have := ok.few; omega) (k _ (s1.trans s2))
theorem pure_is_right_over (h : sp_is_right_over K vs H Q E) : t_is_right_over K { nx := fun _ H' => Q .non H', rt := Q } (start N_is_right_over vs) H := by
  obtain ⟨B, a, bs, ps, rfl, hB, sc, ok, fit, k⟩ := h
  refine ⟨_, rfl, a, ps, rfl, sc, ok, fun H1 s1 => ⟨_, rfl, iteF ?_⟩⟩
  obtain ⟨as, ha, hp⟩ := sc.mono (.of s1)
  have hB1 : H1 B = some (.tup (bs.map V.str)) := s1 _ _ hB
  have hl : (as.map V.ref).length = ps.length := by rw [List.length_map, hp.1]
  have hz := ok.len
  refine ⟨_, rfl, a, rfl, ⟨_, sqT ha⟩, fun L nL => ?_⟩
  refine lc_grow (walk_tup (xs := as.map V.ref)) yAt (ys := List.replicate (as.map V.ref).length (.bl true)) nL List.length_replicate (by omega) (fun H' s => sqT (s _ _ ha)) ?_ ?_
  · rintro i x y H' R hi ⟨_, hx⟩ hy s r
    obtain ⟨b, p, rfl, h1, h2, h3⟩ := sc_get (hp.mono (.of s)) hx
    have f := fit p (List.mem_of_getElem? h2)
    rw [rep_get hy] at r
    refine ⟨rfl, ?_⟩
    cases p with
    | take c m =>
      have f : c + m ≤ bs.length := f
      refine ⟨_, rfl, ixT h3 rfl ⟨rfl, _, rfl, ?_⟩⟩
      rw [take_put]
      refine iteF ⟨_, rfl, ixT h3 rfl ⟨_, rfl, ixT h3 rfl ⟨_, _, rfl, rfl, _, rfl, lenT (s _ _ hB1) ⟨_, _, rfl, rfl, ?_⟩⟩⟩⟩
      exact blT (Q := R) (show (c : Int) + (m : Int) ≤ ((bs.map V.str).length : Int) by rw [List.length_map]; omega) (r _ (Same.refl _))
    | put rs =>
      obtain ⟨q, h4, h5⟩ := h3
      refine ⟨_, rfl, ixT h4 rfl ⟨rfl, _, rfl, ?_⟩⟩
      rw [decide_eq_true rfl]
      exact iteT (r _ (Same.refl _))
  · intro H2 s2 hL
    refine ⟨L, List.replicate (as.map V.ref).length true, rfl, sqL (by rw [hL, List.map_replicate]), ?_⟩
    rw [all_rep]
    exact k _ (s1.trans s2)
theorem pure_refuse_wrong (h : sp_refuse_wrong K vs H Q E) : t_refuse_wrong K { nx := fun _ H' => Q .non H', rt := Q } (start N_refuse_wrong vs) H := by
  obtain ⟨B, a, bs, ps, rfl, hB, sc, ok, fit, k⟩ := h
  exact ⟨_, rfl, _, rfl, B, a, bs, ps, rfl, hB, sc, ok, fit, fun H1 s1 => ⟨_, rfl, iteF (k _ s1)⟩⟩
theorem pure_done (h : sp_done K vs H Q E) : t_done K { nx := fun _ H' => Q .non H', rt := Q } (start N_done vs) H := by
  obtain ⟨B, a, bs, ps, rfl, hB, sc, ok, fit, k⟩ := h
  refine ⟨_, rfl, _, rfl, B, a, bs, ps, rfl, hB, sc, ok, fit, fun H1 s1 => ?_⟩
  exact ⟨_, rfl, _, rfl, B, a, bs, ps, rfl, s1 _ _ hB, sc.mono (.of s1), ok, fit, fun r H2 s2 => k r H2 (s1.trans s2)⟩
theorem total_take_le {ps : List Pc} (i : Nat) : total (ps.take i) ≤ total ps := by
  have e : total ps = total (ps.take i) + total (ps.drop i) := by
    unfold total
    rw [← List.sum_append, ← List.map_append, List.take_append_drop]
  omega
theorem makes_snoc {bs : List Str} {ps : List Pc} {p : Pc} {i : Nat} (h : ps[i]? = some p) : makes bs (ps.take (i + 1)) = makes bs (ps.take i) ++ p.mk bs := by
  unfold makes
  rw [List.take_add_one, h, List.map_append, List.flatten_append]
  show _ ++ (p.mk bs ++ []) = _
  rw [List.append_nil]
theorem fits_take {ps : List Pc} {L : Nat} (fit : ∀ p ∈ ps, p.fits L) (i : Nat) : ∀ p ∈ ps.take i, p.fits L := fun p hp => fit p (List.mem_of_mem_take hp)
/-- a stretch of a tuple of texts, as a slice tells it -/
theorem slA {B : Addr} {bs : List Str} {b m : Nat} (hB : H B = some (.tup (bs.map V.str))) (f : b + m ≤ bs.length) (q : ∀ (r : Addr) (H' : Hp), Same H H' → RwAt H' r ((bs.drop b).take m) → Q (.ref r) H') : rSlA K (.ref B) (some (b : Int)) (some ((b : Int) + (m : Int))) H Q := by
  have e1 : HT.sIx (bs.map V.str).length 0 (some (b : Int)) = b := by rw [HT.sIx_nat, List.length_map]; omega
  have e2 : HT.sIx (bs.map V.str).length (bs.map V.str).length (some ((b : Int) + (m : Int))) = b + m := by
    rw [show ((b : Int) + (m : Int)) = ((b + m : Nat) : Int) by omega, HT.sIx_nat, List.length_map]
    omega
  refine ⟨B, _, rfl, sqT hB, fun e => ?_, fun e r nr => ?_⟩
  · rw [e1, e2, List.length_map] at e
    obtain ⟨rfl, e⟩ := e
    refine q B H (Same.refl _) ?_
    show H B = _
    rw [hB, List.drop_zero, List.take_of_length_le (by omega)]
  · refine q r _ (Same.upd nr) ?_
    show upd H r _ r = _
    rw [updS]
    unfold cutV
    rw [e1, e2, Nat.add_sub_cancel_left, ← List.map_drop, ← List.map_take]
theorem pure_made (h : sp_made K vs H Q E) : t_made K { nx := fun _ H' => Q .non H', rt := Q } (start N_made vs) H := by
  obtain ⟨B, a, bs, ps, rfl, hB, ⟨as, ha, hp⟩, ok, fit, k⟩ := h
  refine ⟨Nat.zero_le _, fun L nL => ⟨_, rfl, a, rfl, ⟨_, sqT (updN (ne_of_none ha nL) ha)⟩, ?_⟩⟩
  refine for_tup (K := K) (a := a) (xs := as.map V.ref) (fun i σ H' => Same H H' ∧ H' L = some (.lst ((makes bs (ps.take i)).map V.str)) ∧ ∃ z, σ = [some (.ref B), some (.ref a), some (.ref L), z]) ⟨Same.upd nL, updS, none, rfl⟩ (fun i σ H' _ p => sqT (p.1 _ _ ha)) ?_ ?_
  · rintro i x σ H' hx ⟨s, hL, z, rfl⟩
    obtain ⟨c, p, rfl, h1, h2, h3⟩ := sc_get (hp.mono (.of s)) hx
    have f := fit p (List.mem_of_getElem? h2)
    have ok1 := ok.few
    have l1 := makes_len (bs := bs) (fits_take fit i)
    have l2 := total_take_le (ps := ps) i
    have l3 := mk_len f
    have l4 := n_le_total (List.mem_of_getElem? h2)
    have go : ∀ (r : Addr) (H2 : Hp), Same H' H2 → RwAt H2 r (p.mk bs) → rExtendA K (.ref L) [.ref r] H2 fun _ H3 => Same H H3 ∧ H3 L = some (.lst ((makes bs (ps.take (i + 1))).map V.str)) ∧ ∃ z, ([some (.ref B), some (.ref a), some (.ref L), some (.ref c)] : L2.St) = [some (.ref B), some (.ref a), some (.ref L), z] := by
      intro r H2 s2 hr
      refine ⟨L, r, _, _, rfl, rfl, s2 _ _ hL, .inr hr, by rw [List.length_map, List.length_map]; omega, Same.updI (s.trans s2) nL, ?_, _, rfl⟩
      rw [updS, makes_snoc h2, List.map_append]
    refine ⟨_, rfl, .inl ⟨rfl, _, sqL hL⟩, ?_⟩
    cases p with
    | take b m =>
      refine ⟨_, rfl, ixT h3 rfl ⟨rfl, _, rfl, ?_⟩⟩
      rw [take_put]
      refine iteF ⟨_, rfl, _, rfl, ixT h3 rfl ⟨_, rfl, _, rfl, ixT h3 rfl ⟨_, rfl, ixT h3 rfl ⟨_, _, rfl, rfl, _, rfl, ?_⟩⟩⟩⟩
      exact slA (s _ _ hB) f go
    | put rs =>
      obtain ⟨q, h4, h5⟩ := h3
      refine ⟨_, rfl, ixT h4 rfl ⟨rfl, _, rfl, ?_⟩⟩
      rw [decide_eq_true rfl]
      refine iteT ⟨_, rfl, ixT h4 rfl ?_⟩
      exact go q _ (Same.refl _) h5
  · rintro σ H' ⟨s, hL, z, rfl⟩
    rw [List.length_map, hp.1, List.take_of_length_le (Nat.le_refl _)] at hL
    exact ⟨_, rfl, L, _, rfl, .inl ⟨sqL hL, fun r nr => k r _ (s.trans (Same.upd nr)) updS⟩⟩
theorem pure_price (h : sp_price K vs H Q E) : t_price K { nx := fun _ H' => Q .non H', rt := Q } (start N_price vs) H := by
  obtain ⟨a, ps, t, p, rfl, sc, ok, t0, t1, p0, p1, k⟩ := h
  refine ⟨_, rfl, a, ps, rfl, sc, ok, fun H1 s1 => ⟨_, rfl, iteF ?_⟩⟩
  obtain ⟨as, ha, hp⟩ := sc.mono (.of s1)
  have hl : (as.map V.ref).length = ps.length := by rw [List.length_map, hp.1]
  have hz := ok.len
  refine ⟨_, rfl, a, rfl, ⟨_, sqT ha⟩, fun L nL => ?_⟩
  refine lc_grow (walk_tup (xs := as.map V.ref)) yAt (ys := (ps.map (Pc.cost t p)).map V.int) nL (by rw [List.length_map, List.length_map, hl]) (by omega) (fun H' s => sqT (s _ _ ha)) ?_ ?_
  · rintro i x y H' R hi ⟨_, hx⟩ hy s r
    obtain ⟨b, q, rfl, h1, h2, h3⟩ := sc_get (hp.mono (.of s)) hx
    rw [List.getElem?_map, List.getElem?_map, h2] at hy
    cases Option.some.inj hy
    refine ⟨rfl, ?_⟩
    cases q with
    | take c m =>
      refine ⟨_, rfl, ixT h3 rfl ⟨rfl, _, rfl, ?_⟩⟩
      rw [take_put]
      exact iteF ⟨_, rfl, r _ (Same.refl _)⟩
    | put rs =>
      have h30 := h3
      obtain ⟨q, h4, h5⟩ := h3
      refine ⟨_, rfl, ixT h4 rfl ⟨rfl, _, rfl, ?_⟩⟩
      rw [decide_eq_true rfl]
      exact iteT ⟨_, rfl, _, rfl, b, .put rs, rfl, h30, _, _, rfl, rfl, .inl ⟨by omega, by omega⟩, r _ (Same.refl _)⟩
  · intro H2 s2 hL
    exact ⟨L, _, rfl, sqL hL, k _ (s1.trans s2)⟩
theorem cost_snoc {t p : Int} {ps : List Pc} {q : Pc} {i : Nat} (h : ps[i]? = some q) : cost t p (ps.take (i + 1)) = cost t p (ps.take i) + q.cost t p := by
  unfold cost
  rw [List.take_add_one, h, List.map_append, List.sum_append]
  show _ + (q.cost t p + 0) = _
  omega
theorem pure_l_cost (h : sp_l_cost K vs H Q E) : t_l_cost K { nx := fun _ H' => Q .non H', rt := Q } (start N_l_cost vs) H := by
  obtain ⟨a, ps, t, p, rfl, ⟨as, ha, hp⟩, ok, t0, t1, p0, p1, k⟩ := h
  refine ⟨_, rfl, a, rfl, ⟨_, sqT ha⟩, ?_⟩
  refine for_tup (K := K) (a := a) (xs := as.map V.ref) (fun i σ H' => H' = H ∧ ∃ z, σ = [some (.ref a), some (.int t), some (.int p), some (.int (cost t p (ps.take i))), z]) ⟨rfl, none, rfl⟩ (fun i σ H' _ p => by rw [p.1]; exact sqT ha) ?_ ?_
  · rintro i x σ H' hx ⟨rfl, z, rfl⟩
    obtain ⟨b, q, rfl, h1, h2, h3⟩ := sc_get hp hx
    cases q with
    | take c m =>
      refine ⟨_, rfl, ixT h3 rfl ⟨rfl, _, rfl, ?_⟩⟩
      rw [decide_eq_true rfl]
      refine iteT ⟨_, rfl, _, rfl, _, _, rfl, rfl, rfl, some (.ref b), ?_⟩
      rw [cost_snoc h2]
      rfl
    | put rs =>
      obtain ⟨q, h4, h5⟩ := h3
      refine ⟨_, rfl, ixT h4 rfl ⟨rfl, _, rfl, ?_⟩⟩
      rw [put_take]
      refine iteF ⟨_, rfl, _, rfl, _, rfl, ixT h4 rfl (lenT h5 ⟨_, _, rfl, rfl, .inl ⟨by omega, by omega⟩, _, _, rfl, rfl, rfl, some (.ref b), ?_⟩)⟩
      rw [cost_snoc h2, List.length_map]
      rfl
  · rintro σ H' ⟨rfl, z, rfl⟩
    rw [List.length_map, hp.1, List.take_of_length_le (Nat.le_refl _)]
    exact ⟨_, rfl, k⟩
theorem pure_l_made (h : sp_l_made K vs H Q E) : t_l_made K { nx := fun _ H' => Q .non H', rt := Q } (start N_l_made vs) H := by
  obtain ⟨B, a, bs, ps, rfl, hB, ⟨as, ha, hp⟩, ok, fit, k⟩ := h
  refine ⟨Nat.zero_le _, fun L nL => ⟨_, rfl, a, rfl, ⟨_, sqT (updN (ne_of_none ha nL) ha)⟩, ?_⟩⟩
  refine for_tup (K := K) (a := a) (xs := as.map V.ref) (fun i σ H' => Same H H' ∧ H' L = some (.lst ((makes bs (ps.take i)).map V.str)) ∧ ∃ z3 z4 z5, σ = [some (.ref B), some (.ref a), some (.ref L), z3, z4, z5]) ⟨Same.upd nL, updS, none, none, none, rfl⟩ (fun i σ H' _ p => sqT (p.1 _ _ ha)) ?_ ?_
  · rintro i x σ H' hx ⟨s, hL, z3, z4, z5, rfl⟩
    obtain ⟨c, p, rfl, h1, h2, h3⟩ := sc_get (hp.mono (.of s)) hx
    have f := fit p (List.mem_of_getElem? h2)
    have ok1 := ok.few
    have l1 := makes_len (bs := bs) (fits_take fit i)
    have l2 := total_take_le (ps := ps) i
    have l3 := mk_len f
    have l4 := n_le_total (List.mem_of_getElem? h2)
    have nLm : ∀ (H2 : Hp) (ws : List V), Same H H2 → Same H (upd H2 L (.lst ws)) := fun H2 ws s2 => Same.updI s2 nL
    cases p with
    | take b m =>
      have f : b + m ≤ bs.length := f
      have l4 : m ≤ total ps := l4
      refine ⟨_, rfl, ixT h3 rfl ⟨rfl, _, rfl, ?_⟩⟩
      rw [decide_eq_true rfl]
      refine iteT ⟨_, rfl, ixT h3 rfl ⟨_, rfl, (len_le (by omega)).1, (len_le (by omega)).2, ?_⟩⟩
      refine for_range (lo := 0) (n := ((m : Nat) : Int).toNat) (fun j σ H2 => Same H H2 ∧ H2 L = some (.lst ((makes bs (ps.take i) ++ (bs.drop b).take j).map V.str)) ∧ ∃ z4, σ = [some (.ref B), some (.ref a), some (.ref L), some (.ref c), z4, z5]) ⟨s, by rw [hL, List.take_zero, List.append_nil], _, rfl⟩ ?_ ?_
      · rintro j σ H2 hj ⟨s2, hL2, z4, rfl⟩
        have hj2 : b + j < bs.length := by omega
        have g : atI (bs.map V.str) ((b : Int) + (0 + (j : Int))) = some (.str bs[b + j]) := by
          rw [show (b : Int) + (0 + (j : Int)) = ((b + j : Nat) : Int) by omega]
          exact atI_nat (by rw [List.getElem?_map, List.getElem?_eq_getElem hj2]; rfl)
        have h32 : H2 c = some (.tup [.str "take", .int (b : Int), .int (m : Int)]) := by
          have := (hp.mono (.of s2)).2 i c _ h1 h2
          exact this
        refine ⟨_, rfl, .inl ⟨rfl, _, sqL hL2⟩, _, rfl, _, rfl, ixT h32 rfl ⟨_, rfl, _, _, rfl, rfl, ixT (s2 _ _ hB) g ⟨L, _, _, rfl, rfl, hL2, ?_, ?_⟩⟩⟩
        · rw [List.length_map, List.length_append, List.length_take, List.length_drop]
          exact Nat.lt_of_le_of_lt (show _ ≤ 1000 by omega) (by decide)
        · refine ⟨nLm _ _ s2, ?_, _, rfl⟩
          rw [updS, List.take_add_one, List.getElem?_drop, List.getElem?_eq_getElem hj2]
          simp only [List.map_append, List.append_assoc]
          rfl
      · rintro σ H2 ⟨s2, hL2, z4, rfl⟩
        refine ⟨s2, ?_, _, _, _, rfl⟩
        rw [hL2, makes_snoc h2, show ((m : Nat) : Int).toNat = m by omega]
        rfl
    | put rs =>
      obtain ⟨q, h4, h5⟩ := h3
      refine ⟨_, rfl, ixT h4 rfl ⟨rfl, _, rfl, ?_⟩⟩
      rw [put_take]
      have l4 : rs.length ≤ total ps := l4
      refine iteF ⟨_, rfl, ixT h4 rfl ⟨q, rfl, ⟨_, sqT h5⟩, ?_⟩⟩
      have nLq : q ≠ L := ne_of h5 hL (by intro z; cases z)
      refine for_tup (K := K) (a := q) (xs := rs.map V.str) (fun j σ H2 => Same H H2 ∧ H2 q = some (.tup (rs.map V.str)) ∧ H2 L = some (.lst ((makes bs (ps.take i) ++ rs.take j).map V.str)) ∧ ∃ z5, σ = [some (.ref B), some (.ref a), some (.ref L), some (.ref c), z4, z5]) ⟨s, h5, by rw [hL, List.take_zero, List.append_nil], _, rfl⟩ (fun j σ H2 _ p => sqT p.2.1) ?_ ?_
      · rintro j x σ H2 hx2 ⟨s2, hq2, hL2, z5, rfl⟩
        rw [List.getElem?_map] at hx2
        cases e : rs[j]? with
        | none => rw [e] at hx2; cases hx2
        | some z =>
          rw [e] at hx2
          cases Option.some.inj hx2
          have hj := (List.getElem?_eq_some_iff.mp e).1
          refine ⟨_, rfl, .inl ⟨rfl, _, sqL hL2⟩, _, rfl, L, _, _, rfl, rfl, hL2, ?_, ?_⟩
          · rw [List.length_map, List.length_append, List.length_take]
            exact Nat.lt_of_le_of_lt (show _ ≤ 1000 by omega) (by decide)
          · refine ⟨nLm _ _ s2, updN nLq hq2, ?_, _, rfl⟩
            rw [updS, List.take_add_one, e]
            simp only [List.map_append, List.append_assoc]
            rfl
      · rintro σ H2 ⟨s2, hq2, hL2, z5, rfl⟩
        refine ⟨s2, ?_, _, _, _, rfl⟩
        rw [hL2, makes_snoc h2, List.length_map, List.take_of_length_le (Nat.le_refl _)]
        rfl
  · rintro σ H' ⟨s, hL, z3, z4, z5, rfl⟩
    rw [List.length_map, hp.1, List.take_of_length_le (Nat.le_refl _)] at hL
    exact ⟨_, rfl, L, _, rfl, .inl ⟨sqL hL, fun r nr => k r _ (s.trans (Same.upd nr)) updS⟩⟩
end
end Fw

set_option Elab.async false
set_option linter.all false
set_option maxRecDepth 100000
set_option maxHeartbeats 4000000
namespace Fw
open PySem L2 RZ RT
def StAt (H : Hp) (S : Addr) (st : List Str) : Prop := H S = some (.lst (st.map V.str)) ∧ 0 < st.length ∧ st.length ≤ 5 ∧ ∀ z ∈ st, OkS z
theorem StAt.kp {D : Addr} {H H' : Hp} {S : Addr} {st : List Str} (h : StAt H S st) (k : Kp D H H') (n : S ≠ D) : StAt H' S st := ⟨k _ _ h.1 n, h.2⟩
theorem StAt.same {H H' : Hp} {S : Addr} {st : List Str} (h : StAt H S st) (k : Same H H') : StAt H' S st := ⟨k _ _ h.1, h.2⟩
theorem Dk.same {c D : Addr} {ns : List Int} {t : Nat} {H H' : Hp} (d : Dk c D ns t H) (s : Same H H') : Dk c D ns t H' := by
  obtain ⟨a, b, e, i, n, u, h, r⟩ := d
  exact ⟨a, s _ _ b, e, i, n, u, s _ _ h, r⟩
def sp_l_text (_ : PySem.W.Frag) : Sp := fun vs H Q _ => ∃ (c D : Addr) (ns : List Int) (t : Nat) (size : Int), vs = [.ref D, .int size] ∧ Dk c D ns t H ∧ 0 ≤ size ∧ size ≤ 40 ∧ t + 50 < 1000000000 ∧
  ∀ (z : Str) (H' : Hp), OkS z → Kp D H H' → Dk c D ns (t + 50) H' → Q (.str z) H'
def sp_l_stock (_ : PySem.W.Frag) : Sp := fun vs H Q _ => ∃ (c D : Addr) (ns : List Int) (t : Nat), vs = [.ref D] ∧ Dk c D ns t H ∧ t + 300 < 1000000000 ∧
  ∀ (S : Addr) (st : List Str) (H' : Hp), StAt H' S st → H S = none → Kp D H H' → Dk c D ns (t + 300) H' → Q (.ref S) H'
def sp_l_lines (_ : PySem.W.Frag) : Sp := fun vs H Q _ => ∃ (c D S : Addr) (ns : List Int) (t : Nat) (st : List Str) (most : Int), vs = [.ref D, .ref S, .int most] ∧ Dk c D ns t H ∧ StAt H S st ∧ S ≠ D ∧ 0 ≤ most ∧ most ≤ 40 ∧ t + 50 < 1000000000 ∧
  ∀ (a : Addr) (bs : List Str) (H' : Hp), RwAt H' a bs → (∀ z ∈ bs, z ∈ st) → (bs.length : Int) ≤ most → Kp D H H' → Dk c D ns (t + 50) H' → Q (.ref a) H'
def sp_l_most (_ : PySem.W.Frag) : Sp := fun vs H Q _ => ∃ (c D : Addr) (ns : List Int) (t : Nat), vs = [.ref D] ∧ Dk c D ns t H ∧ t + 1 < 1000000000 ∧
  ∀ (m : Int) (H' : Hp), 0 ≤ m → m ≤ 40 → Kp D H H' → Dk c D ns (t + 1) H' → Q (.int m) H'
def sp_l_script (_ : PySem.W.Frag) : Sp := fun vs H Q _ => ∃ (c D B S : Addr) (ns : List Int) (t : Nat) (bs st : List Str) (most : Int), vs = [.ref D, .ref B, .ref S, .int most] ∧ Dk c D ns t H ∧ RwAt H B bs ∧ bs.length ≤ 1000 ∧ StAt H S st ∧ S ≠ D ∧ 0 ≤ most ∧ most ≤ 40 ∧ t + 300 < 1000000000 ∧
  ∀ (a : Addr) (ps : List Pc) (H' : Hp), ScAt H' a ps → ScOk ps → (∀ p ∈ ps, p.fits bs.length) → (total ps : Int) ≤ most → (∀ p ∈ ps, ∀ rs, p = .put rs → ∀ z ∈ rs, z ∈ st) → Kp D H H' → Dk c D ns (t + 300) H' → Q (.ref a) H'
section
variable {K : PySem.W.Frag} {vs : List V} {H : Hp} {Q : VK} {E : XK}
theorem len_l_text (h : sp_l_text K vs H Q E) : vs.length = 2 := by obtain ⟨_, _, _, _, _, rfl, _⟩ := h; rfl
theorem len_l_stock (h : sp_l_stock K vs H Q E) : vs.length = 1 := by obtain ⟨_, _, _, _, rfl, _⟩ := h; rfl
theorem len_l_lines (h : sp_l_lines K vs H Q E) : vs.length = 3 := by obtain ⟨_, _, _, _, _, _, _, rfl, _⟩ := h; rfl
theorem len_l_most (h : sp_l_most K vs H Q E) : vs.length = 1 := by obtain ⟨_, _, _, _, rfl, _⟩ := h; rfl
theorem len_l_script (h : sp_l_script K vs H Q E) : vs.length = 4 := by obtain ⟨_, _, _, _, _, _, _, _, _, rfl, _⟩ := h; rfl
end
abbrev N_l_text : List Str := ["_law_deck_here", "_law_size", "_law_signs", "_law_k"]
def t_l_text_rest (K : PySem.W.Frag) : TS := (tRet (tM1 (fJoin K) (tC (.str "")) (tLc (iRng1 (tCons (tCall (sp_l_draw K) [] E0 (tCons (tVar 0) (tCons (tOp rAddI (tVar 1) (tC (.int 1))) tNil))) tNil)) (gName 3) tYes (tOp (rIx K) (tVar 2) (tCall (sp_l_draw K) [] E0 (tCons (tVar 0) (tCons (tCB (fLen K) (tCons (tVar 2) tNil)) tNil)))) [3])))
def t_l_text (K : PySem.W.Frag) : TS := (tSeq (tAsg (tC (.str " !\"#$&'()*+,-./0123456789:;<=>?@ABCDEFGHIJKLMNOPQRSTUVWXYZ[\\]^_`abcdefghijklmnopqrstuvwxyz{|}~")) (gName 2))
    (tSeq (tIfS (tTest (tOp rEq (tCall (sp_l_draw K) [] E0 (tCons (tVar 0) (tCons (tC (.int 2)) tNil))) (tC (.int 0)))) (tAsg (tC (.str "ab")) (gName 2)) tNext)
    (t_l_text_rest K)))
abbrev N_l_stock : List Str := ["_law_deck_here", "_law_longest", "_law_k"]
def t_l_stock_rest (K : PySem.W.Frag) : TS := (tRet (tLc (iRng1 (tCons (tOp rAddI (tC (.int 1)) (tCall (sp_l_draw K) [] E0 (tCons (tVar 0) (tCons (tC (.int 5)) tNil)))) tNil)) (gName 2) tYes (tCall (sp_l_text K) [] E0 (tCons (tVar 0) (tCons (tVar 1) tNil))) [2]))
def t_l_stock (K : PySem.W.Frag) : TS := (tSeq (tAsg (tC (.int 4)) (gName 1))
    (tSeq (tIfS (tTest (tOp rEq (tCall (sp_l_draw K) [] E0 (tCons (tVar 0) (tCons (tC (.int 6)) tNil))) (tC (.int 0)))) (tAsg (tC (.int 40)) (gName 1)) tNext)
    (t_l_stock_rest K)))
abbrev N_l_lines : List Str := ["_law_deck_here", "_law_stock_here", "_law_most_here", "_law_k"]
def t_l_lines (K : PySem.W.Frag) : TS := (tRet (tCB (fTupleOf K) (tCons (tLc (iRng1 (tCons (tCall (sp_l_draw K) [] E0 (tCons (tVar 0) (tCons (tOp rAddI (tVar 2) (tC (.int 1))) tNil))) tNil)) (gName 3) tYes (tOp (rIx K) (tVar 1) (tCall (sp_l_draw K) [] E0 (tCons (tVar 0) (tCons (tCB (fLen K) (tCons (tVar 1) tNil)) tNil)))) [3]) tNil)))
abbrev N_l_most : List Str := ["_law_deck_here"]
def t_l_most (K : PySem.W.Frag) : TS := (tSeq (tIfS (tTest (tOp rEq (tCall (sp_l_draw K) [] E0 (tCons (tVar 0) (tCons (tC (.int 8)) tNil))) (tC (.int 0)))) (tRet (tC (.int 40))) tNext)
    (tRet (tC (.int 9))))
abbrev N_l_script : List Str := ["_law_deck_here", "_law_base", "_law_stock_here", "_law_most_here", "_law_pieces", "_law_room", "_law_begin", "_law_many", "_law_k"]
def t_l_script_take (K : PySem.W.Frag) : TS := (tSeq (tAsg (tOp rAddI (tC (.int 1)) (tCall (sp_l_draw K) [] E0 (tCons (tVar 0) (tCons (tCB fMin2 (tCons (tVar 5) (tCons (tOp rSubI (tCB (fLen K) (tCons (tVar 1) tNil)) (tVar 6)) tNil))) tNil)))) (gName 7))
    (tDrop (tBM K "list" rAppend (tVar 4) (tCons (tTup (tCons (tC (.str "take")) (tCons (tVar 6) (tCons (tVar 7) tNil)))) tNil))))
def t_l_script_put (K : PySem.W.Frag) : TS := (tSeq (tAsg (tOp rAddI (tC (.int 1)) (tCall (sp_l_draw K) [] E0 (tCons (tVar 0) (tCons (tCB fMin2 (tCons (tVar 5) (tCons (tC (.int 3)) tNil))) tNil)))) (gName 7))
    (tDrop (tBM K "list" rAppend (tVar 4) (tCons (tTup (tCons (tC (.str "put")) (tCons (tCB (fTupleOf K) (tCons (tLc (iRng1 (tCons (tVar 7) tNil)) (gName 8) tYes (tOp (rIx K) (tVar 2) (tCall (sp_l_draw K) [] E0 (tCons (tVar 0) (tCons (tCB (fLen K) (tCons (tVar 2) tNil)) tNil)))) [8]) tNil)) tNil))) tNil))))
def t_l_script_end (K : PySem.W.Frag) : TS := (tAsg (tOp rSubI (tVar 5) (tVar 7)) (gName 5))
def t_l_script_turn (K : PySem.W.Frag) : TS := (tSeq (tIfS (tAnd (tTest (tOp rGtI (tCB (fLen K) (tCons (tVar 1) tNil)) (tC (.int 0)))) (tTest (tOp rGtI (tCall (sp_l_draw K) [] E0 (tCons (tVar 0) (tCons (tC (.int 3)) tNil))) (tC (.int 0))))) (tSeq (tAsg (tCall (sp_l_draw K) [] E0 (tCons (tVar 0) (tCons (tCB (fLen K) (tCons (tVar 1) tNil)) tNil))) (gName 6))
    (t_l_script_take K)) (t_l_script_put K))
    (t_l_script_end K))
def t_l_script (K : PySem.W.Frag) : TS := (tSeq (tAsg (tLst tNil) (gName 4))
    (tSeq (tAsg (tCall (sp_l_draw K) [] E0 (tCons (tVar 0) (tCons (tOp rAddI (tVar 3) (tC (.int 1))) tNil))) (gName 5))
    (tSeq (tWhile (tTest (tOp rGtI (tVar 5) (tC (.int 0)))) (t_l_script_turn K))
    (tRet (tCB (fTupleOf K) (tCons (tVar 4) tNil))))))
theorem join_chars (ys : List Nat) : Txt.join ("" : Str) ((ys.map fun c => (⟨#[c]⟩ : Str))) = ⟨ys.toArray⟩ := by
  have e : ("" : Str) = ⟨#[]⟩ := by decide +kernel
  rw [e]
  unfold Txt.join
  have h := PyProof.Rows.join_nil_signs ⟨ys.toArray⟩
  rw [← StrLaws.glued_eq_join] at h
  exact h
theorem sum_ones : ∀ ys : List Nat, ((ys.map fun c => (⟨#[c]⟩ : Str)).map (·.length)).sum = ys.length
  | [] => rfl
  | y :: ys => by
    rw [List.map_cons, List.map_cons, List.sum_cons, sum_ones ys, List.length_cons]
    show 1 + ys.length = _
    omega
section
variable {K : PySem.W.Frag} {vs : List V} {H : Hp} {Q : VK} {E : XK}
theorem text_rest {c D : Addr} {ns : List Int} {t : Nat} {size : Int} {S : Str} {z3 : Option V} (dk : Dk c D ns t H) (s0 : 0 ≤ size) (s1 : size ≤ 40) (ht : t + 45 < 1000000000) (l0 : 0 < S.cps.size) (l1 : S.cps.size ≤ 100) (ok : ∀ x ∈ S.cps.toList, OkC x)
    (k : ∀ (z : Str) (H' : Hp), OkS z → Kp D H H' → Dk c D ns (t + 45) H' → Q (.str z) H') : t_l_text_rest K { nx := fun _ H' => Q .non H', rt := Q } [some (.ref D), some (.int size), some (.str S), z3] H := by
  refine ⟨⟨_, rfl⟩, _, rfl, _, rfl, _, _, rfl, rfl, c, D, ns, t, size + 1, rfl, dk, by omega, by omega, small100 (by omega), fun n H1 n0 n1 d1 fr1 => ⟨_, rfl, by omega, by omega, fun L nL => ?_⟩⟩
  refine lc_deck (walk_range (lo := 0) (n := n.toNat)) yFn (fun x : Nat => V.str ⟨#[x]⟩) OkC 1 nL d1 (by omega) ?_ ?_
  · intro i x H2 R hi kp d2 r
    refine ⟨rfl, ⟨_, rfl, _, rfl, _, rfl, lenS (Nat.le_trans l1 (by decide)) ⟨c, D, ns, _, _, rfl, d2, by omega, (show (0 : Int) < (S.length : Int) by show (0 : Int) < (S.cps.size : Int); omega), small100 (show ((S.cps.size : Nat) : Int).natAbs ≤ _ by omega), fun v H3 v0 v1 d3 fr3 => ?_⟩⟩⟩
    obtain ⟨j, rfl⟩ := Int.eq_ofNat_of_zero_le v0
    have hj : j < S.cps.toList.length := by
      have : ((j : Nat) : Int) < ((S.cps.size : Nat) : Int) := v1
      rw [Array.length_toList]
      omega
    exact ixS (Nat.le_trans l1 (by decide)) (atI_nat (List.getElem?_eq_getElem hj)) (r _ _ (ok _ (List.getElem_mem hj)) (.fr fr3) d3)
  · intro ys H2 hl hp kp d2 hL
    have hlen : ys.length ≤ 40 := by omega
    refine ⟨_, L, (ys.map fun c => (⟨#[c]⟩ : Str)), rfl, rfl, .inl (sqL (by rw [hL, List.map_map]; rfl)), ?_, ?_⟩
    · rw [sum_ones, List.length_map]
      show ys.length + ys.length * 0 ≤ _
      omega
    · rw [join_chars]
      refine k _ _ ⟨?_, ?_⟩ ((Kp.fr fr1).trans kp) (d2.le (by omega))
      · show ys.toArray.size ≤ 40
        rw [List.size_toArray]
        exact hlen
      · intro x hx
        exact hp x hx
theorem signs_ok : ∀ x ∈ (" !\"#$&'()*+,-./0123456789:;<=>?@ABCDEFGHIJKLMNOPQRSTUVWXYZ[\\]^_`abcdefghijklmnopqrstuvwxyz{|}~" : Str).cps.toList, OkC x := by
  have h : ((" !\"#$&'()*+,-./0123456789:;<=>?@ABCDEFGHIJKLMNOPQRSTUVWXYZ[\\]^_`abcdefghijklmnopqrstuvwxyz{|}~" : Str).cps.toList.all fun x => decide (32 ≤ x) && (decide (x ≤ 126) && !decide (x = 37))) = true := by decide +kernel
  intro x hx
  have := List.all_eq_true.mp h x hx
  simp only [Bool.and_eq_true, decide_eq_true_eq, Bool.not_eq_true', decide_eq_false_iff_not] at this
  exact ⟨this.1, this.2.1, this.2.2⟩
theorem ab_ok : ∀ x ∈ ("ab" : Str).cps.toList, OkC x := by
  have h : (("ab" : Str).cps.toList.all fun x => decide (32 ≤ x) && (decide (x ≤ 126) && !decide (x = 37))) = true := by decide +kernel
  intro x hx
  have := List.all_eq_true.mp h x hx
  simp only [Bool.and_eq_true, decide_eq_true_eq, Bool.not_eq_true', decide_eq_false_iff_not] at this
  exact ⟨this.1, this.2.1, this.2.2⟩
theorem pure_l_text (h : sp_l_text K vs H Q E) : t_l_text K { nx := fun _ H' => Q .non H', rt := Q } (start N_l_text vs) H := by
  obtain ⟨c, D, ns, t, size, rfl, dk, s0, s1, ht, k⟩ := h
  refine ⟨_, rfl, c, D, ns, t, 2, rfl, dk, by omega, by decide, by decide, fun v H1 v0 v1 d1 fr1 => ⟨rfl, _, rfl, ite2 (fun _ => ?_) (fun _ => ?_)⟩⟩
  · exact text_rest d1 s0 s1 (by omega) (by decide +kernel) (by decide +kernel) ab_ok fun z H2 o kp d2 => k z H2 o ((Kp.fr fr1).trans kp) (d2.le (by omega))
  · exact text_rest d1 s0 s1 (by omega) (by decide +kernel) (by decide +kernel) signs_ok fun z H2 o kp d2 => k z H2 o ((Kp.fr fr1).trans kp) (d2.le (by omega))
theorem stock_rest {c D : Addr} {ns : List Int} {t : Nat} {size : Int} {z2 : Option V} (dk : Dk c D ns t H) (s0 : 0 ≤ size) (s1 : size ≤ 40) (ht : t + 299 < 1000000000)
    (k : ∀ (S : Addr) (st : List Str) (H' : Hp), StAt H' S st → H S = none → Kp D H H' → Dk c D ns (t + 299) H' → Q (.ref S) H') : t_l_stock_rest K { nx := fun _ H' => Q .non H', rt := Q } [some (.ref D), some (.int size), z2] H := by
  refine ⟨_, rfl, c, D, ns, t, 5, rfl, dk, by omega, by decide, by decide, fun n H1 n0 n1 d1 fr1 => ⟨_, _, rfl, rfl, _, rfl, by omega, by omega, fun L nL => ?_⟩⟩
  refine lc_deck (walk_range (lo := 0) (n := (1 + n).toNat)) yFn V.str OkS 50 nL d1 (by omega) ?_ ?_
  · intro i x H2 R hi kp d2 r
    refine ⟨rfl, ⟨_, rfl, _, rfl, c, D, ns, _, size, rfl, d2, s0, s1, by omega, fun z H3 o kp3 d3 => r z H3 o kp3 d3⟩⟩
  · intro ys H2 hl hp kp d2 hL
    exact k L ys H2 ⟨hL, by omega, by omega, hp⟩ ((Kp.fr fr1).free nL (d1.neD nL)) ((Kp.fr fr1).trans kp) (d2.le (by omega))
theorem pure_l_stock (h : sp_l_stock K vs H Q E) : t_l_stock K { nx := fun _ H' => Q .non H', rt := Q } (start N_l_stock vs) H := by
  obtain ⟨c, D, ns, t, rfl, dk, ht, k⟩ := h
  refine ⟨_, rfl, c, D, ns, t, 6, rfl, dk, by omega, by decide, by decide, fun v H1 v0 v1 d1 fr1 => ⟨rfl, _, rfl, ite2 (fun _ => ?_) (fun _ => ?_)⟩⟩
  · exact stock_rest d1 (by decide) (by decide) (by omega) fun S st H2 h n kp d2 => k S st H2 h ((Kp.fr fr1).free n (d1.neD n)) ((Kp.fr fr1).trans kp) (d2.le (by omega))
  · exact stock_rest d1 (by decide) (by decide) (by omega) fun S st H2 h n kp d2 => k S st H2 h ((Kp.fr fr1).free n (d1.neD n)) ((Kp.fr fr1).trans kp) (d2.le (by omega))
/-- stock[draw(deck, len(stock))] -/
theorem stock_draw {c D S : Addr} {ns : List Int} {t : Nat} {st : List Str} {i j : Nat} {σ : L2.St} {R : VK} (eD : σ[i]? = some (some (.ref D))) (eS : σ[j]? = some (some (.ref S))) (dk : Dk c D ns t H) (ht : t < 1000000000) (sa : StAt H S st) (nSD : S ≠ D)
    (r : ∀ y H', y ∈ st → Kp D H H' → Dk c D ns (t + 1) H' → R (.str y) H') : tOp (rIx K) (tVar j) (tCall (sp_l_draw K) [] E0 (tCons (tVar i) (tCons (tCB (fLen K) (tCons (tVar j) tNil)) tNil))) σ H R := by
  refine ⟨_, eS, _, eD, _, eS, lenL sa.1 ⟨c, D, ns, _, _, rfl, dk, ht, ?_, ?_, fun v H3 v0 v1 d3 fr3 => ?_⟩⟩
  · rw [List.length_map]
    have := sa.2.1
    omega
  · rw [List.length_map]
    have := sa.2.2.1
    exact small100 (by omega)
  · obtain ⟨q, rfl⟩ := Int.eq_ofNat_of_zero_le v0
    rw [List.length_map] at v1
    have hq : q < st.length := by omega
    exact ixL (by rw [fr3 _ nSD]; exact sa.1) (atI_nat (by rw [List.getElem?_map, List.getElem?_eq_getElem hq]; rfl)) (r _ _ (List.getElem_mem hq) (.fr fr3) d3)
theorem pure_l_lines (h : sp_l_lines K vs H Q E) : t_l_lines K { nx := fun _ H' => Q .non H', rt := Q } (start N_l_lines vs) H := by
  obtain ⟨c, D, S, ns, t, st, most, rfl, dk, sa, nSD, m0, m1, ht, k⟩ := h
  refine ⟨_, rfl, _, rfl, _, _, rfl, rfl, c, D, ns, t, most + 1, rfl, dk, by omega, by omega, small100 (by omega), fun n H1 n0 n1 d1 fr1 => ⟨_, rfl, by omega, by omega, fun L nL => ?_⟩⟩
  have sa1 := sa.kp (.fr fr1) nSD
  refine lc_deck (walk_range (lo := 0) (n := n.toNat)) yFn V.str (fun z => z ∈ st) 1 nL d1 (by omega) ?_ ?_
  · intro i x H2 R hi kp d2 r
    exact ⟨rfl, stock_draw (i := 0) (j := 1) rfl rfl d2 (by omega) (sa1.kp kp nSD) nSD r⟩
  · intro ys H2 hl hp kp d2 hL
    refine ⟨L, _, rfl, .inl ⟨sqL hL, fun r nr => k r ys _ updS hp (by omega) (((Kp.fr fr1).trans kp).trans (.new nr)) ((d2.le (by omega)).upd (d2.neC nr) (d2.neD nr))⟩⟩
theorem pure_l_most (h : sp_l_most K vs H Q E) : t_l_most K { nx := fun _ H' => Q .non H', rt := Q } (start N_l_most vs) H := by
  obtain ⟨c, D, ns, t, rfl, dk, ht, k⟩ := h
  refine ⟨_, rfl, c, D, ns, t, 8, rfl, dk, by omega, by decide, by decide, fun v H1 v0 v1 d1 fr1 => ⟨rfl, _, rfl, ite2 (fun _ => ?_) (fun _ => ?_)⟩⟩
  · exact k 40 H1 (by decide) (by decide) (.fr fr1) d1
  · exact k 9 H1 (by decide) (by decide) (.fr fr1) d1
/-- the state of the maker of scripts -/
structure SS (H0 : Hp) (c D L B S : Addr) (ns : List Int) (t : Nat) (bs st : List Str) (as : List Addr) (ps : List Pc) (H : Hp) : Prop where
  dk : Dk c D ns t H
  keep : Kp D H0 H
  hl : H L = some (.lst (as.map V.ref))
  pr : PsAt H as ps
  ok : ∀ p ∈ ps, p.ok
  fit : ∀ p ∈ ps, p.fits bs.length
  sub : ∀ p ∈ ps, ∀ rs, p = .put rs → ∀ z ∈ rs, z ∈ st
  nL : H0 L = none
  d0 : ∃ t0, Dk c D ns t0 H0
  hB : RwAt H0 B bs
  sa : StAt H0 S st
  nS : S ≠ D
section
variable {H0 H H' : Hp} {c D L B S q : Addr} {ns : List Int} {t t' : Nat} {bs st : List Str} {as : List Addr} {ps : List Pc} {o : HO}
theorem SS.nLD (s : SS H0 c D L B S ns t bs st as ps H) : L ≠ D := s.d0.choose_spec.neD s.nL
theorem SS.nLC (s : SS H0 c D L B S ns t bs st as ps H) : L ≠ c := s.d0.choose_spec.neC s.nL
theorem SS.move (s : SS H0 c D L B S ns t bs st as ps H) (k : Kp D H H') (d : Dk c D ns t' H') : SS H0 c D L B S ns t' bs st as ps H' :=
  ⟨d, s.keep.trans k, k _ _ s.hl s.nLD, s.pr.mono (k.tm s.dk), s.ok, s.fit, s.sub, s.nL, s.d0, s.hB, s.sa, s.nS⟩
theorem SS.baseAt (s : SS H0 c D L B S ns t bs st as ps H) : RwAt H B bs := s.keep.tup s.d0.choose_spec _ _ s.hB
theorem SS.stAt (s : SS H0 c D L B S ns t bs st as ps H) : StAt H S st := s.sa.kp s.keep s.nS
theorem SS.add (s : SS H0 c D L B S ns t bs st as ps H) {T : Addr} {p : Pc} (hT : PcAt H T p) (ok : p.ok) (fit : p.fits bs.length) (sub : ∀ rs, p = .put rs → ∀ z ∈ rs, z ∈ st) : SS H0 c D L B S ns t bs st (as ++ [T]) (ps ++ [p]) (upd H L (.lst (as.map V.ref ++ [.ref T]))) := by
  have tm : TM H (upd H L (.lst (as.map V.ref ++ [.ref T]))) := fun a xs h => updN (ne_of h s.hl (by intro z; cases z)) h
  refine ⟨s.dk.upd s.nLC s.nLD, fun b u e n => updN (ne_of_none e s.nL) (s.keep b u e n), by rw [updS, List.map_append]; rfl, (s.pr.snoc hT).mono tm, fun q hq => ?_, fun q hq => ?_, fun q hq => ?_, s.nL, s.d0, s.hB, s.sa, s.nS⟩
  · rcases List.mem_append.mp hq with h | h
    · exact s.ok q h
    · cases List.mem_singleton.mp h
      exact ok
  · rcases List.mem_append.mp hq with h | h
    · exact s.fit q h
    · cases List.mem_singleton.mp h
      exact fit
  · rcases List.mem_append.mp hq with h | h
    · exact s.sub q h
    · cases List.mem_singleton.mp h
      exact sub
end
theorem total_snoc (ps : List Pc) (p : Pc) : total (ps ++ [p]) = total ps + p.n := by
  unfold total
  rw [List.map_append, List.sum_append]
  show _ + (p.n + 0) = _
  omega
theorem min2_eq {i j : Int} : (if j < i then j else i) ≤ i ∧ (if j < i then j else i) ≤ j := by
  by_cases h : j < i
  · rw [if_pos h]; omega
  · rw [if_neg h]; omega
theorem min2_pos {i j : Int} (h1 : 0 < i) (h2 : 0 < j) : 0 < (if j < i then j else i) := by
  by_cases h : j < i
  · rw [if_pos h]; exact h2
  · rw [if_neg h]; exact h1
def SsW (H0 : Hp) (c D L B S : Addr) (ns : List Int) (t : Nat) (bs st : List Str) (most m0 : Int) (σ : L2.St) (H' : Hp) : Prop := ∃ (as : List Addr) (ps : List Pc) (room : Int) (z6 z7 z8 : Option V),
  σ = [some (.ref D), some (.ref B), some (.ref S), some (.int most), some (.ref L), some (.int room), z6, z7, z8] ∧ 0 ≤ room ∧ (total ps : Int) + room = m0 ∧ SS H0 c D L B S ns (t + 6 * total ps) bs st as ps H'
theorem pure_l_script (h : sp_l_script K vs H Q E) : t_l_script K { nx := fun _ H' => Q .non H', rt := Q } (start N_l_script vs) H := by
  obtain ⟨c, D, B, S, ns, t, bs, st, most, rfl, dk, hB, hbl, sa, nSD, m0, m1, ht, k⟩ := h
  refine ⟨Nat.zero_le _, fun L nL => ?_⟩
  have dL := dk.upd (o := .lst []) (dk.neC nL) (dk.neD nL)
  refine ⟨_, rfl, _, rfl, _, _, rfl, rfl, c, D, ns, t, most + 1, rfl, dL, by omega, by omega, small100 (by omega), fun n H1 n0 n1 d1 fr1 => ?_⟩
  have nLD : L ≠ D := dk.neD nL
  have k1 : Kp D H H1 := (Kp.new nL).trans (.fr fr1)
  have s1 : SS H c D L B S ns (t + 1 + 6 * 0) bs st [] [] H1 := ⟨d1, k1, by rw [fr1 _ nLD]; exact updS, .nil, (fun _ h => by cases h), (fun _ h => by cases h), (fun _ h => by cases h), nL, ⟨t, dk⟩, hB, sa, nSD⟩
  show tSeq (tWhile _ (t_l_script_turn K)) _ _ [some (.ref D), some (.ref B), some (.ref S), some (.int most), some (.ref L), some (.int n), none, none, none] H1
  refine while_by (SsW H c D L B S ns (t + 1) bs st most n) (fun σ _ => slotN 5 σ) ⟨[], [], n, none, none, none, rfl, n0, by show ((0 : Nat) : Int) + n = n; omega, s1⟩ ?_ (fun σ H Q Q' f h => by
    obtain ⟨v, e, i, j, e1, e2, b, e3, q⟩ := h
    exact ⟨v, e, i, j, e1, e2, b, e3, f _ _ q⟩)
  rintro σ H2 ⟨as, ps, room, z6, z7, z8, rfl, r0, rt, s⟩
  refine ⟨_, rfl, _, _, rfl, rfl, _, rfl, ite2 (fun e => ?_) (fun e => ?_)⟩
  · have hroom : 0 < room := of_decide_eq_true e
    have tot : (total ps : Int) ≤ 40 := by omega
    have nl : as.length ≤ 40 := by
      rw [s.pr.1]
      have := len_le_total s.ok
      omega
    -- the end of a turn
    have fin : ∀ (T : Addr) (p : Pc) (m' : Int) (y6 y8 : Option V) (t' : Nat) (H3 : Hp) (D1 D2 : Ends), (∀ σ' H', SsW H c D L B S ns (t + 1) bs st most n σ' H' ∧ slotN 5 σ' < room.toNat → D1.nx σ' H') → (∀ σ' H', t_l_script_end K D1 σ' H' → D2.nx σ' H') → m' = (p.n : Int) → t' ≤ t + 1 + 6 * total ps + 6 → SS H c D L B S ns t' bs st as ps H3 → PcAt H3 T p → p.ok → p.fits bs.length → (∀ rs, p = .put rs → ∀ z ∈ rs, z ∈ st) → (p.n : Int) ≤ room →
        rAppend (.ref L) [.ref T] H3 fun _ H4 => D2.nx [some (.ref D), some (.ref B), some (.ref S), some (.int most), some (.ref L), some (.int room), y6, some (.int m'), y8] H4 := by
      intro T p m' y6 y8 t' H3 D1 D2 k1 k2 em ht' s3 hT ok fit sub hn
      subst em
      have p1 := Pc.one ok
      refine ⟨L, _, _, rfl, rfl, s3.hl, by rw [List.length_map]; exact Nat.lt_of_le_of_lt nl (by decide), k2 _ _ ?_⟩
      refine ⟨_, rfl, _, rfl, _, _, rfl, rfl, k1 _ _ ⟨⟨as ++ [T], ps ++ [p], room - (p.n : Int), _, _, _, rfl, by omega, by rw [total_snoc]; omega, ?_⟩, ?_⟩⟩
      · have s4 := s3.add hT ok fit sub
        refine s4.move (Kp.refl _ _) (s4.dk.le ?_)
        rw [total_snoc, Nat.mul_add]
        omega
      · show (room - (p.n : Int)).toNat < room.toNat
        omega
    have put : ∀ (y6 y7 y8 : Option V) (t' : Nat) (H3 : Hp) (D1 D2 : Ends), (∀ σ' H', SsW H c D L B S ns (t + 1) bs st most n σ' H' ∧ slotN 5 σ' < room.toNat → D1.nx σ' H') → (∀ σ' H', t_l_script_end K D1 σ' H' → D2.nx σ' H') → t' ≤ t + 1 + 6 * total ps + 1 → SS H c D L B S ns t' bs st as ps H3 → t_l_script_put K D2 [some (.ref D), some (.ref B), some (.ref S), some (.int most), some (.ref L), some (.int room), y6, y7, y8] H3 := by
      intro y6 y7 y8 t' H3 D1 D2 k1 k2 ht' s3
      have mp := min2_pos hroom (show (0 : Int) < 3 by decide)
      have ml := min2_eq (i := room) (j := 3)
      refine ⟨_, rfl, _, rfl, _, _, rfl, c, D, ns, t', _, rfl, s3.dk, by omega, mp, small100 (by omega), fun v H4 v0 v1 d4 fr4 => ⟨_, _, rfl, rfl, ?_⟩⟩
      have s4 := s3.move (.fr fr4) d4
      refine ⟨_, rfl, .inl ⟨rfl, _, sqL s4.hl⟩, _, rfl, _, rfl, by omega, by omega, fun G nG => ?_⟩
      refine lc_deck (walk_range (lo := 0) (n := (1 + v).toNat)) yFn V.str (fun z => z ∈ st) 1 nG d4 (by omega) ?_ ?_
      · intro i x H5 R hi kp d5 r
        exact ⟨rfl, stock_draw (i := 0) (j := 2) rfl rfl d5 (by omega) (s4.move kp d5).stAt nSD r⟩
      · intro ys H5 hl hp kp d5 hG
        refine ⟨G, _, rfl, .inl ⟨sqL hG, fun r nr => ⟨by show (2 : Nat) ≤ sizeLine; decide, fun T nT => ?_⟩⟩⟩
        have s5 := s4.move kp d5
        have s6 := s5.move (Kp.new (o := .tup (ys.map V.str)) nr) (s5.dk.upd (s5.dk.neC nr) (s5.dk.neD nr))
        have s7 := s6.move (Kp.new (o := .tup [.str "put", .ref r]) nT) (s6.dk.upd (s6.dk.neC nT) (s6.dk.neD nT))
        have nrT : r ≠ T := fun e => by rw [← e, updS] at nT; cases nT
        have en : ((Pc.put ys).n : Int) = 1 + v := by
          show ((ys.length : Nat) : Int) = 1 + v
          omega
        exact fin T (.put ys) (1 + v) y6 _ _ _ D1 D2 k1 k2 en.symm (by omega) s7 ⟨r, updS, updN nrT updS⟩ ⟨fun e => by rw [e] at hl; simp at hl; omega, fun z hz => s7.stAt.2.2.2 z (hp z hz)⟩ True.intro (fun rs e z hz => by cases e; exact hp z hz) (by omega)
    refine ⟨_, rfl, lenT s.baseAt ⟨_, _, rfl, rfl, _, rfl, ite2 (fun e2 => ?_) (fun e2 => iteF (put z6 z7 z8 _ _ _ _ (fun _ _ z => z) (fun _ _ z => z) (by omega) s))⟩⟩
    have hb0 : 0 < bs.length := by
      have q : (0 : Int) < ((bs.map V.str).length : Int) := of_decide_eq_true e2
      rw [List.length_map] at q
      omega
    refine ⟨_, rfl, c, D, ns, _, 3, rfl, s.dk, by omega, by decide, by decide, fun v H3 v0 v1 d3 fr3 => ⟨_, _, rfl, rfl, _, rfl, ite2 (fun e3 => ?_) (fun e3 => put z6 z7 z8 _ _ _ _ (fun _ _ z => z) (fun _ _ z => z) (by omega) (s.move (.fr fr3) d3))⟩⟩
    have s3 := s.move (.fr fr3) d3
    refine ⟨_, rfl, _, rfl, lenT s3.baseAt ⟨c, D, ns, _, _, rfl, s3.dk, by omega, by rw [List.length_map]; omega, by rw [List.length_map]; exact small100 (by omega), fun b H4 b0 b1 d4 fr4 => ?_⟩⟩
    rw [List.length_map] at b1
    obtain ⟨b, rfl⟩ := Int.eq_ofNat_of_zero_le b0
    have s4 := s3.move (.fr fr4) d4
    have mp := min2_pos hroom (show (0 : Int) < ((bs.map V.str).length : Int) - (b : Int) by rw [List.length_map]; omega)
    have ml := min2_eq (i := room) (j := ((bs.map V.str).length : Int) - (b : Int))
    refine ⟨_, rfl, _, rfl, _, rfl, lenT s4.baseAt ⟨_, rfl, _, _, rfl, rfl, _, _, rfl, c, D, ns, _, _, rfl, s4.dk, by omega, mp, small100 (by omega), fun v H5 v0 v1 d5 fr5 => ⟨_, _, rfl, rfl, ?_⟩⟩⟩
    have s5 := s4.move (.fr fr5) d5
    obtain ⟨v, rfl⟩ := Int.eq_ofNat_of_zero_le v0
    have hml : (bs.map V.str).length = bs.length := List.length_map ..
    have ev : (1 + (v : Int)) = ((1 + v : Nat) : Int) := by omega
    refine ⟨_, rfl, .inl ⟨rfl, _, sqL s5.hl⟩, _, rfl, _, rfl, by show (3 : Nat) ≤ sizeLine; decide, fun T nT => ?_⟩
    have s6 := s5.move (Kp.new (o := .tup [.str "take", .int (b : Int), .int (1 + (v : Int))]) nT) (s5.dk.upd (s5.dk.neC nT) (s5.dk.neD nT))
    exact fin T (.take b (1 + v)) (1 + (v : Int)) (some (.int (b : Int))) z8 _ _ _ _ (fun _ _ z => z) (fun _ _ z => z) ev (by omega) s6 (by show upd _ _ _ _ = some (.tup [.str "take", .int (b : Int), .int ((1 + v : Nat) : Int)]); rw [updS, ← ev]) (show 1 ≤ 1 + v by omega) (show b + (1 + v) ≤ bs.length by omega) (fun rs e => by cases e) (show ((1 + v : Nat) : Int) ≤ room by omega)
  · have hroom : room = 0 := by
      have : ¬ 0 < room := fun q => e (decide_eq_true q)
      omega
    subst hroom
    refine ⟨_, rfl, L, _, rfl, .inl ⟨sqL s.hl, fun a na => ?_⟩⟩
    have kk : Kp D H2 (upd H2 a (.tup (as.map V.ref))) := .new na
    refine k a ps _ ⟨as, updS, s.pr.mono (kk.tm s.dk)⟩ ⟨s.ok, by omega⟩ s.fit (by omega) s.sub (s.keep.trans kk) ((s.dk.le (by omega)).upd (s.dk.neC na) (s.dk.neD na))
end
end Fw

set_option Elab.async false
set_option linter.all false
set_option maxRecDepth 100000
set_option maxHeartbeats 4000000
namespace Fw
open PySem L2 RZ RT
/-! ### scripts cut and joined -/
def Pc.cut (l h : Nat) : Pc → Pc
  | .take b _ => .take (b + l) (h - l)
  | .put rs => .put ((rs.drop l).take (h - l))
def Pc.from (l : Nat) (p : Pc) : Pc := p.cut l p.n
def Pc.to (h : Nat) (p : Pc) : Pc := p.cut 0 h
def dr : Nat → List Pc → List Pc
  | _, [] => []
  | n, p :: ps => if p.n ≤ n then dr (n - p.n) ps else p.from n :: ps
def tk : Nat → List Pc → List Pc
  | _, [] => []
  | n, p :: ps => if p.n ≤ n then p :: tk (n - p.n) ps else if n = 0 then [] else [p.to n]
def sub (f : List Pc) : Pc → List Pc
  | .take b m => tk m (dr b f)
  | .put rs => [.put rs]
def join (f : List Pc) (ps : List Pc) : List Pc := (ps.map (sub f)).flatten
def Pos (ps : List Pc) : Prop := ∀ p ∈ ps, 1 ≤ p.n
theorem Pos.tail {p : Pc} {ps : List Pc} (h : Pos (p :: ps)) : Pos ps := fun q hq => h q (List.mem_cons_of_mem _ hq)
theorem Pos.head {p : Pc} {ps : List Pc} (h : Pos (p :: ps)) : 1 ≤ p.n := h p (List.mem_cons_self ..)
theorem Pos.of_ok {ps : List Pc} (h : ∀ p ∈ ps, p.ok) : Pos ps := fun p hp => Pc.one (h p hp)
theorem cut_n {p : Pc} {l h : Nat} (q : h ≤ p.n) : (p.cut l h).n = h - l := by
  cases p with
  | take b m => rfl
  | put rs =>
    show ((rs.drop l).take (h - l)).length = h - l
    rw [List.length_take, List.length_drop]
    have : h ≤ rs.length := q
    omega
theorem from_n {p : Pc} {l : Nat} : (p.from l).n = p.n - l := cut_n (Nat.le_refl _)
theorem to_n {p : Pc} {h : Nat} (q : h ≤ p.n) : (p.to h).n = h := by unfold Pc.to; rw [cut_n q]; rfl
theorem from_zero (p : Pc) : p.from 0 = p := by
  cases p with
  | take b m => rfl
  | put rs =>
    show Pc.put ((rs.drop 0).take (rs.length - 0)) = _
    rw [List.drop_zero, Nat.sub_zero, List.take_length]
theorem from_from (p : Pc) (a b : Nat) : (p.from a).from b = p.from (a + b) := by
  cases p with
  | take c m =>
    show Pc.take (c + a + b) (m - a - b) = Pc.take (c + (a + b)) (m - (a + b))
    rw [Nat.add_assoc, Nat.sub_sub]
  | put rs =>
    have e : ∀ (xs : List Str) (l : Nat), (xs.drop l).take (xs.length - l) = xs.drop l := fun xs l => List.take_of_length_le (by rw [List.length_drop]; exact Nat.le_refl _)
    show Pc.put ((((rs.drop a).take (rs.length - a)).drop b).take (((rs.drop a).take (rs.length - a)).length - b)) = Pc.put ((rs.drop (a + b)).take (rs.length - (a + b)))
    rw [e, e, e, List.drop_drop]
theorem to_to (p : Pc) {m n : Nat} (h : n ≤ m) : (p.to m).to n = p.to n := by
  cases p with
  | take c k => rfl
  | put rs =>
    show Pc.put ((((rs.drop 0).take (m - 0)).drop 0).take (n - 0)) = Pc.put ((rs.drop 0).take (n - 0))
    simp only [List.drop_zero, Nat.sub_zero]
    rw [List.take_take, Nat.min_eq_left h]
theorem from_to (p : Pc) {m n : Nat} (h : n ≤ m) (h2 : m ≤ p.n) : (p.to m).from n = (p.from n).to (m - n) := by
  cases p with
  | take c k =>
    show Pc.take (c + 0 + n) (m - 0 - n) = Pc.take (c + n + 0) (m - n - 0)
    simp
  | put rs =>
    have h2 : m ≤ rs.length := h2
    show Pc.put ((((rs.drop 0).take (m - 0)).drop n).take (((rs.drop 0).take (m - 0)).length - n)) = Pc.put ((((rs.drop n).take (rs.length - n)).drop 0).take (m - n - 0))
    simp only [List.drop_zero, Nat.sub_zero, List.length_take]
    rw [Nat.min_eq_left h2, List.drop_take, List.take_take, List.take_take, Nat.min_self, Nat.min_eq_left (by omega)]
theorem cut_eq (p : Pc) {l h : Nat} (h1 : l ≤ h) (h2 : h ≤ p.n) : p.cut l h = (p.from l).to (h - l) := by
  cases p with
  | take c k =>
    show Pc.take (c + l) (h - l) = Pc.take (c + l + 0) (h - l - 0)
    simp
  | put rs =>
    have h2 : h ≤ rs.length := h2
    show Pc.put ((rs.drop l).take (h - l)) = Pc.put ((((rs.drop l).take (rs.length - l)).drop 0).take (h - l - 0))
    simp only [List.drop_zero, Nat.sub_zero]
    rw [List.take_take, Nat.min_eq_left (by omega)]
theorem to_all (p : Pc) : p.to p.n = p := from_zero p
theorem tk_zero {ps : List Pc} (h : Pos ps) : tk 0 ps = [] := by
  cases ps with
  | nil => rfl
  | cons p ps =>
    have := h.head
    show (if p.n ≤ 0 then _ else if 0 = 0 then [] else _) = _
    rw [if_neg (by omega), if_pos rfl]
theorem dr_zero {ps : List Pc} (h : Pos ps) : dr 0 ps = ps := by
  cases ps with
  | nil => rfl
  | cons p ps =>
    have := h.head
    show (if p.n ≤ 0 then _ else _) = _
    rw [if_neg (by omega), from_zero]
theorem tk_cons_le {n : Nat} {p : Pc} {ps : List Pc} (h : p.n ≤ n) : tk n (p :: ps) = p :: tk (n - p.n) ps := if_pos h
theorem tk_cons_gt {n : Nat} {p : Pc} {ps : List Pc} (h : ¬ p.n ≤ n) (h0 : n ≠ 0) : tk n (p :: ps) = [p.to n] := (if_neg h).trans (if_neg h0)
theorem tk_cons_z {p : Pc} {ps : List Pc} (h : ¬ p.n ≤ 0) : tk 0 (p :: ps) = [] := (if_neg h).trans (if_pos rfl)
theorem dr_cons_le {n : Nat} {p : Pc} {ps : List Pc} (h : p.n ≤ n) : dr n (p :: ps) = dr (n - p.n) ps := if_pos h
theorem dr_cons_gt {n : Nat} {p : Pc} {ps : List Pc} (h : ¬ p.n ≤ n) : dr n (p :: ps) = p.from n :: ps := if_neg h
theorem total_cons (p : Pc) (ps : List Pc) : total (p :: ps) = p.n + total ps := rfl
theorem total_append (xs ys : List Pc) : total (xs ++ ys) = total xs + total ys := by
  unfold total
  rw [List.map_append, List.sum_append]
theorem tk_append_le {ys : List Pc} : ∀ {n : Nat} {xs : List Pc}, total xs ≤ n → tk n (xs ++ ys) = xs ++ tk (n - total xs) ys
  | n, [], _ => rfl
  | n, x :: xs, h => by
    rw [total_cons] at h
    rw [List.cons_append, tk_cons_le (by omega), tk_append_le (by omega), total_cons, List.cons_append, Nat.sub_sub]
theorem tk_append_gt {ys : List Pc} : ∀ {n : Nat} {xs : List Pc}, ¬ total xs ≤ n → tk n (xs ++ ys) = tk n xs
  | n, [], h => absurd (Nat.zero_le _) h
  | n, x :: xs, h => by
    rw [total_cons] at h
    rw [List.cons_append]
    by_cases q : x.n ≤ n
    · rw [tk_cons_le q, tk_cons_le q, tk_append_gt (by omega)]
    · by_cases z : n = 0
      · subst z
        rw [tk_cons_z q, tk_cons_z q]
      · rw [tk_cons_gt q z, tk_cons_gt q z]
theorem dr_append_le {ys : List Pc} : ∀ {n : Nat} {xs : List Pc}, total xs ≤ n → dr n (xs ++ ys) = dr (n - total xs) ys
  | n, [], _ => rfl
  | n, x :: xs, h => by
    rw [total_cons] at h
    rw [List.cons_append, dr_cons_le (by omega), dr_append_le (by omega), total_cons, Nat.sub_sub]
theorem dr_append_gt {ys : List Pc} : ∀ {n : Nat} {xs : List Pc}, ¬ total xs ≤ n → dr n (xs ++ ys) = dr n xs ++ ys
  | n, [], h => absurd (Nat.zero_le _) h
  | n, x :: xs, h => by
    rw [total_cons] at h
    rw [List.cons_append]
    by_cases q : x.n ≤ n
    · rw [dr_cons_le q, dr_cons_le q, dr_append_gt (by omega)]
    · rw [dr_cons_gt q, dr_cons_gt q, List.cons_append]
theorem tk_tk : ∀ {m n : Nat} {xs : List Pc}, n ≤ m → tk n (tk m xs) = tk n xs
  | m, n, [], _ => rfl
  | m, n, x :: xs, h => by
    by_cases q : x.n ≤ n
    · rw [tk_cons_le (by omega), tk_cons_le q, tk_cons_le q, tk_tk (by omega)]
    · by_cases q2 : x.n ≤ m
      · rw [tk_cons_le q2]
        by_cases z : n = 0
        · subst z
          rw [tk_cons_z q, tk_cons_z q]
        · rw [tk_cons_gt q z, tk_cons_gt q z]
      · by_cases zm : m = 0
        · subst zm
          have : n = 0 := by omega
          subst this
          rw [tk_cons_z q]
          rfl
        · rw [tk_cons_gt q2 zm]
          have e : (x.to m).n = m := to_n (by omega)
          by_cases e2 : n = m
          · subst e2
            rw [tk_cons_le (by omega), tk_cons_gt q zm]
            rfl
          · by_cases z : n = 0
            · subst z
              rw [tk_cons_z (by omega), tk_cons_z q]
            · rw [tk_cons_gt (by omega) z, tk_cons_gt q z, to_to x h]
theorem dr_tk : ∀ {m n : Nat} {xs : List Pc}, n < m → dr n (tk m xs) = tk (m - n) (dr n xs)
  | m, n, [], _ => rfl
  | m, n, x :: xs, h => by
    by_cases q : x.n ≤ n
    · rw [tk_cons_le (by omega), dr_cons_le q, dr_cons_le q, dr_tk (by omega)]
      congr 1
      omega
    · by_cases q2 : x.n ≤ m
      · rw [tk_cons_le q2, dr_cons_gt q, dr_cons_gt q, tk_cons_le (by rw [from_n]; omega), from_n]
        congr 2
        omega
      · have e : (x.to m).n = m := to_n (by omega)
        rw [tk_cons_gt q2 (by omega), dr_cons_gt (by omega), dr_cons_gt q, tk_cons_gt (by rw [from_n]; omega) (by omega), from_to x (by omega) (by omega)]
theorem dr_dr : ∀ {a b : Nat} {xs : List Pc}, dr b (dr a xs) = dr (a + b) xs
  | a, b, [] => rfl
  | a, b, x :: xs => by
    by_cases q : x.n ≤ a
    · rw [dr_cons_le q, dr_cons_le (by omega), dr_dr]
      congr 1
      omega
    · rw [dr_cons_gt q]
      by_cases q2 : x.n ≤ a + b
      · rw [dr_cons_le (by rw [from_n]; omega), dr_cons_le q2, from_n]
        congr 1
        omega
      · rw [dr_cons_gt (by rw [from_n]; omega), dr_cons_gt q2, from_from]
theorem total_dr : ∀ {n : Nat} {xs : List Pc}, total (dr n xs) = total xs - n
  | n, [] => (Nat.zero_sub _).symm
  | n, x :: xs => by
    by_cases q : x.n ≤ n
    · rw [dr_cons_le q, total_dr, total_cons]; omega
    · rw [dr_cons_gt q, total_cons, total_cons, from_n]; omega
theorem total_tk : ∀ {n : Nat} {xs : List Pc}, n ≤ total xs → total (tk n xs) = n
  | n, [], h => by
    have e : total ([] : List Pc) = 0 := rfl
    show total [] = n
    omega
  | n, x :: xs, h => by
    rw [total_cons] at h
    by_cases q : x.n ≤ n
    · rw [tk_cons_le q, total_cons, total_tk (by omega)]; omega
    · by_cases z : n = 0
      · subst z
        rw [tk_cons_z q]
        rfl
      · rw [tk_cons_gt q z, total_cons, to_n (by omega)]
        rfl
/-- what all pieces keep, cut pieces too -/
theorem keep_dr {R : Pc → Prop} (hc : ∀ (p : Pc) (l h : Nat), l < h → h ≤ p.n → R p → R (p.cut l h)) : ∀ {n : Nat} {xs : List Pc}, (∀ p ∈ xs, R p) → ∀ p ∈ dr n xs, R p
  | n, [], h, p, hp => h p hp
  | n, x :: xs, h, p, hp => by
    by_cases q : x.n ≤ n
    · rw [dr_cons_le q] at hp
      exact keep_dr hc (fun y hy => h y (List.mem_cons_of_mem _ hy)) p hp
    · rw [dr_cons_gt q] at hp
      rcases List.mem_cons.mp hp with e | hp
      · rw [e]
        exact hc x n x.n (by omega) (Nat.le_refl _) (h x (List.mem_cons_self ..))
      · exact h p (List.mem_cons_of_mem _ hp)
theorem keep_tk {R : Pc → Prop} (hc : ∀ (p : Pc) (l h : Nat), l < h → h ≤ p.n → R p → R (p.cut l h)) : ∀ {n : Nat} {xs : List Pc}, (∀ p ∈ xs, R p) → ∀ p ∈ tk n xs, R p
  | n, [], h, p, hp => h p hp
  | n, x :: xs, h, p, hp => by
    by_cases q : x.n ≤ n
    · rw [tk_cons_le q] at hp
      rcases List.mem_cons.mp hp with e | hp
      · rw [e]
        exact h x (List.mem_cons_self ..)
      · exact keep_tk hc (fun y hy => h y (List.mem_cons_of_mem _ hy)) p hp
    · by_cases z : n = 0
      · subst z
        rw [tk_cons_z q] at hp
        cases hp
      · rw [tk_cons_gt q z] at hp
        rw [List.mem_singleton.mp hp]
        exact hc x 0 n (by omega) (by omega) (h x (List.mem_cons_self ..))
theorem keep_join {R : Pc → Prop} (hc : ∀ (p : Pc) (l h : Nat), l < h → h ≤ p.n → R p → R (p.cut l h)) {f ps : List Pc} (hf : ∀ p ∈ f, R p) (hp : ∀ p ∈ ps, ∀ rs, p = .put rs → R p) : ∀ p ∈ join f ps, R p := by
  intro p h
  obtain ⟨l, hl, hq⟩ := List.mem_flatten.mp h
  obtain ⟨x, hx, rfl⟩ := List.mem_map.mp hl
  cases x with
  | take b m => exact keep_tk hc (keep_dr hc hf) p hq
  | put rs =>
    rw [List.mem_singleton.mp hq]
    exact hp _ hx rs rfl
theorem cut_ok (p : Pc) (l h : Nat) (q : l < h) (q2 : h ≤ p.n) (o : p.ok) : (p.cut l h).ok := by
  cases p with
  | take b m => show 1 ≤ h - l; omega
  | put rs =>
    have q2 : h ≤ rs.length := q2
    refine ⟨fun e => ?_, fun z hz => o.2 z (List.mem_of_mem_drop (List.mem_of_mem_take hz))⟩
    have := congrArg List.length e
    rw [List.length_take, List.length_drop] at this
    simp at this
    omega
theorem cut_fits {L : Nat} (p : Pc) (l h : Nat) (q : l < h) (q2 : h ≤ p.n) (o : p.fits L) : (p.cut l h).fits L := by
  cases p with
  | take b m =>
    have o : b + m ≤ L := o
    have q2 : h ≤ m := q2
    show b + l + (h - l) ≤ L
    omega
  | put rs => exact True.intro
theorem cut_pos (p : Pc) (l h : Nat) (q : l < h) (q2 : h ≤ p.n) (o : 1 ≤ p.n) : 1 ≤ (p.cut l h).n := by rw [cut_n q2]; omega
theorem join_cons (f : List Pc) (p : Pc) (ps : List Pc) : join f (p :: ps) = sub f p ++ join f ps := rfl
theorem total_sub {f : List Pc} {p : Pc} (h : p.fits (total f)) : total (sub f p) = p.n := by
  cases p with
  | take b m =>
    have h : b + m ≤ total f := h
    exact total_tk (by rw [total_dr]; omega)
  | put rs => rfl
theorem total_join {f : List Pc} : ∀ {ps : List Pc}, (∀ p ∈ ps, p.fits (total f)) → total (join f ps) = total ps
  | [], _ => rfl
  | p :: ps, h => by rw [join_cons, total_append, total_sub (h p (List.mem_cons_self ..)), total_join (fun q hq => h q (List.mem_cons_of_mem _ hq)), total_cons]
theorem tk_join {f : List Pc} (pf : Pos f) : ∀ {n : Nat} {ps : List Pc}, (∀ p ∈ ps, p.fits (total f)) → tk n (join f ps) = join f (tk n ps)
  | n, [], _ => rfl
  | n, p :: ps, h => by
    have hp := h p (List.mem_cons_self ..)
    have ht := total_sub hp
    rw [join_cons]
    by_cases q : p.n ≤ n
    · rw [tk_append_le (by omega), tk_cons_le q, join_cons, ht, tk_join pf fun q hq => h q (List.mem_cons_of_mem _ hq)]
    · rw [tk_append_gt (by omega)]
      by_cases z : n = 0
      · subst z
        rw [tk_cons_z q]
        refine tk_zero fun x hx => ?_
        cases p with
        | take b m => exact keep_tk cut_pos (keep_dr cut_pos pf) x hx
        | put rs =>
          rw [List.mem_singleton.mp hx]
          show 1 ≤ rs.length
          have q : ¬ rs.length ≤ 0 := q
          omega
      · rw [tk_cons_gt q z, join_cons]
        show _ = _ ++ []
        rw [List.append_nil]
        cases p with
        | take b m =>
          have q : ¬ m ≤ n := q
          show tk n (tk m (dr b f)) = tk (n - 0) (dr (b + 0) f)
          rw [tk_tk (by omega)]
          rfl
        | put rs =>
          show tk n [.put rs] = _
          rw [tk_cons_gt q z]
          rfl
theorem dr_join {f : List Pc} (pf : Pos f) : ∀ {n : Nat} {ps : List Pc}, (∀ p ∈ ps, p.fits (total f)) → dr n (join f ps) = join f (dr n ps)
  | n, [], _ => rfl
  | n, p :: ps, h => by
    have hp := h p (List.mem_cons_self ..)
    have ht := total_sub hp
    rw [join_cons]
    by_cases q : p.n ≤ n
    · rw [dr_append_le (by omega), dr_cons_le q, ht, dr_join pf fun q hq => h q (List.mem_cons_of_mem _ hq)]
    · rw [dr_append_gt (by omega), dr_cons_gt q, join_cons]
      congr 1
      cases p with
      | take b m =>
        have q : ¬ m ≤ n := q
        show dr n (tk m (dr b f)) = tk (m - n) (dr (b + n) f)
        rw [dr_tk (by omega), dr_dr]
      | put rs =>
        show dr n [.put rs] = _
        rw [dr_cons_gt q]
        rfl
theorem join_append (f xs ys : List Pc) : join f (xs ++ ys) = join f xs ++ join f ys := by
  unfold join
  rw [List.map_append, List.flatten_append]
theorem join_join {f g : List Pc} (pf : Pos f) (hg : ∀ p ∈ g, p.fits (total f)) : ∀ {ps : List Pc}, join (join f g) ps = join f (join g ps)
  | [] => rfl
  | p :: ps => by
    rw [join_cons, join_cons, join_append, join_join pf hg]
    congr 1
    cases p with
    | take b m =>
      show tk m (dr b (join f g)) = join f (tk m (dr b g))
      rw [dr_join pf hg, tk_join pf (keep_dr (fun p l h => cut_fits p l h) hg)]
    | put rs => rfl
theorem mk_cut {bs : List Str} {p : Pc} {l h : Nat} (q : l ≤ h) (q2 : h ≤ p.n) : (p.cut l h).mk bs = ((p.mk bs).drop l).take (h - l) := by
  cases p with
  | take b m =>
    have q2 : h ≤ m := q2
    show (bs.drop (b + l)).take (h - l) = (((bs.drop b).take m).drop l).take (h - l)
    rw [List.drop_take, List.drop_drop, List.take_take, Nat.min_eq_left (by omega)]
  | put rs => rfl
theorem makes_cons (bs : List Str) (p : Pc) (ps : List Pc) : makes bs (p :: ps) = p.mk bs ++ makes bs ps := rfl
theorem makes_append (bs : List Str) (xs ys : List Pc) : makes bs (xs ++ ys) = makes bs xs ++ makes bs ys := by
  unfold makes
  rw [List.map_append, List.flatten_append]
theorem makes_dr {bs : List Str} : ∀ {n : Nat} {xs : List Pc}, (∀ p ∈ xs, p.fits bs.length) → makes bs (dr n xs) = (makes bs xs).drop n
  | n, [], _ => by show [] = List.drop n []; rw [List.drop_nil]
  | n, x :: xs, h => by
    have hx := mk_len (h x (List.mem_cons_self ..))
    have ht : ∀ p ∈ xs, p.fits bs.length := fun p hp => h p (List.mem_cons_of_mem _ hp)
    rw [makes_cons]
    by_cases q : x.n ≤ n
    · rw [dr_cons_le q, makes_dr ht, List.drop_append, hx, List.drop_of_length_le (l := x.mk bs) (by omega), List.nil_append]
    · rw [dr_cons_gt q, makes_cons, List.drop_append, hx, show n - x.n = 0 by omega, List.drop_zero]
      congr 1
      unfold Pc.from
      rw [mk_cut (by omega) (Nat.le_refl _), List.take_of_length_le (by rw [List.length_drop]; omega)]
theorem makes_tk {bs : List Str} : ∀ {n : Nat} {xs : List Pc}, (∀ p ∈ xs, p.fits bs.length) → makes bs (tk n xs) = (makes bs xs).take n
  | n, [], _ => by show [] = List.take n []; rw [List.take_nil]
  | n, x :: xs, h => by
    have hx := mk_len (h x (List.mem_cons_self ..))
    have ht : ∀ p ∈ xs, p.fits bs.length := fun p hp => h p (List.mem_cons_of_mem _ hp)
    rw [makes_cons]
    by_cases q : x.n ≤ n
    · rw [tk_cons_le q, makes_cons, makes_tk ht, List.take_append, hx, List.take_of_length_le (l := x.mk bs) (by omega)]
    · rw [List.take_append, hx, show n - x.n = 0 by omega, List.take_zero, List.append_nil]
      by_cases z : n = 0
      · subst z
        rw [tk_cons_z q, List.take_zero]
        rfl
      · rw [tk_cons_gt q z, makes_cons]
        show (x.cut 0 n).mk bs ++ [] = _
        rw [List.append_nil, mk_cut (by omega) (by omega), List.drop_zero, Nat.sub_zero]
theorem makes_join {bs : List Str} {f : List Pc} (hf : ∀ p ∈ f, p.fits bs.length) : ∀ {ps : List Pc}, makes bs (join f ps) = makes (makes bs f) ps
  | [] => rfl
  | p :: ps => by
    rw [join_cons, makes_append, makes_cons, makes_join hf]
    congr 1
    cases p with
    | take b m =>
      show makes bs (tk m (dr b f)) = ((makes bs f).drop b).take m
      rw [makes_tk (keep_dr (fun p l h => cut_fits p l h) hf), makes_dr hf]
    | put rs =>
      show rs ++ [] = rs
      rw [List.append_nil]
/-- the join of two right scripts is a right script -/
theorem join_ok {f ps : List Pc} (hf : ScOk f) (hp : ScOk ps) (fit : ∀ p ∈ ps, p.fits (total f)) : ScOk (join f ps) :=
  ⟨keep_join (fun p l h => cut_ok p l h) hf.ok (fun p h _ _ => hp.ok p h), by rw [total_join fit]; exact hp.few⟩
theorem join_fits {f ps : List Pc} {L : Nat} (hf : ∀ p ∈ f, p.fits L) : ∀ p ∈ join f ps, p.fits L :=
  keep_join (fun p l h => cut_fits p l h) hf (fun p _ rs e => by rw [e]; exact True.intro)
/-! ### the loop of part_of -/
def po (b e : Nat) : Nat → List Pc → List Pc
  | _, [] => []
  | f, p :: ps => (if max b f < min e (f + p.n) then [p.cut (max b f - f) (min e (f + p.n) - f)] else []) ++ po b e (f + p.n) ps
theorem po_eq {b e : Nat} (hbe : b ≤ e) : ∀ {f : Nat} {ps : List Pc}, Pos ps → po b e f ps = tk (e - max b f) (dr (b - f) ps)
  | f, [], _ => rfl
  | f, p :: ps, h => by
    have p1 := h.head
    have ih := po_eq hbe (f := f + p.n) h.tail
    show _ ++ po b e (f + p.n) ps = _
    rw [ih]
    by_cases q : p.n ≤ b - f
    · rw [dr_cons_le q, if_neg (by omega), List.nil_append]
      congr 1
      · omega
      · congr 1
        omega
    · rw [dr_cons_gt q, show b - (f + p.n) = 0 by omega, dr_zero h.tail]
      have en : (p.from (b - f)).n = p.n - (b - f) := from_n
      by_cases q2 : f + p.n ≤ e
      · rw [tk_cons_le (by omega), if_pos (by omega), List.cons_append, List.nil_append]
        congr 1
        · rw [show min e (f + p.n) - f = p.n by omega, show max b f - f = b - f by omega]
          rfl
        · congr 1
          omega
      · rw [show e - max b (f + p.n) = 0 by omega, tk_zero h.tail, List.append_nil]
        by_cases q3 : e - max b f = 0
        · rw [q3, tk_cons_z (by omega), if_neg (by omega)]
        · rw [tk_cons_gt (by omega) q3, if_pos (by omega), cut_eq p (by omega) (by omega)]
          rw [show max b f - f = b - f by omega, show min e (f + p.n) - f - (b - f) = e - max b f by omega]
theorem part_eq {b m : Nat} {ps : List Pc} (h : Pos ps) : po b (b + m) 0 ps = tk m (dr b ps) := by
  rw [po_eq (by omega) h, show b + m - max b 0 = m by omega]
  rfl
end Fw

set_option Elab.async false
set_option linter.all false
set_option maxRecDepth 100000
set_option maxHeartbeats 4000000
namespace Fw
open PySem L2 RZ RT
/-! ### lists of addresses, and what stands there -/
def LsAt {α : Type} (R : Addr → α → Prop) (as : List Addr) (xs : List α) : Prop := as.length = xs.length ∧ ∀ (i : Nat) (a : Addr) (x : α), as[i]? = some a → xs[i]? = some x → R a x
section
variable {α : Type} {R R' : Addr → α → Prop} {as bs : List Addr} {xs ys : List α}
theorem LsAt.nil : LsAt R [] [] := ⟨rfl, fun i a p h => by cases h⟩
theorem LsAt.mono (h : LsAt R as xs) (m : ∀ a x, R a x → R' a x) : LsAt R' as xs := ⟨h.1, fun i a x h1 h2 => m _ _ (h.2 i a x h1 h2)⟩
theorem LsAt.append (h : LsAt R as xs) (h2 : LsAt R bs ys) : LsAt R (as ++ bs) (xs ++ ys) := by
  refine ⟨by rw [List.length_append, List.length_append, h.1, h2.1], fun i a m e1 e2 => ?_⟩
  by_cases hi : i < as.length
  · rw [List.getElem?_append_left hi] at e1
    rw [List.getElem?_append_left (by rw [← h.1]; exact hi)] at e2
    exact h.2 i a m e1 e2
  · rw [List.getElem?_append_right (by omega)] at e1
    rw [List.getElem?_append_right (by rw [← h.1]; omega), ← h.1] at e2
    exact h2.2 _ a m e1 e2
theorem LsAt.one {a : Addr} {x : α} (h : R a x) : LsAt R [a] [x] := ⟨rfl, fun i b y e1 e2 => by
  cases i with
  | zero => cases Option.some.inj e1; cases Option.some.inj e2; exact h
  | succ i => cases e1⟩
theorem LsAt.snoc {a : Addr} {x : α} (h : LsAt R as xs) (h2 : R a x) : LsAt R (as ++ [a]) (xs ++ [x]) := h.append (.one h2)
theorem LsAt.get {i : Nat} {a : Addr} (h : LsAt R as xs) (e : as[i]? = some a) : ∃ x, xs[i]? = some x ∧ R a x := by
  have hi : i < xs.length := by rw [← h.1]; exact (List.getElem?_eq_some_iff.mp e).1
  exact ⟨xs[i], List.getElem?_eq_getElem hi, h.2 i a _ e (List.getElem?_eq_getElem hi)⟩
theorem LsAt.at {i : Nat} {x : α} (h : LsAt R as xs) (e : xs[i]? = some x) : ∃ a, as[i]? = some a ∧ R a x := by
  have hi : i < as.length := by rw [h.1]; exact (List.getElem?_eq_some_iff.mp e).1
  exact ⟨as[i], List.getElem?_eq_getElem hi, h.2 i _ x (List.getElem?_eq_getElem hi) e⟩
theorem LsAt.slice (h : LsAt R as xs) (b m : Nat) : LsAt R ((as.drop b).take m) ((xs.drop b).take m) := by
  refine ⟨by rw [List.length_take, List.length_take, List.length_drop, List.length_drop, h.1], fun i a x e1 e2 => ?_⟩
  rw [List.getElem?_take] at e1 e2
  by_cases q : i < m
  · rw [if_pos q, List.getElem?_drop] at e1 e2
    exact h.2 _ a x e1 e2
  · rw [if_neg q] at e1
    cases e1
theorem LsAt.unsnoc {x : α} (h : LsAt R as (xs ++ [x])) : ∃ as' a, as = as' ++ [a] ∧ LsAt R as' xs ∧ R a x := by
  have hl : as.length = xs.length + 1 := by rw [h.1, List.length_append]; rfl
  have hn : as ≠ [] := fun e => by rw [e] at hl; simp at hl
  refine ⟨as.dropLast, as.getLast hn, (List.dropLast_concat_getLast hn).symm, ⟨by rw [List.length_dropLast]; omega, fun i a y e1 e2 => ?_⟩, ?_⟩
  · have hi : i < xs.length := (List.getElem?_eq_some_iff.mp e2).1
    rw [List.getElem?_dropLast, if_pos (by omega)] at e1
    exact h.2 i a y e1 (by rw [List.getElem?_append_left hi]; exact e2)
  · refine h.2 xs.length _ x ?_ (by rw [List.getElem?_append_right (Nat.le_refl _), Nat.sub_self]; rfl)
    rw [List.getElem?_eq_getElem (by omega), List.getLast_eq_getElem]
    congr 2
    omega
end
theorem map_ref_get {as : List Addr} {i : Nat} {x : V} (hx : (as.map V.ref)[i]? = some x) : ∃ a, x = .ref a ∧ as[i]? = some a := by
  rw [List.getElem?_map] at hx
  cases q : as[i]? with
  | none => rw [q] at hx; cases hx
  | some a => rw [q] at hx; exact ⟨a, (Option.some.inj hx).symm, rfl⟩
theorem atI_ref {as : List Addr} {i : Nat} {a : Addr} (h : as[i]? = some a) : atI (as.map V.ref) (i : Int) = some (.ref a) := atI_nat (by rw [List.getElem?_map, h]; rfl)
def PrAt (H : Hp) (a : Addr) (s : Nat × Nat) : Prop := H a = some (.tup [.int (s.1 : Int), .int (s.2 : Int)])
theorem PrAt.mono {H H' : Hp} (t : TM H H') (a : Addr) (s : Nat × Nat) (h : PrAt H a s) : PrAt H' a s := t _ _ h
theorem PcAt.mono' {H H' : Hp} (t : TM H H') (a : Addr) (p : Pc) (h : PcAt H a p) : PcAt H' a p := h.mono t
/-! ### spots and their groups -/
def run (k : Nat) : Nat → Nat → List (Nat × Nat)
  | _, 0 => []
  | lo, n + 1 => (k, lo) :: run k (lo + 1) n
def spots : Nat → List Pc → List (Nat × Nat)
  | _, [] => []
  | k, p :: ps => run k 0 p.n ++ spots (k + 1) ps
theorem run_len (k : Nat) : ∀ (n lo : Nat), (run k lo n).length = n
  | 0, _ => rfl
  | n + 1, lo => by show (run k (lo + 1) n).length + 1 = _; rw [run_len k n]
theorem run_get (k : Nat) : ∀ (n lo j : Nat), j < n → (run k lo n)[j]? = some (k, lo + j)
  | n + 1, lo, 0, _ => rfl
  | n + 1, lo, j + 1, h => by
    show (run k (lo + 1) n)[j]? = _
    rw [run_get k n (lo + 1) j (by omega)]
    congr 2
    omega
theorem run_snoc (k : Nat) : ∀ (n lo : Nat), run k lo (n + 1) = run k lo n ++ [(k, lo + n)]
  | 0, lo => rfl
  | n + 1, lo => by
    show (k, lo) :: run k (lo + 1) (n + 1) = (k, lo) :: (run k (lo + 1) n ++ [(k, lo + (n + 1))])
    rw [run_snoc k n (lo + 1), show lo + 1 + n = lo + (n + 1) by omega]
theorem run_drop (k : Nat) : ∀ (b n lo : Nat), (run k lo n).drop b = run k (lo + b) (n - b)
  | 0, n, lo => rfl
  | b + 1, 0, lo => by
    rw [Nat.zero_sub]
    rfl
  | b + 1, n + 1, lo => by
    show (run k (lo + 1) n).drop b = _
    rw [run_drop k b n (lo + 1), show n + 1 - (b + 1) = n - b by omega, show lo + 1 + b = lo + (b + 1) by omega]
theorem run_take (k : Nat) : ∀ (m n lo : Nat), (run k lo n).take m = run k lo (min m n)
  | 0, n, lo => by rw [List.take_zero, Nat.zero_min]; rfl
  | m + 1, 0, lo => by rw [Nat.min_zero]; rfl
  | m + 1, n + 1, lo => by
    rw [show min (m + 1) (n + 1) = min m n + 1 by omega]
    show (k, lo) :: (run k (lo + 1) n).take m = (k, lo) :: run k (lo + 1) (min m n)
    rw [run_take k m n]
theorem spots_snoc (p : Pc) : ∀ (k : Nat) (ps : List Pc), spots k (ps ++ [p]) = spots k ps ++ run (k + ps.length) 0 p.n
  | k, [] => by show run k 0 p.n ++ [] = _; rw [List.append_nil]; rfl
  | k, q :: ps => by
    show run k 0 q.n ++ spots (k + 1) (ps ++ [p]) = run k 0 q.n ++ spots (k + 1) ps ++ _
    rw [spots_snoc p (k + 1) ps, List.append_assoc, List.length_cons, show k + 1 + ps.length = k + (ps.length + 1) by omega]
theorem spots_len : ∀ (k : Nat) (ps : List Pc), (spots k ps).length = total ps
  | _, [] => rfl
  | k, p :: ps => by
    show (run k 0 p.n ++ spots (k + 1) ps).length = _
    rw [List.length_append, run_len, spots_len, total_cons]
theorem run_mem {k : Nat} : ∀ {n lo : Nat} {s : Nat × Nat}, s ∈ run k lo n → s.1 = k ∧ lo ≤ s.2 ∧ s.2 < lo + n
  | n + 1, lo, s, h => by
    rcases List.mem_cons.mp (show s ∈ (k, lo) :: run k (lo + 1) n from h) with e | h
    · rw [e]
      exact ⟨rfl, Nat.le_refl _, by show lo < lo + (n + 1); omega⟩
    · obtain ⟨h1, h2, h3⟩ := run_mem h
      exact ⟨h1, by omega, by omega⟩
theorem spots_mem : ∀ {k : Nat} {ps : List Pc} {s : Nat × Nat}, s ∈ spots k ps → k ≤ s.1 ∧ ∃ p, ps[s.1 - k]? = some p ∧ s.2 < p.n
  | k, p :: ps, s, h => by
    rcases List.mem_append.mp (show s ∈ run k 0 p.n ++ spots (k + 1) ps from h) with h | h
    · obtain ⟨h1, h2, h3⟩ := run_mem h
      rw [h1, Nat.sub_self]
      exact ⟨Nat.le_refl _, p, rfl, by omega⟩
    · obtain ⟨h1, q, h2, h3⟩ := spots_mem h
      refine ⟨by omega, q, ?_, h3⟩
      rw [show s.1 - k = (s.1 - (k + 1)) + 1 by omega]
      exact h2
/-- places of one number follow one another -/
def Cq (l : List (Nat × Nat)) : Prop := ∀ (j : Nat) (a b : Nat × Nat), l[j]? = some a → l[j + 1]? = some b → a.1 = b.1 → b.2 = a.2 + 1
theorem spots_cq : ∀ (k : Nat) (ps : List Pc), Cq (spots k ps)
  | _, [] => fun j a b h => by cases h
  | k, p :: ps => by
    intro j a b h1 h2 e
    have h1 : (run k 0 p.n ++ spots (k + 1) ps)[j]? = some a := h1
    have h2 : (run k 0 p.n ++ spots (k + 1) ps)[j + 1]? = some b := h2
    have hl := run_len k p.n 0
    by_cases q : j + 1 < p.n
    · rw [List.getElem?_append_left (by omega), run_get _ _ _ _ (by omega)] at h1
      rw [List.getElem?_append_left (by omega), run_get _ _ _ _ q] at h2
      cases Option.some.inj h1
      cases Option.some.inj h2
      show 0 + (j + 1) = 0 + j + 1
      omega
    · rw [List.getElem?_append_right (by omega)] at h2
      have hb := (spots_mem (List.mem_of_getElem? h2)).1
      by_cases q2 : j < p.n
      · rw [List.getElem?_append_left (by omega), run_get _ _ _ _ q2] at h1
        cases Option.some.inj h1
        have e : k = b.1 := e
        omega
      · rw [List.getElem?_append_right (by omega)] at h1
        rw [hl] at h1 h2
        exact spots_cq (k + 1) ps (j - p.n) a b h1 (by rw [show j - p.n + 1 = j + 1 - p.n by omega]; exact h2) e
theorem Cq.slice {l : List (Nat × Nat)} (h : Cq l) (b m : Nat) : Cq ((l.drop b).take m) := by
  intro j x y h1 h2 e
  rw [List.getElem?_take] at h1 h2
  by_cases q : j + 1 < m
  · rw [if_pos (by omega), List.getElem?_drop] at h1
    rw [if_pos q, List.getElem?_drop] at h2
    exact h (b + j) x y h1 h2 e
  · rw [if_neg q] at h2
    cases h2
abbrev Gp := Nat × Nat × Nat
def step (acc : List Gp) (s : Nat × Nat) : List Gp := match acc.getLast? with
  | some g => if g.1 = s.1 then acc.dropLast ++ [(g.1, g.2.1, s.2 + 1)] else acc ++ [(s.1, s.2, s.2 + 1)]
  | none => acc ++ [(s.1, s.2, s.2 + 1)]
def grp (l : List (Nat × Nat)) : List Gp := l.foldl step []
theorem step_same (init : List Gp) (i lo hi pl : Nat) : step (init ++ [(i, lo, hi)]) (i, pl) = init ++ [(i, lo, pl + 1)] := by
  unfold step
  rw [List.getLast?_concat]
  show (if i = i then _ else _) = _
  rw [if_pos rfl, List.dropLast_concat]
theorem step_new (init : List Gp) (i k lo hi pl : Nat) (h : i ≠ k) : step (init ++ [(i, lo, hi)]) (k, pl) = init ++ [(i, lo, hi)] ++ [(k, pl, pl + 1)] := by
  unfold step
  rw [List.getLast?_concat]
  show (if i = k then _ else _) = _
  rw [if_neg h]
theorem step_nil (s : Nat × Nat) : step [] s = [(s.1, s.2, s.2 + 1)] := rfl
theorem grp_snoc {l : List (Nat × Nat)} {j : Nat} {s : Nat × Nat} (h : l[j]? = some s) : grp (l.take (j + 1)) = step (grp (l.take j)) s := by
  unfold grp
  rw [List.take_add_one, h, List.foldl_append]
  rfl
/-- the last group, behind j spots -/
theorem grp_inv {l : List (Nat × Nat)} (hc : Cq l) : ∀ j, j < l.length → ∃ init i lo pl, grp (l.take (j + 1)) = init ++ [(i, lo, pl + 1)] ∧ lo ≤ pl ∧ l[j]? = some (i, pl)
  | 0, h => by
    have e : l[0]? = some l[0] := List.getElem?_eq_getElem h
    refine ⟨[], l[0].1, l[0].2, l[0].2, ?_, Nat.le_refl _, e⟩
    rw [grp_snoc e, List.take_zero]
    rfl
  | j + 1, h => by
    obtain ⟨init, i, lo, pl, h1, h2, h3⟩ := grp_inv hc j (by omega)
    have e : l[j + 1]? = some l[j + 1] := List.getElem?_eq_getElem h
    by_cases q : i = l[j + 1].1
    · have c := hc j _ _ h3 e q
      refine ⟨init, i, lo, l[j + 1].2, ?_, by have : l[j + 1].2 = pl + 1 := c; omega, ?_⟩
      · rw [grp_snoc e, h1, show l[j + 1] = (i, l[j + 1].2) by rw [q], step_same]
      · rw [e, q]
    · refine ⟨init ++ [(i, lo, pl + 1)], l[j + 1].1, l[j + 1].2, l[j + 1].2, ?_, Nat.le_refl _, e⟩
      rw [grp_snoc e, h1]
      exact step_new _ _ _ _ _ _ q
def ivs : Nat → Nat → Nat → List Pc → List Gp
  | _, _, _, [] => []
  | k, b, m, p :: ps => if p.n ≤ b then ivs (k + 1) (b - p.n) m ps else if m = 0 then [] else (k, b, b + min m (p.n - b)) :: ivs (k + 1) 0 (m - (p.n - b)) ps
theorem fold_run (k : Nat) (acc : List Gp) (ha : ∀ g ∈ acc, g.1 < k) (lo : Nat) : ∀ n, (run k lo (n + 1)).foldl step acc = acc ++ [(k, lo, lo + (n + 1))]
  | 0 => by
    show step acc (k, lo) = _
    rcases List.eq_nil_or_concat acc with e | ⟨init, g, e⟩
    · rw [e]; rfl
    · have hg := ha g (by rw [e]; simp)
      rw [e]
      obtain ⟨i, x, y⟩ := g
      have hg : i < k := hg
      rw [List.concat_eq_append]
      exact step_new init i k x y lo (by omega)
  | n + 1 => by
    rw [run_snoc, List.foldl_append, fold_run k acc ha lo n]
    show step _ (k, lo + (n + 1)) = _
    rw [step_same]
    rfl
theorem fold_spots : ∀ (ps : List Pc) (k b m : Nat) (acc : List Gp), (∀ g ∈ acc, g.1 < k) → (((spots k ps).drop b).take m).foldl step acc = acc ++ ivs k b m ps
  | [], k, b, m, acc, _ => by
    show ((List.drop b []).take m).foldl step acc = acc ++ []
    rw [List.drop_nil, List.take_nil, List.append_nil]
    rfl
  | p :: ps, k, b, m, acc, ha => by
    have hl := run_len k p.n 0
    show (((run k 0 p.n ++ spots (k + 1) ps).drop b).take m).foldl step acc = acc ++ (if _ then _ else _)
    rw [List.drop_append, hl]
    by_cases q : p.n ≤ b
    · rw [if_pos q, List.drop_of_length_le (by omega), List.nil_append]
      exact fold_spots ps (k + 1) _ m acc fun g hg => Nat.lt_succ_of_lt (ha g hg)
    · rw [if_neg q, run_drop, show b - p.n = 0 by omega, List.drop_zero, List.take_append, run_len, run_take, List.foldl_append, Nat.zero_add]
      by_cases z : m = 0
      · subst z
        rw [if_pos rfl, Nat.zero_min, Nat.zero_sub, List.take_zero, List.append_nil]
        rfl
      · rw [if_neg z]
        obtain ⟨w, hw⟩ : ∃ w, min m (p.n - b) = w + 1 := ⟨min m (p.n - b) - 1, by omega⟩
        rw [hw, fold_run k acc ha b w, ← hw]
        have := fold_spots ps (k + 1) 0 (m - (p.n - b)) (acc ++ [(k, b, b + min m (p.n - b))]) fun g hg => by
          rcases List.mem_append.mp hg with h | h
          · exact Nat.lt_succ_of_lt (ha g h)
          · rw [List.mem_singleton.mp h]
            exact Nat.lt_succ_self _
        rw [List.drop_zero] at this
        rw [this, List.append_assoc]
        rfl
def cutAt (all : List Pc) (g : Gp) : Pc := match all[g.1]? with
  | some p => p.cut g.2.1 g.2.2
  | none => .put []
def tpAt (all : List Pc) (g : Gp) : Pc := match all[g.1]? with
  | some (.take _ _) => .take g.2.1 g.2.2
  | some (.put rs) => .put ((rs.drop g.2.1).take (g.2.2 - g.2.1))
  | none => .put []
theorem ivs_cut {all : List Pc} : ∀ (ps : List Pc) (k b m : Nat), (∀ i p, ps[i]? = some p → all[k + i]? = some p) → Pos ps → (ivs k b m ps).map (cutAt all) = tk m (dr b ps)
  | [], k, b, m, _, _ => rfl
  | p :: ps, k, b, m, h, pos => by
    have hp : all[k]? = some p := h 0 p rfl
    have ht : ∀ i q, ps[i]? = some q → all[k + 1 + i]? = some q := fun i q hq => by
      have := h (i + 1) q hq
      rw [show k + 1 + i = k + (i + 1) by omega]
      exact this
    have p1 := pos.head
    show (if p.n ≤ b then _ else _ : List Gp).map _ = _
    by_cases q : p.n ≤ b
    · rw [if_pos q, dr_cons_le q]
      exact ivs_cut ps (k + 1) _ m ht pos.tail
    · rw [if_neg q, dr_cons_gt q]
      have en : (p.from b).n = p.n - b := from_n
      by_cases z : m = 0
      · subst z
        rw [if_pos rfl, tk_cons_z (by omega)]
        rfl
      · rw [if_neg z, List.map_cons, ivs_cut ps (k + 1) 0 _ ht pos.tail, dr_zero pos.tail]
        have ec : cutAt all (k, b, b + min m (p.n - b)) = p.cut b (b + min m (p.n - b)) := by
          unfold cutAt
          rw [hp]
        rw [ec]
        by_cases q2 : p.n - b ≤ m
        · rw [tk_cons_le (by omega), en, show b + min m (p.n - b) = p.n by omega]
          rfl
        · rw [tk_cons_gt (by omega) z, show m - (p.n - b) = 0 by omega, tk_zero pos.tail, cut_eq p (by omega) (by omega), show b + min m (p.n - b) - b = m by omega]
theorem grp_cut {ps : List Pc} (pos : Pos ps) (b m : Nat) : (grp (((spots 0 ps).drop b).take m)).map (cutAt ps) = tk m (dr b ps) := by
  unfold grp
  rw [fold_spots ps 0 b m [] (fun _ h => by cases h), List.nil_append]
  exact ivs_cut ps 0 b m (fun i p h => by rw [Nat.zero_add]; exact h) pos
end Fw

set_option Elab.async false
set_option linter.all false
set_option maxRecDepth 100000
set_option maxHeartbeats 4000000
namespace Fw
open PySem L2 RZ RT
abbrev rGtS : R2 := fun x y H Q => ∃ i j, x = .str i ∧ y = .str j ∧ Q (.bl (decide (j.cps.toList < i.cps.toList))) H
theorem max2 {i j : Nat} {Q : VK} {H : Hp} {σ : L2.St} (q : Q (.int ((max i j : Nat) : Int)) H) : tNil σ H fun ys H2 => fMax2 (.int (i : Int) :: .int (j : Int) :: ys) H2 Q := by
  refine ⟨_, _, rfl, ?_⟩
  have e : (if (j : Int) > (i : Int) then (j : Int) else (i : Int)) = ((max i j : Nat) : Int) := by
    by_cases h : (j : Int) > (i : Int)
    · rw [if_pos h]; omega
    · rw [if_neg h]; omega
  rw [e]
  exact q
theorem min2 {i j : Nat} {Q : VK} {H : Hp} {σ : L2.St} (q : Q (.int ((min i j : Nat) : Int)) H) : tNil σ H fun ys H2 => fMin2 (.int (i : Int) :: .int (j : Int) :: ys) H2 Q := by
  refine ⟨_, _, rfl, ?_⟩
  have e : (if (j : Int) < (i : Int) then (j : Int) else (i : Int)) = ((min i j : Nat) : Int) := by
    by_cases h : (j : Int) < (i : Int)
    · rw [if_pos h]; omega
    · rw [if_neg h]; omega
  rw [e]
  exact q
def sp_cut_piece (_ : PySem.W.Frag) : Sp := fun vs H Q _ => ∃ (a : Addr) (p : Pc) (l h : Nat) (x y : Int), vs = [.ref a, .int x, .int y] ∧ x = (l : Int) ∧ y = (h : Int) ∧ l < h ∧ h ≤ p.n ∧ PcAt H a p ∧ ∀ (r : Addr) (H' : Hp), Same H H' → PcAt H' r (p.cut l h) → Q (.ref r) H'
def sp_part_of (_ : PySem.W.Frag) : Sp := fun vs H Q _ => ∃ (s : Addr) (ps : List Pc) (b e : Nat) (x y : Int), vs = [.ref s, .int x, .int y] ∧ x = (b : Int) ∧ y = (e : Int) ∧ ScAt H s ps ∧ ps.length ≤ 1000 ∧
  ∀ (L : Addr) (as : List Addr) (H' : Hp), Same H H' → H' L = some (.lst (as.map V.ref)) → LsAt (PcAt H') as (po b e 0 ps) → Q (.ref L) H'
def sp_joined (_ : PySem.W.Frag) : Sp := fun vs H Q _ => ∃ (B s1 s2 : Addr) (bs : List Str) (one other : List Pc), vs = [.ref B, .ref s1, .ref s2] ∧ RwAt H B bs ∧ ScAt H s1 one ∧ ScOk one ∧ (∀ p ∈ one, p.fits bs.length) ∧ ScAt H s2 other ∧ ScOk other ∧ (∀ p ∈ other, p.fits (total one)) ∧
  ∀ (r : Addr) (H' : Hp), Same H H' → ScAt H' r (join one other) → Q (.ref r) H'
def sp_l_is_line (_ : PySem.W.Frag) : Sp := fun vs H Q _ => ∃ z : Str, vs = [.str z] ∧ OkS z ∧ Q (.bl true) H
def sp_l_size (_ : PySem.W.Frag) : Sp := fun vs H Q _ => ∃ (a : Addr) (p : Pc), vs = [.ref a] ∧ PcAt H a p ∧ p.ok ∧ Q (.int (p.n : Int)) H
def sp_l_turned (_ : PySem.W.Frag) : Sp := fun vs H Q _ => ∃ (s L : Addr) (ps : List Pc) (bs : List Addr) (part : List (Nat × Nat)), vs = [.ref s, .ref L] ∧ ScAt H s ps ∧ H L = some (.lst (bs.map V.ref)) ∧ LsAt (PrAt H) bs part ∧ part.length ≤ 1000 ∧ Cq part ∧ (∀ p ∈ ps, p.n ≤ 1000) ∧ (∀ x ∈ part, ∃ p, ps[x.1]? = some p ∧ x.2 < p.n) ∧
  ∀ (F : Addr) (fs : List Addr) (H' : Hp), Same H H' → H F = none → H' F = some (.lst (fs.map V.ref)) → LsAt (PcAt H') fs ((grp part).map (tpAt ps)) → Q (.ref F) H'
def sp_l_joined (_ : PySem.W.Frag) : Sp := fun vs H Q _ => ∃ (s1 s2 : Addr) (one other : List Pc), vs = [.ref s1, .ref s2] ∧ ScAt H s1 one ∧ ScOk one ∧ ScAt H s2 other ∧ ScOk other ∧ (∀ p ∈ other, p.fits (total one)) ∧
  ∀ (r : Addr) (H' : Hp), Same H H' → ScAt H' r (join one other) → Q (.ref r) H'
section
variable {K : PySem.W.Frag} {vs : List V} {H : Hp} {Q : VK} {E : XK}
theorem len_cut_piece (h : sp_cut_piece K vs H Q E) : vs.length = 3 := by obtain ⟨_, _, _, _, _, _, rfl, _⟩ := h; rfl
theorem len_part_of (h : sp_part_of K vs H Q E) : vs.length = 3 := by obtain ⟨_, _, _, _, _, _, rfl, _⟩ := h; rfl
theorem len_joined (h : sp_joined K vs H Q E) : vs.length = 3 := by obtain ⟨_, _, _, _, _, _, rfl, _⟩ := h; rfl
theorem len_l_is_line (h : sp_l_is_line K vs H Q E) : vs.length = 1 := by obtain ⟨_, rfl, _⟩ := h; rfl
theorem len_l_size (h : sp_l_size K vs H Q E) : vs.length = 1 := by obtain ⟨_, _, rfl, _⟩ := h; rfl
theorem len_l_turned (h : sp_l_turned K vs H Q E) : vs.length = 2 := by obtain ⟨_, _, _, _, _, rfl, _⟩ := h; rfl
theorem len_l_joined (h : sp_l_joined K vs H Q E) : vs.length = 2 := by obtain ⟨_, _, _, _, rfl, _⟩ := h; rfl
end
abbrev N_cut_piece : List Str := ["piece", "begin", "end"]
def t_cut_piece (K : PySem.W.Frag) : TS := (tSeq (tIfS (tTest (tOp rEq (tOp (rIx K) (tVar 0) (tC (.int 0))) (tC (.str "put")))) (tRet (tTup (tCons (tC (.str "put")) (tCons (tSl (rSlA K) (tOp (rIx K) (tVar 0) (tC (.int 1))) (tPart (tVar 1)) (tPart (tVar 2))) tNil)))) tNext)
    (tRet (tTup (tCons (tC (.str "take")) (tCons (tOp rAddI (tOp (rIx K) (tVar 0) (tC (.int 1))) (tVar 1)) (tCons (tOp rSubI (tVar 2) (tVar 1)) tNil))))))
abbrev N_part_of : List Str := ["script", "begin", "end", "pieces", "first", "piece", "behind", "low", "high"]
def t_part_of (K : PySem.W.Frag) : TS := (tSeq (tAsg (tLst tNil) (gName 3))
    (tSeq (tAsg (tC (.int 0)) (gName 4))
    (tSeq (tFor (iTup K (tVar 0)) (gName 5) (tSeq (tAsg (tOp rAddI (tVar 4) (tCall (sp_rows_in K) [] E0 (tCons (tVar 5) tNil))) (gName 6))
    (tSeq (tPar 7 8 (tCons (tCB fMax2 (tCons (tVar 1) (tCons (tVar 4) tNil))) (tCons (tCB fMin2 (tCons (tVar 2) (tCons (tVar 6) tNil))) tNil)))
    (tSeq (tIfS (tTest (tOp rLtI (tVar 7) (tVar 8))) (tDrop (tBM K "list" rAppend (tVar 3) (tCons (tCall (sp_cut_piece K) [] E0 (tCons (tVar 5) (tCons (tOp rSubI (tVar 7) (tVar 4)) (tCons (tOp rSubI (tVar 8) (tVar 4)) tNil)))) tNil))) tNext)
    (tAsg (tVar 6) (gName 4))))))
    (tRet (tVar 3)))))
abbrev N_joined : List Str := ["base", "one", "other", "pieces", "piece"]
def t_joined (K : PySem.W.Frag) : TS := (tSeq (tDrop (tCall (sp_refuse_wrong K) [] E0 (tCons (tVar 0) (tCons (tVar 1) tNil))))
    (tSeq (tDrop (tCall (sp_refuse_wrong K) [] E0 (tCons (tCall (sp_made K) [] E0 (tCons (tVar 0) (tCons (tVar 1) tNil))) (tCons (tVar 2) tNil))))
    (tSeq (tAsg (tLst tNil) (gName 3))
    (tSeq (tFor (iTup K (tVar 2)) (gName 4) (tIfS (tTest (tOp rEq (tOp (rIx K) (tVar 4) (tC (.int 0))) (tC (.str "put")))) (tDrop (tBM K "list" rAppend (tVar 3) (tCons (tVar 4) tNil))) (tDrop (tBM K "list" (rExtendA K) (tVar 3) (tCons (tCall (sp_part_of K) [] E0 (tCons (tVar 1) (tCons (tOp (rIx K) (tVar 4) (tC (.int 1))) (tCons (tOp rAddI (tOp (rIx K) (tVar 4) (tC (.int 1))) (tOp (rIx K) (tVar 4) (tC (.int 2)))) tNil)))) tNil)))))
    (tRet (tCB (fTupleOf K) (tCons (tVar 3) tNil)))))))
abbrev N_l_is_line : List Str := ["_law_thing", "_law_sign"]
def t_l_is_line (K : PySem.W.Frag) : TS := (tSeq (tIfS (tOr (tNot (tB (tCB (rIsi K) (tCons (tVar 0) (tCons (tC (.ty "str")) tNil))))) (tTest (tOp rGtI (tCB (fLen K) (tCons (tVar 0) tNil)) (tC (.int 40))))) (tRet (tC (.bl false))) tNext)
    (tSeq (tFor (iStr (tVar 0)) (gName 1) (tIfS (tOr (tTest (tOp rLtS (tVar 1) (tC (.str " ")))) (tTest (tOp rGtS (tVar 1) (tC (.str "~"))))) (tRet (tC (.bl false))) tNext))
    (tRet (tC (.bl true)))))
abbrev N_l_size : List Str := ["_law_piece", "_law_line"]
def t_l_size (K : PySem.W.Frag) : TS := (tSeq (tIfS (tOr (tNot (tB (tCB (rIsi K) (tCons (tVar 0) (tCons (tC (.ty "tuple")) tNil))))) (tOr (tTest (tOp rLtI (tCB (fLen K) (tCons (tVar 0) tNil)) (tC (.int 2)))) (tNot (tB (tCB (rIsi K) (tCons (tOp (rIx K) (tVar 0) (tC (.int 0))) (tCons (tC (.ty "str")) tNil))))))) (tRet (tC (.int 0))) tNext)
    (tSeq (tIfS (tAnd (tTest (tOp rEq (tOp (rIx K) (tVar 0) (tC (.int 0))) (tC (.str "take")))) (tAnd (tTest (tOp rEq (tCB (fLen K) (tCons (tVar 0) tNil)) (tC (.int 3)))) (tAnd (tB (tCall (sp_l_int K) [] E0 (tCons (tOp (rIx K) (tVar 0) (tC (.int 1))) tNil))) (tB (tCall (sp_l_int K) [] E0 (tCons (tOp (rIx K) (tVar 0) (tC (.int 2))) tNil)))))) (tSeq (tIfS (tAnd (tTest (tOp rGeI (tOp (rIx K) (tVar 0) (tC (.int 1))) (tC (.int 0)))) (tTest (tOp rGeI (tOp (rIx K) (tVar 0) (tC (.int 2))) (tC (.int 1))))) (tRet (tOp (rIx K) (tVar 0) (tC (.int 2)))) tNext)
    (tRet (tC (.int 0)))) tNext)
    (tSeq (tIfS (tOr (tTest (tOp rNe (tOp (rIx K) (tVar 0) (tC (.int 0))) (tC (.str "put")))) (tOr (tTest (tOp rNe (tCB (fLen K) (tCons (tVar 0) tNil)) (tC (.int 2)))) (tNot (tB (tCB (rIsi K) (tCons (tOp (rIx K) (tVar 0) (tC (.int 1))) (tCons (tC (.ty "tuple")) tNil))))))) (tRet (tC (.int 0))) tNext)
    (tSeq (tFor (iTup K (tOp (rIx K) (tVar 0) (tC (.int 1)))) (gName 1) (tIfS (tNot (tB (tCall (sp_l_is_line K) [] E0 (tCons (tVar 1) tNil)))) (tRet (tC (.int 0))) tNext))
    (tRet (tCB (fLen K) (tCons (tOp (rIx K) (tVar 0) (tC (.int 1))) tNil)))))))
abbrev N_l_turned : List Str := ["_law_one", "_law_spots", "_law_found", "_law_last", "_law_number", "_law_place", "_law_piece"]
def t_l_turned_fin (K : PySem.W.Frag) : TS := (tAsg (tVar 4) (gName 3))
def t_l_turned_cases (K : PySem.W.Frag) : TS := (tSeq (tIfS (tAnd (tTest (tOp rEq (tOp (rIx K) (tVar 6) (tC (.int 0))) (tC (.str "take")))) (tTest (tOp rEq (tVar 4) (tVar 3)))) (tDrop (tBM K "list" rAppend (tVar 2) (tCons (tTup (tCons (tC (.str "take")) (tCons (tOp (rIx K) (tBM0 K "list" rPop (tVar 2)) (tC (.int 1))) (tCons (tOp rAddI (tVar 5) (tC (.int 1))) tNil)))) tNil))) (tIfS (tTest (tOp rEq (tOp (rIx K) (tVar 6) (tC (.int 0))) (tC (.str "take")))) (tDrop (tBM K "list" rAppend (tVar 2) (tCons (tTup (tCons (tC (.str "take")) (tCons (tVar 5) (tCons (tOp rAddI (tVar 5) (tC (.int 1))) tNil)))) tNil))) (tIfS (tTest (tOp rEq (tVar 4) (tVar 3))) (tDrop (tBM K "list" rAppend (tVar 2) (tCons (tTup (tCons (tC (.str "put")) (tCons (tOp (rCatT K) (tOp (rIx K) (tBM0 K "list" rPop (tVar 2)) (tC (.int 1))) (tSl (rSlA K) (tOp (rIx K) (tVar 6) (tC (.int 1))) (tPart (tVar 5)) (tPart (tOp rAddI (tVar 5) (tC (.int 1)))))) tNil))) tNil))) (tDrop (tBM K "list" rAppend (tVar 2) (tCons (tTup (tCons (tC (.str "put")) (tCons (tSl (rSlA K) (tOp (rIx K) (tVar 6) (tC (.int 1))) (tPart (tVar 5)) (tPart (tOp rAddI (tVar 5) (tC (.int 1))))) tNil))) tNil))))))
    (t_l_turned_fin K))
def t_l_turned (K : PySem.W.Frag) : TS := (tSeq (tAsg (tLst tNil) (gName 2))
    (tSeq (tAsg (tUn rNegI (tC (.int 1))) (gName 3))
    (tSeq (tFor (iList K (tVar 1)) (gTup K 2 (gCons (gName 4) (gCons (gName 5) gNil))) (tSeq (tAsg (tOp (rIx K) (tVar 0) (tVar 4)) (gName 6))
    (t_l_turned_cases K)))
    (tRet (tVar 2)))))
abbrev N_l_joined : List Str := ["_law_one", "_law_other", "_law_spots", "_law_number", "_law_place", "_law_due", "_law_piece", "_law_part", "_law_turned_here", "_law_firsts", "_law_k", "_law_begin"]
def t_l_joined_last (K : PySem.W.Frag) : TS := (tFor (iRng1 (tCons (tCB (fLen K) (tCons (tVar 8) tNil)) tNil)) (gName 10) (tIfS (tTest (tOp rEq (tOp (rIx K) (tOp (rIx K) (tVar 8) (tVar 10)) (tC (.int 0))) (tC (.str "put")))) (tDrop (tBM K "list" rAppend (tVar 5) (tCons (tOp (rIx K) (tVar 8) (tVar 10)) tNil))) (tSeq (tAsg (tOp (rIx K) (tOp (rIx K) (tVar 0) (tOp (rIx K) (tOp (rIx K) (tVar 9) (tVar 10)) (tC (.int 0)))) (tC (.int 1))) (gName 11))
    (tDrop (tBM K "list" rAppend (tVar 5) (tCons (tTup (tCons (tC (.str "take")) (tCons (tOp rAddI (tVar 11) (tOp (rIx K) (tOp (rIx K) (tVar 8) (tVar 10)) (tC (.int 1)))) (tCons (tOp rSubI (tOp (rIx K) (tOp (rIx K) (tVar 8) (tVar 10)) (tC (.int 2))) (tOp (rIx K) (tOp (rIx K) (tVar 8) (tVar 10)) (tC (.int 1)))) tNil)))) tNil))))))
def t_l_joined_firsts (K : PySem.W.Frag) : TS := (tSeq (tAsg (tLst tNil) (gName 9))
    (tSeq (tFor (iRng1 (tCons (tCB (fLen K) (tCons (tVar 7) tNil)) tNil)) (gName 10) (tIfS (tOr (tTest (tOp rEq (tVar 10) (tC (.int 0)))) (tTest (tOp rNe (tOp (rIx K) (tOp (rIx K) (tVar 7) (tVar 10)) (tC (.int 0))) (tOp (rIx K) (tOp (rIx K) (tVar 7) (tOp rSubI (tVar 10) (tC (.int 1)))) (tC (.int 0)))))) (tDrop (tBM K "list" rAppend (tVar 9) (tCons (tOp (rIx K) (tVar 7) (tVar 10)) tNil))) tNext))
    (t_l_joined_last K)))
def t_l_joined_part (K : PySem.W.Frag) : TS := (tSeq (tAsg (tSl (rSlL K) (tVar 2) (tPart (tOp (rIx K) (tVar 6) (tC (.int 1)))) (tPart (tOp rAddI (tOp (rIx K) (tVar 6) (tC (.int 1))) (tOp (rIx K) (tVar 6) (tC (.int 2)))))) (gName 7))
    (tSeq (tAsg (tCall (sp_l_turned K) [] E0 (tCons (tVar 0) (tCons (tVar 7) tNil))) (gName 8))
    (t_l_joined_firsts K)))
def t_l_joined_due (K : PySem.W.Frag) : TS := (tSeq (tAsg (tLst tNil) (gName 5))
    (tSeq (tFor (iTup K (tVar 1)) (gName 6) (tIfS (tTest (tOp rEq (tOp (rIx K) (tVar 6) (tC (.int 0))) (tC (.str "put")))) (tDrop (tBM K "list" rAppend (tVar 5) (tCons (tVar 6) tNil))) (t_l_joined_part K)))
    (tRet (tCB (fTupleOf K) (tCons (tVar 5) tNil)))))
def t_l_joined (K : PySem.W.Frag) : TS := (tSeq (tAsg (tLst tNil) (gName 2))
    (tSeq (tFor (iRng1 (tCons (tCB (fLen K) (tCons (tVar 0) tNil)) tNil)) (gName 3) (tFor (iRng1 (tCons (tCall (sp_l_size K) [] E0 (tCons (tOp (rIx K) (tVar 0) (tVar 3)) tNil)) tNil)) (gName 4) (tDrop (tBM K "list" rAppend (tVar 2) (tCons (tTup (tCons (tVar 3) (tCons (tVar 4) tNil))) tNil)))))
    (t_l_joined_due K)))
section
variable {K : PySem.W.Frag} {vs : List V} {H : Hp} {Q : VK} {E : XK}
theorem slB {B : Addr} {bs : List Str} {l h : Nat} (hB : H B = some (.tup (bs.map V.str))) (h1 : l ≤ h) (h2 : h ≤ bs.length) (q : ∀ (r : Addr) (H' : Hp), Same H H' → RwAt H' r ((bs.drop l).take (h - l)) → Q (.ref r) H') : rSlA K (.ref B) (some (l : Int)) (some (h : Int)) H Q := by
  have := slA (K := K) (Q := Q) hB (show l + (h - l) ≤ bs.length by omega) q
  rw [show (l : Int) + ((h - l : Nat) : Int) = (h : Int) by omega] at this
  exact this
theorem pure_cut_piece (h : sp_cut_piece K vs H Q E) : t_cut_piece K { nx := fun _ H' => Q .non H', rt := Q } (start N_cut_piece vs) H := by
  obtain ⟨a, p, l, h, x, y, rfl, rfl, rfl, h1, h2, ha, k⟩ := h
  cases p with
  | take b m =>
    refine ⟨_, rfl, ixT ha rfl ⟨rfl, _, rfl, ?_⟩⟩
    rw [take_put]
    refine iteF ⟨_, rfl, ixT ha rfl ⟨_, rfl, _, _, rfl, rfl, _, rfl, _, rfl, _, _, rfl, rfl, by show (3 : Nat) ≤ sizeLine; decide, fun r nr => k r _ (Same.upd nr) ?_⟩⟩
    show upd _ _ _ _ = some (.tup [.str "take", .int ((b + l : Nat) : Int), .int ((h - l : Nat) : Int)])
    rw [updS, show ((b + l : Nat) : Int) = (b : Int) + (l : Int) by omega, show ((h - l : Nat) : Int) = (h : Int) - (l : Int) by omega]
  | put rs =>
    obtain ⟨r, h3, h4⟩ := ha
    refine ⟨_, rfl, ixT h3 rfl ⟨rfl, _, rfl, ?_⟩⟩
    rw [decide_eq_true rfl]
    refine iteT ⟨_, rfl, ixT h3 rfl ⟨_, rfl, _, rfl, _, rfl, _, rfl, slB h4 (by omega) h2 fun q H' s hq => ⟨by show (2 : Nat) ≤ sizeLine; decide, fun w nw => k w _ (s.trans (Same.upd nw)) ⟨q, updS, Same.upd nw _ _ hq⟩⟩⟩⟩
theorem po_snoc {b e : Nat} (p : Pc) : ∀ (f : Nat) (xs : List Pc), po b e f (xs ++ [p]) = po b e f xs ++ (if max b (f + total xs) < min e (f + total xs + p.n) then [p.cut (max b (f + total xs) - (f + total xs)) (min e (f + total xs + p.n) - (f + total xs))] else [])
  | f, [] => by
    show _ ++ [] = [] ++ _
    rw [List.append_nil, List.nil_append]
    rfl
  | f, x :: xs => by
    show _ ++ po b e (f + x.n) (xs ++ [p]) = (_ ++ po b e (f + x.n) xs) ++ _
    rw [po_snoc p (f + x.n) xs, List.append_assoc, total_cons, show f + x.n + total xs = f + (x.n + total xs) by omega]
theorem take_succ {α : Type} {xs : List α} {i : Nat} {x : α} (h : xs[i]? = some x) : xs.take (i + 1) = xs.take i ++ [x] := by rw [List.take_add_one, h]; rfl
theorem po_len {b e : Nat} : ∀ (f : Nat) (xs : List Pc), (po b e f xs).length ≤ xs.length
  | _, [] => Nat.le_refl _
  | f, x :: xs => by
    show ((if _ then _ else _) ++ po b e (f + x.n) xs).length ≤ _
    rw [List.length_append, List.length_cons]
    have := po_len (b := b) (e := e) (f + x.n) xs
    by_cases q : max b f < min e (f + x.n)
    · rw [if_pos q]
      show 1 + _ ≤ _
      omega
    · rw [if_neg q]
      show 0 + _ ≤ _
      omega
theorem pure_part_of (h : sp_part_of K vs H Q E) : t_part_of K { nx := fun _ H' => Q .non H', rt := Q } (start N_part_of vs) H := by
  obtain ⟨s, ps, b, e, x, y, rfl, rfl, rfl, ⟨as, ha, hp⟩, hz, k⟩ := h
  refine ⟨Nat.zero_le _, fun L nL => ⟨_, rfl, s, rfl, ⟨_, sqT (updN (ne_of_none ha nL) ha)⟩, ?_⟩⟩
  refine for_tup (K := K) (a := s) (xs := as.map V.ref) (fun i σ H' => Same H H' ∧ ∃ (cs : List Addr) (z5 z6 z7 z8 : Option V), H' L = some (.lst (cs.map V.ref)) ∧ LsAt (PcAt H') cs (po b e 0 (ps.take i)) ∧ σ = [some (.ref s), some (.int (b : Int)), some (.int (e : Int)), some (.ref L), some (.int ((total (ps.take i) : Nat) : Int)), z5, z6, z7, z8]) ⟨Same.upd nL, [], none, none, none, none, updS, .nil, rfl⟩ (fun i σ H' _ p => sqT (p.1 _ _ ha)) ?_ ?_
  · rintro i x σ H' hx ⟨s1, cs, z5, z6, z7, z8, hL, hc, rfl⟩
    obtain ⟨c, p, rfl, h1, h2, h3⟩ := sc_get (hp.mono (.of s1)) hx
    have hi : i < ps.length := (List.getElem?_eq_some_iff.mp h2).1
    have lc : cs.length ≤ 1000 := by
      rw [hc.1]
      have := po_len (b := b) (e := e) 0 (ps.take i)
      rw [List.length_take] at this
      omega
    have et : total (ps.take (i + 1)) = total (ps.take i) + p.n := by rw [take_succ h2, total_snoc]
    have eb : ((total (ps.take i) : Nat) : Int) + (p.n : Int) = ((total (ps.take (i + 1)) : Nat) : Int) := by omega
    have ep := po_snoc (b := b) (e := e) p 0 (ps.take i)
    rw [← take_succ h2, Nat.zero_add, ← et] at ep
    refine ⟨_, rfl, _, rfl, c, p, rfl, h3, _, _, rfl, rfl, ?_⟩
    generalize hf : total (ps.take i) = f at *
    generalize hg : total (ps.take (i + 1)) = g at *
    show tSeq _ _ _ [some (.ref s), some (.int (b : Int)), some (.int (e : Int)), some (.ref L), some (.int (f : Int)), some (.ref c), some (.int ((f : Int) + (p.n : Int))), z7, z8] H'
    rw [eb]
    refine ⟨_, rfl, _, rfl, max2 ⟨_, rfl, _, rfl, min2 ⟨_, _, rfl, ?_⟩⟩⟩
    have s2 : Same H' H' := Same.refl _
    have hL2 := hL
    have hc2 := hc
    have h32 := h3
    refine ⟨_, rfl, _, rfl, _, _, rfl, rfl, _, rfl, ?_⟩
    by_cases q : max b f < min e g
    · rw [decide_eq_true (show ((max b f : Nat) : Int) < ((min e g : Nat) : Int) by omega)]
      rw [if_pos q] at ep
      refine iteT ⟨_, rfl, .inl ⟨rfl, _, sqL hL2⟩, _, rfl, _, rfl, _, rfl, _, _, rfl, rfl, _, rfl, _, rfl, _, _, rfl, rfl, c, p, max b f - f, min e g - f, _, _, rfl, by omega, by omega, by omega, by omega, h32, fun r H3 s3 hr => ?_⟩
      refine ⟨L, _, _, rfl, rfl, s3 _ _ hL2, by rw [List.length_map]; exact Nat.lt_of_le_of_lt lc (by decide), ?_⟩
      have tm : TM H3 (upd H3 L (.lst (cs.map V.ref ++ [.ref r]))) := fun a xs h => updN (ne_of h (s3 _ _ hL2) (by intro z; cases z)) h
      refine ⟨_, rfl, Same.updI ((s1.trans s2).trans s3) nL, cs ++ [r], _, _, _, _, ?_, ?_, rfl⟩
      · rw [updS, List.map_append]
        rfl
      · rw [ep]
        exact ((hc2.mono (PcAt.mono' (.of s3))).snoc hr).mono (PcAt.mono' tm)
    · rw [decide_eq_false (show ¬ ((max b f : Nat) : Int) < ((min e g : Nat) : Int) by omega)]
      rw [if_neg q, List.append_nil] at ep
      refine iteF ⟨_, rfl, s1.trans s2, cs, _, _, _, _, hL2, ?_, rfl⟩
      rw [ep]
      exact hc2
  · rintro σ H' ⟨s1, cs, z5, z6, z7, z8, hL, hc, rfl⟩
    rw [List.length_map, hp.1, List.take_of_length_le (Nat.le_refl _)] at hc
    exact ⟨_, rfl, k L cs H' s1 hL hc⟩
theorem join_snoc {f ps : List Pc} {i : Nat} {p : Pc} (h : ps[i]? = some p) : join f (ps.take (i + 1)) = join f (ps.take i) ++ sub f p := by
  rw [take_succ h, join_append]
  show _ ++ (sub f p ++ []) = _
  rw [List.append_nil]
theorem join_len {f ps : List Pc} (hf : ScOk f) (hp : ScOk ps) (fit : ∀ p ∈ ps, p.fits (total f)) (i : Nat) : (join f (ps.take i)).length ≤ 40 := by
  have o : ScOk (ps.take i) := ⟨fun p h => hp.ok p (List.mem_of_mem_take h), Nat.le_trans (total_take_le i) hp.few⟩
  exact (join_ok hf o (fun p h => fit p (List.mem_of_mem_take h))).len
theorem pure_joined (h : sp_joined K vs H Q E) : t_joined K { nx := fun _ H' => Q .non H', rt := Q } (start N_joined vs) H := by
  obtain ⟨B, s1, s2, bs, one, other, rfl, hB, sc1, ok1, fit1, sc2, ok2, fit2, k⟩ := h
  have lm := makes_len fit1
  refine ⟨_, rfl, _, rfl, B, s1, bs, one, rfl, hB, sc1, ok1, fit1, fun H1 g1 => ?_⟩
  refine ⟨_, rfl, _, rfl, B, s1, bs, one, rfl, g1 _ _ hB, sc1.mono (.of g1), ok1, fit1, fun M H2 g2 hM => ⟨_, rfl, M, s2, makes bs one, other, rfl, hM, sc2.mono (.of (g1.trans g2)), ok2, by rw [lm]; exact fit2, fun H3 g3 => ?_⟩⟩
  have g : Same H H3 := (g1.trans g2).trans g3
  have c1 := sc1.mono (.of g)
  obtain ⟨as, ha, hp⟩ := sc2.mono (.of g)
  clear g1 g2 g3 hM sc1 sc2
  refine ⟨Nat.zero_le _, fun L nL => ⟨_, rfl, s2, rfl, ⟨_, sqT (updN (ne_of_none ha nL) ha)⟩, ?_⟩⟩
  refine for_tup (K := K) (a := s2) (xs := as.map V.ref) (fun i σ H' => Same H3 H' ∧ ∃ (cs : List Addr) (z4 : Option V), H' L = some (.lst (cs.map V.ref)) ∧ LsAt (PcAt H') cs (join one (other.take i)) ∧ σ = [some (.ref B), some (.ref s1), some (.ref s2), some (.ref L), z4]) ⟨Same.upd nL, [], none, updS, .nil, rfl⟩ (fun i σ H' _ p => sqT (p.1 _ _ ha)) ?_ ?_
  · rintro i x σ H' hx ⟨q1, cs, z4, hL, hc, rfl⟩
    obtain ⟨c, p, rfl, h1, h2, h3⟩ := sc_get (hp.mono (.of q1)) hx
    have lc : cs.length ≤ 40 := by rw [hc.1]; exact join_len ok1 ok2 fit2 i
    have f := fit2 p (List.mem_of_getElem? h2)
    have ej := join_snoc (f := one) h2
    have l1 := join_len ok1 ok2 fit2 (i + 1)
    cases p with
    | take b m =>
      refine ⟨_, rfl, ixT h3 rfl ⟨rfl, _, rfl, ?_⟩⟩
      rw [take_put]
      refine iteF ⟨_, rfl, .inl ⟨rfl, _, sqL hL⟩, _, rfl, _, rfl, ixT h3 rfl ⟨_, rfl, ixT h3 rfl ⟨_, rfl, ixT h3 rfl ⟨_, _, rfl, rfl, s1, one, b, b + m, _, _, rfl, rfl, by omega, c1.mono (.of q1), Nat.le_trans ok1.len (by decide), fun M ds H4 g4 hM hd => ?_⟩⟩⟩⟩
      rw [part_eq (Pos.of_ok ok1.ok)] at hd
      have ld : ds.length ≤ 40 := by
        rw [hd.1]
        rw [ej, List.length_append] at l1
        have : (sub one (.take b m)).length = (tk m (dr b one)).length := rfl
        omega
      have tm : TM H4 (upd H4 L (.lst (cs.map V.ref ++ ds.map V.ref))) := fun a xs h => updN (ne_of h (g4 _ _ hL) (by intro z; cases z)) h
      refine ⟨L, M, _, _, rfl, rfl, g4 _ _ hL, .inl hM, by rw [List.length_map, List.length_map]; omega, Same.updI (q1.trans g4) nL, cs ++ ds, _, ?_, ?_, rfl⟩
      · rw [updS, List.map_append]
      · rw [ej]
        exact ((hc.mono (PcAt.mono' (.of g4))).append hd).mono (PcAt.mono' tm)
    | put rs =>
      have h30 := h3
      obtain ⟨q, h4, h5⟩ := h3
      refine ⟨_, rfl, ixT h4 rfl ⟨rfl, _, rfl, ?_⟩⟩
      rw [decide_eq_true rfl]
      have tm : TM H' (upd H' L (.lst (cs.map V.ref ++ [.ref c]))) := fun a xs h => updN (ne_of h hL (by intro z; cases z)) h
      refine iteT ⟨_, rfl, .inl ⟨rfl, _, sqL hL⟩, _, rfl, L, _, _, rfl, rfl, hL, by rw [List.length_map]; exact Nat.lt_of_le_of_lt lc (by decide), Same.updI q1 nL, cs ++ [c], _, ?_, ?_, rfl⟩
      · rw [updS, List.map_append]
        rfl
      · rw [ej]
        exact (hc.snoc h30).mono (PcAt.mono' tm)
  · rintro σ H' ⟨q1, cs, z4, hL, hc, rfl⟩
    rw [List.length_map, hp.1, List.take_of_length_le (Nat.le_refl _)] at hc
    refine ⟨_, rfl, L, _, rfl, .inl ⟨sqL hL, fun r nr => k r _ ((g.trans q1).trans (Same.upd nr)) ⟨cs, updS, hc.mono (PcAt.mono' (.of (Same.upd nr)))⟩⟩⟩
theorem pure_l_is_line (h : sp_l_is_line K vs H Q E) : t_l_is_line K { nx := fun _ H' => Q .non H', rt := Q } (start N_l_is_line vs) H := by
  obtain ⟨z, rfl, o, k⟩ := h
  refine ⟨_, rfl, isi (.base (.str z)) k_ss ⟨_, rfl, iteF ⟨_, rfl, lenS (Nat.le_trans o.1 (by decide)) ⟨_, _, rfl, rfl, _, rfl, ?_⟩⟩⟩⟩
  rw [decide_eq_false (show ¬ (40 : Int) < ((z.length : Nat) : Int) by have := o.1; show ¬ (40 : Int) < ((z.cps.size : Nat) : Int); omega)]
  refine iteF ⟨_, rfl, z, rfl, for_it walk_str (fun i σ H' => H' = H ∧ ∃ w, σ = [some (.str z), w]) ⟨rfl, none, rfl⟩ (fun _ _ _ _ _ => True.intro) ?_ ?_⟩
  · rintro i x σ H' H'' hi ⟨rfl, w, rfl⟩ ⟨rfl, c, hc, rfl⟩
    have oc : OkC c := o.2 c (by obtain ⟨q1, q2⟩ := Array.getElem?_eq_some_iff.mp hc; rw [← q2]; exact Array.getElem_mem_toList q1)
    have n1 := blank_le oc.1
    have n2 := le_tilde oc.2.1
    rw [Bool.not_eq_true'] at n1 n2
    refine ⟨_, rfl, _, _, rfl, rfl, _, rfl, ?_⟩
    rw [n1]
    refine iteF ⟨_, rfl, _, _, rfl, rfl, _, rfl, ?_⟩
    rw [n2]
    exact iteF ⟨rfl, _, rfl⟩
  · rintro σ H' ⟨rfl, w, rfl⟩
    exact k
theorem pure_l_size (h : sp_l_size K vs H Q E) : t_l_size K { nx := fun _ H' => Q .non H', rt := Q } (start N_l_size vs) H := by
  obtain ⟨a, p, rfl, ha, ok, k⟩ := h
  cases p with
  | take b m =>
    have ok : 1 ≤ m := ok
    refine ⟨_, rfl, isi (.base (.tup ha)) k_tt ⟨_, rfl, iteF ⟨_, rfl, lenT ha ⟨_, _, rfl, rfl, _, rfl, iteF ⟨_, rfl, ixT ha rfl (isi (.base (.str _)) k_ss ⟨_, rfl, iteF ?_⟩)⟩⟩⟩⟩⟩
    refine ⟨_, rfl, ixT ha rfl ⟨rfl, _, rfl, ?_⟩⟩
    rw [decide_eq_true rfl]
    refine iteT ⟨_, rfl, lenT ha ⟨rfl, _, rfl, iteT ⟨_, rfl, ixT ha rfl ⟨_, rfl, _, rfl, iteT ⟨_, rfl, ixT ha rfl ⟨_, rfl, _, rfl, iteT ?_⟩⟩⟩⟩⟩⟩
    refine ⟨_, rfl, ixT ha rfl ⟨_, _, rfl, rfl, _, rfl, ?_⟩⟩
    rw [decide_eq_true (show (0 : Int) ≤ (b : Int) by omega)]
    refine iteT ⟨_, rfl, ixT ha rfl ⟨_, _, rfl, rfl, _, rfl, ?_⟩⟩
    rw [decide_eq_true (show (1 : Int) ≤ (m : Int) by omega)]
    exact iteT ⟨_, rfl, ixT ha rfl k⟩
  | put rs =>
    obtain ⟨r, h1, h2⟩ := ha
    refine ⟨_, rfl, isi (.base (.tup h1)) k_tt ⟨_, rfl, iteF ⟨_, rfl, lenT h1 ⟨_, _, rfl, rfl, _, rfl, iteF ⟨_, rfl, ixT h1 rfl (isi (.base (.str _)) k_ss ⟨_, rfl, iteF ?_⟩)⟩⟩⟩⟩⟩
    refine ⟨_, rfl, ixT h1 rfl ⟨rfl, _, rfl, ?_⟩⟩
    rw [put_take]
    refine iteF (iteF ⟨_, rfl, ixT h1 rfl ⟨rfl, _, rfl, ?_⟩⟩)
    rw [decide_eq_true rfl]
    refine iteF ⟨_, rfl, lenT h1 ⟨rfl, _, rfl, iteF ⟨_, rfl, ixT h1 rfl (isi (.base (.tup h2)) k_tt ⟨_, rfl, iteF ?_⟩)⟩⟩⟩
    refine ⟨_, rfl, ixT h1 rfl ⟨r, rfl, ⟨_, sqT h2⟩, for_tup (K := K) (a := r) (xs := rs.map V.str) (fun i σ H' => H' = H ∧ ∃ w, σ = [some (.ref a), w]) ⟨rfl, none, rfl⟩ (fun _ _ _ _ p => by rw [p.1]; exact sqT h2) ?_ ?_⟩⟩
    · rintro i x σ H' hx ⟨rfl, w, rfl⟩
      rw [List.getElem?_map] at hx
      cases q : rs[i]? with
      | none => rw [q] at hx; cases hx
      | some z =>
        rw [q] at hx
        cases Option.some.inj hx
        exact ⟨_, rfl, z, rfl, ok.2 z (List.mem_of_getElem? q), _, rfl, iteF ⟨rfl, _, rfl⟩⟩
    · rintro σ H' ⟨rfl, w, rfl⟩
      refine ⟨_, rfl, ixT h1 rfl (lenT h2 ?_)⟩
      rw [List.length_map]
      exact k
end
end Fw

set_option Elab.async false
set_option linter.all false
set_option maxRecDepth 100000
set_option maxHeartbeats 4000000
namespace Fw
open PySem L2 RZ RT
def lastOf (l : List (Nat × Nat)) : Nat → Int
  | 0 => -1
  | j + 1 => match l[j]? with
    | some x => (x.1 : Int)
    | none => -1
theorem lastOf_succ {l : List (Nat × Nat)} {j : Nat} {x : Nat × Nat} (h : l[j]? = some x) : lastOf l (j + 1) = (x.1 : Int) := by
  show (match l[j]? with | some x => (x.1 : Int) | none => -1) = _
  rw [h]
theorem step_len (acc : List Gp) (s : Nat × Nat) : (step acc s).length ≤ acc.length + 1 := by
  unfold step
  cases acc.getLast? with
  | none =>
    show (acc ++ [_]).length ≤ _
    rw [List.length_append]
    exact Nat.le_refl _
  | some g =>
    show (if g.1 = s.1 then acc.dropLast ++ [(g.1, g.2.1, s.2 + 1)] else acc ++ [(s.1, s.2, s.2 + 1)]).length ≤ _
    by_cases q : g.1 = s.1
    · rw [if_pos q, List.length_append, List.length_dropLast]
      show acc.length - 1 + 1 ≤ _
      omega
    · rw [if_neg q, List.length_append]
      exact Nat.le_refl _
theorem fold_len : ∀ (l : List (Nat × Nat)) (acc : List Gp), (l.foldl step acc).length ≤ acc.length + l.length
  | [], acc => Nat.le_refl _
  | s :: l, acc => by
    show (l.foldl step (step acc s)).length ≤ _
    have a := fold_len l (step acc s)
    have b := step_len acc s
    rw [List.length_cons]
    omega
theorem grp_len (l : List (Nat × Nat)) : (grp l).length ≤ l.length := by
  have := fold_len l []
  rw [List.length_nil, Nat.zero_add] at this
  exact this
theorem grp_same {l : List (Nat × Nat)} (cq : Cq l) {j i pl : Nat} (hx : l[j]? = some (i, pl)) (q : (i : Int) = lastOf l j) : ∃ init lo, lo < pl ∧ grp (l.take j) = init ++ [(i, lo, pl)] ∧ grp (l.take (j + 1)) = init ++ [(i, lo, pl + 1)] := by
  have hj := (List.getElem?_eq_some_iff.mp hx).1
  cases j with
  | zero =>
    have q : (i : Int) = -1 := q
    omega
  | succ j =>
    obtain ⟨init, i0, lo, pl0, h1, h2, h3⟩ := grp_inv cq j (by omega)
    rw [lastOf_succ h3] at q
    have e : i0 = i := by
      have q : (i : Int) = (i0 : Int) := q
      omega
    subst e
    have c : pl = pl0 + 1 := cq j _ _ h3 hx rfl
    subst c
    refine ⟨init, lo, by omega, h1, ?_⟩
    rw [grp_snoc hx, h1, step_same]
theorem grp_new {l : List (Nat × Nat)} (cq : Cq l) {j i pl : Nat} (hx : l[j]? = some (i, pl)) (q : (i : Int) ≠ lastOf l j) : grp (l.take (j + 1)) = grp (l.take j) ++ [(i, pl, pl + 1)] := by
  have hj := (List.getElem?_eq_some_iff.mp hx).1
  cases j with
  | zero =>
    rw [grp_snoc hx, List.take_zero]
    rfl
  | succ j =>
    obtain ⟨init, i0, lo, pl0, h1, h2, h3⟩ := grp_inv cq j (by omega)
    rw [lastOf_succ h3] at q
    rw [grp_snoc hx, h1]
    exact step_new _ _ _ _ _ _ (fun e => q (by rw [e]))
theorem tp_take {ps : List Pc} {i b m lo hi : Nat} (h : ps[i]? = some (.take b m)) : tpAt ps (i, lo, hi) = .take lo hi := by
  unfold tpAt
  rw [h]
theorem tp_put {ps : List Pc} {i lo hi : Nat} {rs : List Str} (h : ps[i]? = some (.put rs)) : tpAt ps (i, lo, hi) = .put ((rs.drop lo).take (hi - lo)) := by
  unfold tpAt
  rw [h]
section
variable {K : PySem.W.Frag} {vs : List V} {H : Hp} {Q : VK} {E : XK}
def TuI (H : Hp) (s L F : Addr) (ps : List Pc) (part : List (Nat × Nat)) (j : Nat) (σ : L2.St) (H' : Hp) : Prop := Same H H' ∧ ∃ (fs : List Addr) (z4 z5 z6 : Option V), H' F = some (.lst (fs.map V.ref)) ∧ LsAt (PcAt H') fs ((grp (part.take j)).map (tpAt ps)) ∧
  σ = [some (.ref s), some (.ref L), some (.ref F), some (.int (lastOf part j)), z4, z5, z6]
theorem pop_last {fs : List Addr} {a : Addr} : ((fs ++ [a]).map V.ref)[((fs ++ [a]).map V.ref).length - 1]? = some (.ref a) := by
  rw [List.map_append, List.length_append]
  show (fs.map V.ref ++ [V.ref a])[(fs.map V.ref).length + 1 - 1]? = _
  rw [Nat.add_sub_cancel, List.getElem?_append_right (Nat.le_refl _), Nat.sub_self]
  rfl
theorem pop_rest {fs : List Addr} {a : Addr} : ((fs ++ [a]).map V.ref).dropLast = fs.map V.ref := by
  rw [List.map_append]
  exact List.dropLast_concat ..
theorem pure_l_turned (h : sp_l_turned K vs H Q E) : t_l_turned K { nx := fun _ H' => Q .non H', rt := Q } (start N_l_turned vs) H := by
  obtain ⟨s, L, ps, bs, part, rfl, ⟨as, ha, hp⟩, hL, hb, hz, cq, hn, val, k⟩ := h
  refine ⟨Nat.zero_le _, fun F nF => ⟨_, rfl, ⟨_, rfl, L, rfl, ⟨_, sqL (updN (ne_of_none hL nF) hL)⟩, ?_⟩⟩⟩
  refine for_list (K := K) (a := L) (xs := bs.map V.ref) (TuI H s L F ps part) ⟨Same.upd nF, [], none, none, none, updS, .nil, rfl⟩ (fun i σ H' _ p => sqL (p.1 _ _ hL)) ?_ ?_
  · rintro j x σ H' hx ⟨s1, fs, z4, z5, z6, hF, hf, rfl⟩
    obtain ⟨a, rfl, hba⟩ := map_ref_get hx
    obtain ⟨⟨i, pl⟩, hpx, hpr⟩ := hb.get hba
    have hpr1 : H' a = some (.tup [.int (i : Int), .int (pl : Int)]) := s1 _ _ hpr
    obtain ⟨p, hpi, hpl⟩ := val _ (List.mem_of_getElem? hpx)
    obtain ⟨c, hac, hpc⟩ := LsAt.at (R := PcAt H) hp hpi
    have h3 := hpc.mono (.of s1)
    have hpl : pl < p.n := hpl
    have lf : fs.length ≤ 1000 := by
      rw [hf.1, List.length_map]
      have := grp_len (part.take j)
      rw [List.length_take] at this
      omega
    refine ⟨a, _, rfl, sqT hpr1, rfl, _, _, rfl, _, _, rfl, rfl, _, rfl, _, rfl, ixT (s1 _ _ ha) (atI_ref hac) ?_⟩
    have el := lastOf_succ hpx
    -- the new group at T, behind fs'
    have fin : ∀ (T : Addr) (fs' : List Addr) (H2 : Hp) (Dn : Ends), (∀ σ H', TuI H s L F ps part (j + 1) σ H' → Dn.nx σ H') → Same H H2 → H2 F = some (.lst (fs'.map V.ref)) → fs'.length ≤ 1000 → LsAt (PcAt H2) (fs' ++ [T]) ((grp (part.take (j + 1))).map (tpAt ps)) →
        rAppend (.ref F) [.ref T] H2 fun _ H4 => t_l_turned_fin K Dn [some (.ref s), some (.ref L), some (.ref F), some (.int (lastOf part j)), some (.int (i : Int)), some (.int (pl : Int)), some (.ref c)] H4 := by
      intro T fs' H2 Dn kd s2 hF2 hz2 hl2
      have tm : TM H2 (upd H2 F (.lst (fs'.map V.ref ++ [.ref T]))) := fun a xs h => updN (ne_of h hF2 (by intro z; cases z)) h
      refine ⟨F, _, _, rfl, rfl, hF2, by rw [List.length_map]; exact Nat.lt_of_le_of_lt hz2 (by decide), ⟨_, rfl, kd _ _ ⟨Same.updI s2 nF, fs' ++ [T], some (.int (i : Int)), some (.int (pl : Int)), some (.ref c), by rw [updS, List.map_append]; rfl, hl2.mono (PcAt.mono' tm), ?_⟩⟩⟩
      rw [el]
      rfl
    have upF : ∀ (ws : List V), TM H' (upd H' F (.lst ws)) := fun ws a xs h => updN (ne_of h hF (by intro z; cases z)) h
    cases p with
    | take b m =>
      refine ⟨_, rfl, ixT h3 rfl ⟨rfl, _, rfl, ?_⟩⟩
      rw [decide_eq_true rfl]
      refine iteT ⟨_, rfl, _, rfl, rfl, _, rfl, ?_⟩
      by_cases q : (i : Int) = lastOf part j
      · obtain ⟨init, lo, hlo, g1, g2⟩ := grp_same cq hpx q
        rw [g1, List.map_append] at hf
        obtain ⟨fs', a0, rfl, hf1, hf2⟩ := hf.unsnoc
        rw [tp_take hpi] at hf2
        rw [decide_eq_true (show V.int (i : Int) = V.int (lastOf part j) by rw [q])]
        refine iteT ⟨_, rfl, .inl ⟨rfl, _, sqL hF⟩, _, rfl, .inl ⟨rfl, _, sqL hF⟩, F, _, .ref a0, rfl, rfl, hF, pop_last, ?_⟩
        rw [pop_rest]
        refine ixT (upF _ _ _ hf2) rfl ⟨_, rfl, _, _, rfl, rfl, by show (3 : Nat) ≤ sizeLine; decide, fun T nT => ?_⟩
        have nTF : F ≠ T := fun e => by rw [← e, updS] at nT; cases nT
        refine fin T fs' _ _ (fun _ _ z => z) (fun b o e => ?_) (updN nTF updS) (by rw [List.length_append] at lf; omega) ?_
        · refine Same.upd nT b o ?_
          exact updN (ne_of_none e nF) (s1 _ _ e)
        · have tm2 := (upF (fs'.map V.ref)).trans (.of (Same.upd (o := .tup [.str "take", .int (lo : Int), .int ((pl : Int) + 1)]) nT))
          rw [g2, List.map_append]
          refine (hf1.mono (PcAt.mono' tm2)).snoc ?_
          rw [tp_take hpi]
          show upd _ _ _ _ = some (.tup [.str "take", .int (lo : Int), .int ((pl + 1 : Nat) : Int)])
          rw [updS, show ((pl + 1 : Nat) : Int) = (pl : Int) + 1 by omega]
      · rw [decide_eq_false (show ¬ V.int (i : Int) = V.int (lastOf part j) by intro e; injection e with e; exact q e)]
        refine iteF ⟨_, rfl, ixT h3 rfl ⟨rfl, _, rfl, ?_⟩⟩
        rw [decide_eq_true rfl]
        refine iteT ⟨_, rfl, .inl ⟨rfl, _, sqL hF⟩, _, rfl, _, rfl, _, _, rfl, rfl, by show (3 : Nat) ≤ sizeLine; decide, fun T nT => ?_⟩
        refine fin T fs _ _ (fun _ _ z => z) (s1.trans (Same.upd nT)) (Same.upd nT _ _ hF) lf ?_
        rw [grp_new cq hpx q, List.map_append]
        refine (hf.mono (PcAt.mono' (.of (Same.upd nT)))).snoc ?_
        rw [tp_take hpi]
        show upd _ _ _ _ = some (.tup [.str "take", .int (pl : Int), .int ((pl + 1 : Nat) : Int)])
        rw [updS, show ((pl + 1 : Nat) : Int) = (pl : Int) + 1 by omega]
    | put rs =>
      obtain ⟨r, h4, h5⟩ := h3
      have hpl : pl < rs.length := hpl
      refine ⟨_, rfl, ixT h4 rfl ⟨rfl, _, rfl, ?_⟩⟩
      rw [put_take]
      refine iteF (iteF ⟨_, rfl, ixT h4 rfl ⟨rfl, _, rfl, ?_⟩⟩)
      rw [put_take]
      refine iteF ⟨_, rfl, _, rfl, rfl, _, rfl, ?_⟩
      by_cases q : (i : Int) = lastOf part j
      · obtain ⟨init, lo, hlo, g1, g2⟩ := grp_same cq hpx q
        rw [g1, List.map_append] at hf
        obtain ⟨fs', a0, rfl, hf1, hf2⟩ := hf.unsnoc
        rw [tp_put hpi] at hf2
        obtain ⟨r0, h6, h7⟩ := hf2
        rw [decide_eq_true (show V.int (i : Int) = V.int (lastOf part j) by rw [q])]
        refine iteT ⟨_, rfl, .inl ⟨rfl, _, sqL hF⟩, _, rfl, .inl ⟨rfl, _, sqL hF⟩, F, _, .ref a0, rfl, rfl, hF, pop_last, ?_⟩
        rw [pop_rest]
        have s2 : Same H (upd H' F (.lst (fs'.map V.ref))) := Same.updI s1 nF
        have hF2 : upd H' F (.lst (fs'.map V.ref)) F = some (.lst (fs'.map V.ref)) := updS
        have tm2 := upF (fs'.map V.ref)
        generalize upd H' F (.lst (fs'.map V.ref)) = H2 at *
        refine ixT (tm2 _ _ h6) rfl ⟨_, rfl, ixT (tm2 _ _ h4) rfl ⟨_, rfl, _, rfl, _, rfl, _, _, rfl, rfl, _, rfl, ?_⟩⟩
        refine slA (m := 1) (tm2 _ _ h5) (by omega) fun r2 H3 s3 w3 => ?_
        have n1 : ((rs.drop lo).take (pl - lo)).map V.str ≠ [] := fun e => by
          have := congrArg List.length e
          rw [List.length_map, List.length_take, List.length_drop] at this
          simp at this
          omega
        have n2 : ((rs.drop pl).take 1).map V.str ≠ [] := fun e => by
          have := congrArg List.length e
          rw [List.length_map, List.length_take, List.length_drop] at this
          simp at this
          omega
        refine ⟨r0, r2, _, _, rfl, rfl, sqT (s3 _ _ (tm2 _ _ h7)), sqT w3, n1, ?_, fun e => absurd e n2, fun _ R nR => ⟨by show (2 : Nat) ≤ sizeLine; decide, fun T nT => ?_⟩⟩
        · have hB : rs.length ≤ 1000 := hn _ (List.mem_of_getElem? hpi)
          rw [List.length_map, List.length_map, List.length_take, List.length_take, List.length_drop, List.length_drop]
          exact Nat.le_trans (show _ ≤ 100000 by omega) (by decide)
        have s4 : Same H2 (upd (upd H3 R (.tup (((rs.drop lo).take (pl - lo)).map V.str ++ ((rs.drop pl).take 1).map V.str))) T (.tup [.str "put", .ref R])) := (s3.trans (Same.upd nR)).trans (Same.upd nT)
        have nRT : R ≠ T := fun e => by rw [← e, updS] at nT; cases nT
        refine fin T fs' _ _ (fun _ _ z => z) (s2.trans s4) (s4 _ _ hF2) (by rw [List.length_append] at lf; omega) ?_
        rw [g2, List.map_append]
        refine (hf1.mono (PcAt.mono' (tm2.trans (.of s4)))).snoc ?_
        rw [tp_put hpi]
        refine ⟨R, updS, updN nRT ?_⟩
        rw [updS, ← List.map_append, show pl + 1 - lo = (pl - lo) + 1 by omega, List.take_add, List.drop_drop, show lo + (pl - lo) = pl by omega]
      · rw [decide_eq_false (show ¬ V.int (i : Int) = V.int (lastOf part j) by intro e; injection e with e; exact q e)]
        refine iteF ⟨_, rfl, .inl ⟨rfl, _, sqL hF⟩, _, rfl, ixT h4 rfl ⟨_, rfl, _, rfl, _, rfl, _, _, rfl, rfl, _, rfl, ?_⟩⟩
        refine slA (m := 1) h5 (by omega) fun r2 H3 s3 w3 => ⟨by show (2 : Nat) ≤ sizeLine; decide, fun T nT => ?_⟩
        have s4 := s3.trans (Same.upd (o := .tup [.str "put", .ref r2]) nT)
        refine fin T fs _ _ (fun _ _ z => z) (s1.trans s4) (s4 _ _ hF) lf ?_
        rw [grp_new cq hpx q, List.map_append]
        refine (hf.mono (PcAt.mono' (.of s4))).snoc ?_
        rw [tp_put hpi]
        refine ⟨r2, updS, Same.upd nT _ _ ?_⟩
        rw [show pl + 1 - pl = 1 by omega]
        exact w3
  · rintro σ H' ⟨s1, fs, z4, z5, z6, hF, hf, rfl⟩
    rw [List.length_map, hb.1, List.take_of_length_le (Nat.le_refl _)] at hf
    exact ⟨_, rfl, k F fs H' s1 nF hF hf⟩
theorem ivs_le : ∀ {ps : List Pc} {k b m : Nat} {g : Gp}, g ∈ ivs k b m ps → g.2.1 ≤ g.2.2 ∧ k ≤ g.1 ∧ ∃ p, ps[g.1 - k]? = some p
  | p :: ps, k, b, m, g, h => by
    have h : g ∈ (if p.n ≤ b then ivs (k + 1) (b - p.n) m ps else if m = 0 then [] else (k, b, b + min m (p.n - b)) :: ivs (k + 1) 0 (m - (p.n - b)) ps) := h
    have up : ∀ {b m : Nat}, g ∈ ivs (k + 1) b m ps → g.2.1 ≤ g.2.2 ∧ k ≤ g.1 ∧ ∃ q, (p :: ps)[g.1 - k]? = some q := fun h => by
      obtain ⟨h1, h2, q, h3⟩ := ivs_le h
      refine ⟨h1, by omega, q, ?_⟩
      rw [show g.1 - k = (g.1 - (k + 1)) + 1 by omega]
      exact h3
    by_cases q : p.n ≤ b
    · rw [if_pos q] at h
      exact up h
    · rw [if_neg q] at h
      by_cases z : m = 0
      · rw [if_pos z] at h
        cases h
      · rw [if_neg z] at h
        rcases List.mem_cons.mp h with e | h
        · rw [e]
          refine ⟨by show b ≤ b + _; omega, Nat.le_refl _, p, ?_⟩
          show (p :: ps)[k - k]? = _
          rw [Nat.sub_self]
          rfl
        · exact up h
theorem grp_mem {ps : List Pc} {b m : Nat} {g : Gp} (h : g ∈ grp (((spots 0 ps).drop b).take m)) : g.2.1 ≤ g.2.2 ∧ ∃ p, ps[g.1]? = some p := by
  unfold grp at h
  rw [fold_spots ps 0 b m [] (fun _ h => by cases h), List.nil_append] at h
  obtain ⟨h1, _, h3⟩ := ivs_le h
  exact ⟨h1, h3⟩
theorem cutV_nat {cs : List Addr} {b m : Nat} (h : b + m ≤ cs.length) : cutV (cs.map V.ref) (some (b : Int)) (some ((b : Int) + (m : Int))) = ((cs.drop b).take m).map V.ref := by
  unfold cutV
  have e1 : HT.sIx (cs.map V.ref).length 0 (some (b : Int)) = b := by rw [HT.sIx_nat, List.length_map]; omega
  have e2 : HT.sIx (cs.map V.ref).length (cs.map V.ref).length (some ((b : Int) + (m : Int))) = b + m := by
    rw [show ((b : Int) + (m : Int)) = ((b + m : Nat) : Int) by omega, HT.sIx_nat, List.length_map]
    omega
  rw [e1, e2, Nat.add_sub_cancel_left, ← List.map_drop, ← List.map_take]
def fst2 (g : Gp) : Nat × Nat := (g.1, g.2.1)
theorem cut_tp {ps : List Pc} {i lo hi : Nat} {rs : List Str} (h : ps[i]? = some (.put rs)) : cutAt ps (i, lo, hi) = tpAt ps (i, lo, hi) := by
  unfold cutAt tpAt
  rw [h]
  rfl
theorem cut_take {ps : List Pc} {i lo hi b m : Nat} (h : ps[i]? = some (.take b m)) : cutAt ps (i, lo, hi) = .take (b + lo) (hi - lo) := by
  unfold cutAt
  rw [h]
  rfl
theorem TM.kp {D : Addr} {H H' : Hp} {ws : List V} (k : Kp D H H') (h : H D = some (.lst ws)) : TM H H' := fun a xs e => k a _ e (ne_of e h (by intro z; cases z))
/-- the last loop: the groups, cut -/
theorem joined_last {s1 s2 L Du P F G : Addr} {as1 ds fs gs : List Addr} {one : List Pc} {done : List Pc} {part : List (Nat × Nat)} {z3 z4 z6 z10 z11 : Option V} {Dn : Ends} (b m : Nat) (hpt : part = ((spots 0 one).drop b).take m)
    (ha1 : H s1 = some (.tup (as1.map V.ref))) (hp1 : LsAt (PcAt H) as1 one) (hDu : H Du = some (.lst (ds.map V.ref))) (hds : LsAt (PcAt H) ds done) (hF : H F = some (.lst (fs.map V.ref))) (hfs : LsAt (PcAt H) fs ((grp part).map (tpAt one)))
    (hG : H G = some (.lst (gs.map V.ref))) (hgs : LsAt (PrAt H) gs ((grp part).map fst2)) (nDF : Du ≠ F) (nDG : Du ≠ G) (lp : part.length ≤ 100) (ld : done.length ≤ 100)
    (kd : ∀ (ds' : List Addr) (z10 z11 : Option V) (H' : Hp), Kp Du H H' → H' Du = some (.lst (ds'.map V.ref)) → LsAt (PcAt H') ds' (done ++ (grp part).map (cutAt one)) → Dn.nx [some (.ref s1), some (.ref s2), some (.ref L), z3, z4, some (.ref Du), z6, some (.ref P), some (.ref F), some (.ref G), z10, z11] H') :
    t_l_joined_last K Dn [some (.ref s1), some (.ref s2), some (.ref L), z3, z4, some (.ref Du), z6, some (.ref P), some (.ref F), some (.ref G), z10, z11] H := by
  have lg : (grp part).length ≤ 100 := Nat.le_trans (grp_len _) lp
  have lf : fs.length = (grp part).length := by rw [hfs.1, List.length_map]
  have lgs : gs.length = (grp part).length := by rw [hgs.1, List.length_map]
  refine ⟨_, rfl, lenL hF ⟨_, rfl, (len_le (by rw [List.length_map]; omega)).1, (len_le (by rw [List.length_map]; omega)).2, ?_⟩⟩
  refine for_range (lo := 0) (fun j σ H' => Kp Du H H' ∧ ∃ (ds' : List Addr) (z10 z11 : Option V), H' Du = some (.lst (ds'.map V.ref)) ∧ LsAt (PcAt H') ds' (done ++ ((grp part).take j).map (cutAt one)) ∧ σ = [some (.ref s1), some (.ref s2), some (.ref L), z3, z4, some (.ref Du), z6, some (.ref P), some (.ref F), some (.ref G), z10, z11]) ⟨Kp.refl _ _, ds, z10, z11, hDu, by rw [List.take_zero, List.map_nil, List.append_nil]; exact hds, rfl⟩ ?_ ?_
  · rintro j σ H' hj ⟨kp, ds', y10, y11, hD', hd', rfl⟩
    rw [List.length_map] at hj
    have hj : j < (grp part).length := by omega
    have tm : TM H H' := TM.kp kp hDu
    have eg : (grp part)[j]? = some (grp part)[j] := List.getElem?_eq_getElem hj
    obtain ⟨⟨i, lo, hi⟩, egi⟩ : ∃ g, (grp part)[j]? = some g := ⟨_, eg⟩
    have gm : (i, lo, hi) ∈ grp (((spots 0 one).drop b).take m) := by rw [← hpt]; exact List.mem_of_getElem? egi
    obtain ⟨glo, p, hpi⟩ := grp_mem gm
    have glo : lo ≤ hi := glo
    have hpi : one[i]? = some p := hpi
    obtain ⟨c, hac, hpc⟩ := hp1.at hpi
    have hpc := hpc.mono tm
    obtain ⟨f, hff, hfp⟩ := hfs.at (i := j) (x := tpAt one (i, lo, hi)) (by rw [List.getElem?_map, egi]; rfl)
    obtain ⟨g, hgg, hgp⟩ := hgs.at (i := j) (x := fst2 (i, lo, hi)) (by rw [List.getElem?_map, egi]; rfl)
    have hfp := hfp.mono tm
    have hgp : H' g = some (.tup [.int (i : Int), .int (lo : Int)]) := tm _ _ hgp
    have hF' : H' F = some (.lst (fs.map V.ref)) := kp _ _ hF nDF.symm
    have hG' : H' G = some (.lst (gs.map V.ref)) := kp _ _ hG nDG.symm
    have ef : atI (fs.map V.ref) (0 + (j : Int)) = some (.ref f) := by rw [Int.zero_add]; exact atI_ref hff
    have egx : atI (gs.map V.ref) (0 + (j : Int)) = some (.ref g) := by rw [Int.zero_add]; exact atI_ref hgg
    have ls : ds'.length ≤ 1000 := by
      rw [hd'.1, List.length_append, List.length_map, List.length_take]
      omega
    have nx : ((grp part).take (j + 1)).map (cutAt one) = ((grp part).take j).map (cutAt one) ++ [cutAt one (i, lo, hi)] := by rw [take_succ egi, List.map_append]; rfl
    have app : ∀ (T : Addr) (H2 : Hp) (y11 : Option V), Kp Du H H2 → H2 Du = some (.lst (ds'.map V.ref)) → LsAt (PcAt H2) ds' (done ++ ((grp part).take j).map (cutAt one)) → PcAt H2 T (cutAt one (i, lo, hi)) →
        rAppend (.ref Du) [.ref T] H2 fun _ H4 => Kp Du H H4 ∧ ∃ (ds' : List Addr) (z10 z11 : Option V), H4 Du = some (.lst (ds'.map V.ref)) ∧ LsAt (PcAt H4) ds' (done ++ ((grp part).take (j + 1)).map (cutAt one)) ∧ ([some (.ref s1), some (.ref s2), some (.ref L), z3, z4, some (.ref Du), z6, some (.ref P), some (.ref F), some (.ref G), some (.int (0 + (j : Int))), y11] : L2.St) = [some (.ref s1), some (.ref s2), some (.ref L), z3, z4, some (.ref Du), z6, some (.ref P), some (.ref F), some (.ref G), z10, z11] := by
      intro T H2 y11 k2 hD2 hd2 hT
      have tm2 : TM H2 (upd H2 Du (.lst (ds'.map V.ref ++ [.ref T]))) := fun a xs h => updN (ne_of h hD2 (by intro z; cases z)) h
      refine ⟨Du, _, _, rfl, rfl, hD2, by rw [List.length_map]; exact Nat.lt_of_le_of_lt ls (by decide), fun b o e n => updN n (k2 b o e n), ds' ++ [T], _, _, by rw [updS, List.map_append]; rfl, ?_, rfl⟩
      rw [nx, ← List.append_assoc]
      exact (hd2.snoc hT).mono (PcAt.mono' tm2)
    cases p with
    | take b0 m0 =>
      have hfp : H' f = some (.tup [.str "take", .int (lo : Int), .int (hi : Int)]) := by
        rw [tp_take hpi] at hfp
        exact hfp
      refine ⟨_, rfl, _, rfl, ixL hF' ef (ixT hfp rfl ⟨rfl, _, rfl, ?_⟩)⟩
      rw [take_put]
      refine iteF ⟨_, rfl, _, rfl, _, rfl, ixL hG' egx (ixT hgp rfl (ixT (kp _ _ ha1 (ne_of ha1 hDu (by intro z; cases z))) (atI_ref hac) (ixT hpc rfl ?_)))⟩
      refine ⟨_, rfl, .inl ⟨rfl, _, sqL hD'⟩, _, rfl, _, rfl, _, rfl, ixL hF' ef (ixT hfp rfl ⟨_, _, rfl, rfl, _, rfl, _, rfl, ixL hF' ef (ixT hfp rfl ⟨_, rfl, _, rfl, ixL hF' ef (ixT hfp rfl ⟨_, _, rfl, rfl, by show (3 : Nat) ≤ sizeLine; decide, fun T nT => ?_⟩)⟩)⟩)⟩
      have sT : Same H' (upd H' T (.tup [.str "take", .int ((b0 : Int) + (lo : Int)), .int ((hi : Int) - (lo : Int))])) := Same.upd nT
      refine app T _ _ (kp.trans (.of_same sT)) (sT _ _ hD') (hd'.mono (PcAt.mono' (.of sT))) ?_
      rw [cut_take hpi]
      show upd _ _ _ _ = some (.tup [.str "take", .int ((b0 + lo : Nat) : Int), .int ((hi - lo : Nat) : Int)])
      rw [updS, show ((b0 + lo : Nat) : Int) = (b0 : Int) + (lo : Int) by omega, show ((hi - lo : Nat) : Int) = (hi : Int) - (lo : Int) by omega]
    | put rs =>
      have hfc := hfp
      rw [← cut_tp hpi] at hfc
      rw [tp_put hpi] at hfp
      obtain ⟨r, h4, h5⟩ := hfp
      refine ⟨_, rfl, _, rfl, ixL hF' ef (ixT h4 rfl ⟨rfl, _, rfl, ?_⟩)⟩
      rw [decide_eq_true rfl]
      exact iteT ⟨_, rfl, .inl ⟨rfl, _, sqL hD'⟩, _, rfl, _, rfl, ixL hF' ef (app f _ _ kp hD' hd' hfc)⟩
  · rintro σ H' ⟨kp, ds', y10, y11, hD', hd', rfl⟩
    rw [List.length_map, show (((fs.length : Nat) : Int)).toNat = fs.length by omega, lf, List.take_of_length_le (Nat.le_refl _)] at hd'
    exact kd ds' _ _ H' kp hD' hd'
end
end Fw

set_option Elab.async false
set_option linter.all false
set_option maxRecDepth 100000
set_option maxHeartbeats 4000000
namespace Fw
open PySem L2 RZ RT
section
variable {K : PySem.W.Frag} {vs : List V} {H : Hp} {Q : VK} {E : XK}
theorem joined_firsts {s1 s2 L Du P F : Addr} {as1 ds fs cs : List Addr} {one done : List Pc} {part : List (Nat × Nat)} {z3 z4 z6 z9 z10 z11 : Option V} {Dn : Ends} (b m : Nat) (hpt : part = ((spots 0 one).drop b).take m)
    (ha1 : H s1 = some (.tup (as1.map V.ref))) (hp1 : LsAt (PcAt H) as1 one) (hDu : H Du = some (.lst (ds.map V.ref))) (hds : LsAt (PcAt H) ds done) (hF : H F = some (.lst (fs.map V.ref))) (hfs : LsAt (PcAt H) fs ((grp part).map (tpAt one)))
    (hP : H P = some (.lst (cs.map V.ref))) (hcs : LsAt (PrAt H) cs part) (nDF : Du ≠ F) (lp : part.length ≤ 100) (ld : done.length ≤ 100)
    (kd : ∀ (ds' : List Addr) (z9 z10 z11 : Option V) (H' : Hp), Kp Du H H' → H' Du = some (.lst (ds'.map V.ref)) → LsAt (PcAt H') ds' (done ++ (grp part).map (cutAt one)) → Dn.nx [some (.ref s1), some (.ref s2), some (.ref L), z3, z4, some (.ref Du), z6, some (.ref P), some (.ref F), z9, z10, z11] H') :
    t_l_joined_firsts K Dn [some (.ref s1), some (.ref s2), some (.ref L), z3, z4, some (.ref Du), z6, some (.ref P), some (.ref F), z9, z10, z11] H := by
  have cq : Cq part := by rw [hpt]; exact (spots_cq 0 one).slice b m
  have lc : cs.length = part.length := hcs.1
  refine ⟨Nat.zero_le _, fun G nG => ⟨_, rfl, lenL (updN (ne_of_none hP nG) hP) ⟨_, rfl, (len_le (by rw [List.length_map]; omega)).1, (len_le (by rw [List.length_map]; omega)).2, ?_⟩⟩⟩
  refine for_range (lo := 0) (fun j σ H' => Same H H' ∧ ∃ (gs : List Addr) (z10 : Option V), H' G = some (.lst (gs.map V.ref)) ∧ LsAt (PrAt H') gs ((grp (part.take j)).map fst2) ∧ σ = [some (.ref s1), some (.ref s2), some (.ref L), z3, z4, some (.ref Du), z6, some (.ref P), some (.ref F), some (.ref G), z10, z11]) ⟨Same.upd nG, [], z10, updS, .nil, rfl⟩ ?_ ?_
  · rintro j σ H' hj ⟨s, gs, y10, hG, hg, rfl⟩
    rw [List.length_map] at hj
    have hj : j < part.length := by omega
    obtain ⟨⟨i, pl⟩, hx⟩ : ∃ x, part[j]? = some x := ⟨_, List.getElem?_eq_getElem hj⟩
    obtain ⟨c, hc1, hc2⟩ := hcs.at hx
    have hc3 : H' c = some (.tup [.int (i : Int), .int (pl : Int)]) := s _ _ hc2
    have ec : atI (cs.map V.ref) (0 + (j : Int)) = some (.ref c) := by rw [Int.zero_add]; exact atI_ref hc1
    have lg : gs.length ≤ 1000 := by
      rw [hg.1, List.length_map]
      have := grp_len (part.take j)
      rw [List.length_take] at this
      omega
    have new : (i : Int) ≠ lastOf part j → tDrop (tBM K "list" rAppend (tVar 9) (tCons (tOp (rIx K) (tVar 7) (tVar 10)) tNil)) { nx := fun σ H' => Same H H' ∧ ∃ (gs : List Addr) (z10 : Option V), H' G = some (.lst (gs.map V.ref)) ∧ LsAt (PrAt H') gs ((grp (part.take (j + 1))).map fst2) ∧ σ = [some (.ref s1), some (.ref s2), some (.ref L), z3, z4, some (.ref Du), z6, some (.ref P), some (.ref F), some (.ref G), z10, z11], rt := fun _ _ => False } [some (.ref s1), some (.ref s2), some (.ref L), z3, z4, some (.ref Du), z6, some (.ref P), some (.ref F), some (.ref G), some (.int (0 + (j : Int))), z11] H' := by
      intro q
      have tm : TM H' (upd H' G (.lst (gs.map V.ref ++ [.ref c]))) := fun a xs h => updN (ne_of h hG (by intro z; cases z)) h
      refine ⟨_, rfl, .inl ⟨rfl, _, sqL hG⟩, _, rfl, _, rfl, ixL (s _ _ hP) ec ⟨G, _, _, rfl, rfl, hG, by rw [List.length_map]; exact Nat.lt_of_le_of_lt lg (by decide), Same.updI s nG, gs ++ [c], _, by rw [updS, List.map_append]; rfl, ?_, rfl⟩⟩
      rw [grp_new cq hx q, List.map_append]
      exact (hg.snoc (show PrAt H' c (fst2 (i, pl, pl + 1)) from hc3)).mono (PrAt.mono tm)
    refine ⟨_, rfl, rfl, _, rfl, ?_⟩
    by_cases z : j = 0
    · subst z
      refine ite2 (fun _ => ?_) (fun e => absurd (decide_eq_true (by rfl)) e)
      exact new (by show (i : Int) ≠ -1; omega)
    · obtain ⟨j, rfl⟩ : ∃ w, j = w + 1 := ⟨j - 1, by omega⟩
      rw [decide_eq_false (show ¬ V.int (0 + ((j + 1 : Nat) : Int)) = V.int 0 by intro e; injection e with e; omega)]
      obtain ⟨⟨i', pl'⟩, hx'⟩ : ∃ x, part[j]? = some x := ⟨_, List.getElem?_eq_getElem (by omega)⟩
      obtain ⟨c', hc1', hc2'⟩ := hcs.at hx'
      have hc3' : H' c' = some (.tup [.int (i' : Int), .int (pl' : Int)]) := s _ _ hc2'
      have ec' : atI (cs.map V.ref) (0 + ((j + 1 : Nat) : Int) - 1) = some (.ref c') := by
        rw [show (0 + ((j + 1 : Nat) : Int) - 1) = (j : Int) by omega]
        exact atI_ref hc1'
      have el := lastOf_succ hx'
      refine iteF ⟨_, rfl, _, rfl, ixL (s _ _ hP) ec (ixT hc3 rfl ⟨_, rfl, _, rfl, _, _, rfl, rfl, ixL (s _ _ hP) ec' (ixT hc3' rfl ⟨rfl, _, rfl, ?_⟩)⟩)⟩
      by_cases q : (i : Int) = (i' : Int)
      · rw [decide_eq_true (show V.int (i : Int) = V.int (i' : Int) by rw [q])]
        obtain ⟨init, lo, hlo, g1, g2⟩ := grp_same cq hx (by rw [el]; exact q)
        refine iteF ⟨s, gs, _, hG, ?_, rfl⟩
        rw [g1] at hg
        rw [g2]
        rw [List.map_append] at hg ⊢
        exact hg
      · rw [decide_eq_false (show ¬ V.int (i : Int) = V.int (i' : Int) by intro e; injection e with e; exact q e)]
        exact iteT (new (by rw [el]; exact q))
  · rintro σ H' ⟨s, gs, y10, hG, hg, rfl⟩
    rw [List.length_map, show (((cs.length : Nat) : Int)).toNat = cs.length by omega, lc, List.take_of_length_le (Nat.le_refl _)] at hg
    have nDG : Du ≠ G := ne_of_none hDu nG
    exact joined_last b m hpt (s _ _ ha1) (hp1.mono (PcAt.mono' (.of s))) (s _ _ hDu) (hds.mono (PcAt.mono' (.of s))) (s _ _ hF) (hfs.mono (PcAt.mono' (.of s))) hG hg nDF nDG lp ld
      (fun ds' y10 y11 H2 k2 h1 h2 => kd ds' _ _ _ H2 (fun b o e n => k2 b o (s b o e) n) h1 h2)
theorem pure_l_joined (h : sp_l_joined K vs H Q E) : t_l_joined K { nx := fun _ H' => Q .non H', rt := Q } (start N_l_joined vs) H := by
  obtain ⟨s1, s2, one, other, rfl, ⟨as1, ha1, hp1⟩, ok1, ⟨as2, ha2, hp2⟩, ok2, fit, k⟩ := h
  have hp1 : LsAt (PcAt H) as1 one := hp1
  have l1 : as1.length = one.length := hp1.1
  have z1 := ok1.len
  refine ⟨Nat.zero_le _, fun L nL => ⟨_, rfl, lenT (updN (ne_of_none ha1 nL) ha1) ⟨_, rfl, (len_le (by rw [List.length_map]; omega)).1, (len_le (by rw [List.length_map]; omega)).2, ?_⟩⟩⟩
  refine for_range (lo := 0) (fun i σ H' => Same H H' ∧ ∃ (cs : List Addr) (z3 z4 : Option V), H' L = some (.lst (cs.map V.ref)) ∧ LsAt (PrAt H') cs (spots 0 (one.take i)) ∧ σ = [some (.ref s1), some (.ref s2), some (.ref L), z3, z4, none, none, none, none, none, none, none]) ⟨Same.upd nL, [], none, none, updS, .nil, rfl⟩ ?_ ?_
  · rintro i σ H' hi ⟨s, cs, z3, z4, hL, hc, rfl⟩
    rw [List.length_map] at hi
    have hi : i < one.length := by omega
    obtain ⟨p, hp⟩ : ∃ p, one[i]? = some p := ⟨_, List.getElem?_eq_getElem hi⟩
    obtain ⟨c, hc1, hc2⟩ := hp1.at hp
    have ec : atI (as1.map V.ref) (0 + (i : Int)) = some (.ref c) := by rw [Int.zero_add]; exact atI_ref hc1
    have np : p.n ≤ 40 := Nat.le_trans (n_le_total (List.mem_of_getElem? hp)) ok1.few
    have lsp : (spots 0 (one.take i)).length ≤ 40 := by rw [spots_len]; exact Nat.le_trans (total_take_le i) ok1.few
    refine ⟨_, rfl, _, rfl, ixT (s _ _ ha1) ec ⟨c, p, rfl, hc2.mono (.of s), ok1.ok p (List.mem_of_getElem? hp), ⟨_, rfl, (len_le (by omega)).1, (len_le (by omega)).2, ?_⟩⟩⟩
    refine for_range (lo := 0) (fun j σ H' => Same H H' ∧ ∃ (cs : List Addr) (z4 : Option V), H' L = some (.lst (cs.map V.ref)) ∧ LsAt (PrAt H') cs (spots 0 (one.take i) ++ run i 0 j) ∧ σ = [some (.ref s1), some (.ref s2), some (.ref L), some (.int (0 + (i : Int))), z4, none, none, none, none, none, none, none]) ⟨s, cs, z4, hL, by show LsAt _ _ (_ ++ []); rw [List.append_nil]; exact hc, rfl⟩ ?_ ?_
    · rintro j σ H2 hj ⟨s2, cs, z4, hL, hc, rfl⟩
      have hj : j < p.n := by omega
      refine ⟨_, rfl, .inl ⟨rfl, _, sqL hL⟩, _, rfl, _, rfl, by show (2 : Nat) ≤ sizeLine; decide, fun T nT => ?_⟩
      have sT : Same H2 (upd H2 T (.tup [.int (0 + (i : Int)), .int (0 + (j : Int))])) := Same.upd nT
      have hT : upd H2 T (.tup [.int (0 + (i : Int)), .int (0 + (j : Int))]) T = some (.tup [.int (0 + (i : Int)), .int (0 + (j : Int))]) := updS
      have hL2 := sT _ _ hL
      have hc2 := hc.mono (PrAt.mono (.of sT))
      generalize upd H2 T (.tup [.int (0 + (i : Int)), .int (0 + (j : Int))]) = H3 at *
      have tm : TM H3 (upd H3 L (.lst (cs.map V.ref ++ [.ref T]))) := fun a xs h => updN (ne_of h hL2 (by intro z; cases z)) h
      refine ⟨L, _, _, rfl, rfl, hL2, ?_, Same.updI (s2.trans sT) nL, cs ++ [T], _, by rw [updS, List.map_append]; rfl, ?_, rfl⟩
      · rw [List.length_map, hc.1, List.length_append, run_len]
        exact Nat.lt_of_le_of_lt (show _ ≤ 1000 by omega) (by decide)
      · rw [run_snoc, ← List.append_assoc]
        refine (hc2.snoc ?_).mono (PrAt.mono tm)
        show H3 T = some (.tup [.int (i : Int), .int ((0 + j : Nat) : Int)])
        rw [hT, Int.zero_add, Int.zero_add, Nat.zero_add]
    · rintro σ H2 ⟨s2, cs, z4, hL, hc, rfl⟩
      refine ⟨s2, cs, _, _, hL, ?_, rfl⟩
      rw [take_succ hp, spots_snoc, List.length_take, Nat.zero_add, show min i one.length = i by omega]
      rw [show ((p.n : Nat) : Int).toNat = p.n by omega] at hc
      exact hc
  · rintro σ H1 ⟨g1, cs, z3, z4, hL, hc, rfl⟩
    rw [List.length_map, show (((as1.length : Nat) : Int)).toNat = as1.length by omega, l1, List.take_of_length_le (Nat.le_refl _)] at hc
    have lcs : cs.length = total one := by rw [hc.1, spots_len]
    have ft := ok1.few
    have ha21 := g1 _ _ ha2
    refine ⟨Nat.zero_le _, fun Du nD => ⟨_, rfl, s2, rfl, ⟨_, sqT (updN (ne_of_none ha21 nD) ha21)⟩, ?_⟩⟩
    refine for_tup (K := K) (a := s2) (xs := as2.map V.ref) (fun i σ H' => Same H1 H' ∧ ∃ (ds : List Addr) (z6 z7 z8 z9 z10 z11 : Option V), H' Du = some (.lst (ds.map V.ref)) ∧ LsAt (PcAt H') ds (join one (other.take i)) ∧ σ = [some (.ref s1), some (.ref s2), some (.ref L), z3, z4, some (.ref Du), z6, z7, z8, z9, z10, z11]) ⟨Same.upd nD, [], none, none, none, none, none, none, updS, .nil, rfl⟩ (fun i σ H' _ p => sqT (p.1 _ _ ha21)) ?_ ?_
    · rintro i x σ H' hx ⟨q1, ds, z6, z7, z8, z9, z10, z11, hD, hd, rfl⟩
      have g2 : Same H H' := g1.trans q1
      obtain ⟨c, p, rfl, h1, h2, h3⟩ := sc_get (hp2.mono (.of g2)) hx
      have ldone := join_len ok1 ok2 fit i
      have lds : ds.length ≤ 40 := by rw [hd.1]; exact ldone
      have f := fit p (List.mem_of_getElem? h2)
      have ej := join_snoc (f := one) h2
      cases p with
      | put rs =>
        have h30 := h3
        obtain ⟨q, h4, h5⟩ := h3
        refine ⟨_, rfl, ixT h4 rfl ⟨rfl, _, rfl, ?_⟩⟩
        rw [decide_eq_true rfl]
        have tm : TM H' (upd H' Du (.lst (ds.map V.ref ++ [.ref c]))) := fun a xs h => updN (ne_of h hD (by intro z; cases z)) h
        refine iteT ⟨_, rfl, .inl ⟨rfl, _, sqL hD⟩, _, rfl, Du, _, _, rfl, rfl, hD, by rw [List.length_map]; exact Nat.lt_of_le_of_lt lds (by decide), Same.updI q1 nD, ds ++ [c], _, _, _, _, _, _, ?_, ?_, rfl⟩
        · rw [updS, List.map_append]
          rfl
        · rw [ej]
          exact (hd.snoc h30).mono (PcAt.mono' tm)
      | take b m =>
        have f : b + m ≤ total one := f
        refine ⟨_, rfl, ixT h3 rfl ⟨rfl, _, rfl, ?_⟩⟩
        rw [take_put]
        refine iteF ⟨_, rfl, _, rfl, ixT h3 rfl ⟨_, rfl, _, rfl, ixT h3 rfl ⟨_, rfl, ixT h3 rfl ⟨_, _, rfl, rfl, _, rfl, L, _, rfl, sqL (q1 _ _ hL), fun P nP => ?_⟩⟩⟩⟩
        rw [cutV_nat (by omega)]
        have sP : Same H' (upd H' P (.lst (((cs.drop b).take m).map V.ref))) := Same.upd nP
        have hP : upd H' P (.lst (((cs.drop b).take m).map V.ref)) P = some (.lst (((cs.drop b).take m).map V.ref)) := updS
        have lpart : (((spots 0 one).drop b).take m).length ≤ 40 := by
          rw [List.length_take, List.length_drop, spots_len]
          omega
        have g3 := g2.trans sP
        have hcP := (hc.slice b m).mono (PrAt.mono (.of (q1.trans sP)))
        have hD3 := sP _ _ hD
        have hd3 := hd.mono (PcAt.mono' (.of sP))
        generalize upd H' P (.lst (((cs.drop b).take m).map V.ref)) = H3 at *
        refine ⟨_, rfl, _, rfl, s1, P, one, (cs.drop b).take m, ((spots 0 one).drop b).take m, rfl, ⟨as1, g3 _ _ ha1, hp1.mono (PcAt.mono' (.of g3))⟩, hP, hcP, by omega, (spots_cq 0 one).slice b m, fun p hp => ?_, fun x hx => ?_, fun F fs H4 s4 nF hF hf => ?_⟩
        · have := n_le_total hp
          omega
        · obtain ⟨_, q, h1, h2⟩ := spots_mem (List.mem_of_mem_drop (List.mem_of_mem_take hx))
          exact ⟨q, h1, h2⟩
        have g4 := g3.trans s4
        have nDF : Du ≠ F := ne_of_none hD3 nF
        refine joined_firsts b m rfl (g4 _ _ ha1) (hp1.mono (PcAt.mono' (.of g4))) (s4 _ _ hD3) (hd3.mono (PcAt.mono' (.of s4))) hF hf (s4 _ _ hP) (hcP.mono (PrAt.mono (.of s4))) nDF (by omega) (by omega) (fun ds' y9 y10 y11 H5 k5 hD5 hd5 => ?_)
        rw [grp_cut (Pos.of_ok ok1.ok)] at hd5
        refine ⟨fun a o e => k5 a o (s4 _ _ (sP _ _ (q1 _ _ e))) (ne_of_none e nD), ds', _, _, _, _, _, _, hD5, ?_, rfl⟩
        rw [ej]
        exact hd5
    · rintro σ H' ⟨q1, ds, z6, z7, z8, z9, z10, z11, hD, hd, rfl⟩
      rw [List.length_map, hp2.1, List.take_of_length_le (Nat.le_refl _)] at hd
      exact ⟨_, rfl, Du, _, rfl, .inl ⟨sqL hD, fun r nr => k r _ ((g1.trans q1).trans (Same.upd nr)) ⟨ds, updS, hd.mono (PcAt.mono' (.of (Same.upd nr)))⟩⟩⟩
end
end Fw

set_option Elab.async false
set_option linter.all false
set_option maxRecDepth 100000
set_option maxHeartbeats 4000000
namespace Fw
open PySem L2 RZ RT
/-! ### stretches that two rows of texts have in common -/
def lcp : List Str → List Str → Nat
  | x :: xs, y :: ys => if x = y then lcp xs ys + 1 else 0
  | _, _ => 0
theorem lcp_nil_l (ys : List Str) : lcp [] ys = 0 := by cases ys <;> rfl
theorem lcp_nil_r (xs : List Str) : lcp xs [] = 0 := by cases xs <;> rfl
theorem lcp_cons (x y : Str) (xs ys : List Str) : lcp (x :: xs) (y :: ys) = if x = y then lcp xs ys + 1 else 0 := rfl
theorem lcp_take : ∀ xs ys : List Str, xs.take (lcp xs ys) = ys.take (lcp xs ys)
  | [], ys => by rw [lcp_nil_l, List.take_zero, List.take_zero]
  | x :: xs, [] => by rw [lcp_nil_r, List.take_zero, List.take_zero]
  | x :: xs, y :: ys => by
    rw [lcp_cons]
    by_cases h : x = y
    · rw [if_pos h, List.take_succ_cons, List.take_succ_cons, lcp_take xs ys, h]
    · rw [if_neg h, List.take_zero, List.take_zero]
theorem lcp_le : ∀ xs ys : List Str, lcp xs ys ≤ xs.length ∧ lcp xs ys ≤ ys.length
  | [], ys => by rw [lcp_nil_l]; exact ⟨Nat.zero_le _, Nat.zero_le _⟩
  | x :: xs, [] => by rw [lcp_nil_r]; exact ⟨Nat.zero_le _, Nat.zero_le _⟩
  | x :: xs, y :: ys => by
    rw [lcp_cons, List.length_cons, List.length_cons]
    have := lcp_le xs ys
    by_cases h : x = y
    · rw [if_pos h]; omega
    · rw [if_neg h]; omega
theorem le_lcp : ∀ (m : Nat) (xs ys : List Str), m ≤ xs.length → m ≤ ys.length → xs.take m = ys.take m → m ≤ lcp xs ys
  | 0, _, _, _, _, _ => Nat.zero_le _
  | m + 1, [], _, h, _, _ => by simp at h
  | m + 1, x :: xs, [], _, h, _ => by simp at h
  | m + 1, x :: xs, y :: ys, h1, h2, e => by
    rw [List.take_succ_cons, List.take_succ_cons] at e
    injection e with e1 e2
    rw [lcp_cons, if_pos e1]
    have := le_lcp m xs ys (by simpa using h1) (by simpa using h2) e2
    omega
theorem take_of_le {xs ys : List Str} {m n : Nat} (h : xs.take n = ys.take n) (q : m ≤ n) : xs.take m = ys.take m := by
  have := congrArg (List.take m) h
  rw [List.take_take, List.take_take, Nat.min_eq_left q] at this
  exact this
structure RunOk (bs rs : List Str) (r : Nat) (x : Nat × Nat) : Prop where
  le : x.1 ≤ bs.length
  eq : x.2 = lcp (bs.drop x.1) (rs.drop r)
  top : ∀ a, lcp (bs.drop a) (rs.drop r) ≤ x.2
/-! ### distances -/
def dv (d : List Int) (i : Nat) : Int := d.getD i 0
theorem dv_snoc {d : List Int} {c : Int} {i : Nat} (h : i < d.length) : dv (d ++ [c]) i = dv d i := by
  unfold dv
  rw [List.getD_eq_getElem?_getD, List.getD_eq_getElem?_getD, List.getElem?_append_left h]
theorem dv_last {d : List Int} {c : Int} : dv (d ++ [c]) d.length = c := by
  unfold dv
  rw [List.getD_eq_getElem?_getD, List.getElem?_append_right (Nat.le_refl _), Nat.sub_self]
  rfl
/-- the last piece of a script for the first e rows, and what it costs -/
def LpC (bs rs : List Str) (t p : Int) (d : List Int) (e : Nat) (c : Int) (q : Pc) : Prop :=
  (∃ z, q = .put [z] ∧ rs[e - 1]? = some z ∧ c = dv d (e - 1) + p) ∨
  (∃ i s, i < e ∧ q = .take s (e - i) ∧ s + (e - i) ≤ bs.length ∧ (bs.drop s).take (e - i) = (rs.drop i).take (e - i) ∧ c = dv d i + t)
theorem LpC.snoc {bs rs : List Str} {t p : Int} {d : List Int} {e : Nat} {c x : Int} {q : Pc} (h : LpC bs rs t p d e c q) (h0 : 0 < e) (he : e ≤ d.length) : LpC bs rs t p (d ++ [x]) e c q := by
  rcases h with ⟨z, h1, h2, h3⟩ | ⟨i, s, h1, h2, h3, h4, h5⟩
  · exact .inl ⟨z, h1, h2, by rw [dv_snoc (by omega)]; exact h3⟩
  · exact .inr ⟨i, s, h1, h2, h3, h4, by rw [dv_snoc (by omega)]; exact h5⟩
structure DsOk (bs rs : List Str) (runs : List (Nat × Nat)) (t p : Int) (d : List Int) : Prop where
  zero : dv d 0 = 0
  put : ∀ j, j + 1 < d.length → dv d (j + 1) ≤ dv d j + p
  take : ∀ i j, i < j → j < d.length → ∀ x, runs[i]? = some x → j ≤ i + x.2 → dv d j ≤ dv d i + t
theorem put_mk {rs : List Str} {e : Nat} {z : Str} (h0 : 0 < e) (hz : rs[e - 1]? = some z) : (rs.drop (e - 1)).take 1 = [z] := by
  obtain ⟨h1, h2⟩ := List.getElem?_eq_some_iff.mp hz
  rw [List.drop_eq_getElem_cons h1, h2]
  rfl
/-- what the last piece is good for -/
theorem LpC.good {bs rs : List Str} {t p : Int} {d : List Int} {e : Nat} {c : Int} {q : Pc} (h : LpC bs rs t p d e c q) (h0 : 0 < e) (ok : ∀ z ∈ rs, OkS z) : 1 ≤ q.n ∧ q.n ≤ e ∧ q.fits bs.length ∧ q.mk bs = (rs.drop (e - q.n)).take q.n ∧ q.ok ∧ c = dv d (e - q.n) + q.cost t p := by
  rcases h with ⟨z, rfl, h2, h3⟩ | ⟨i, s, h1, rfl, h3, h4, h5⟩
  · refine ⟨Nat.le_refl _, h0, True.intro, ?_, ⟨List.cons_ne_nil _ _, fun y hy => ?_⟩, ?_⟩
    · show [z] = (rs.drop (e - 1)).take 1
      rw [put_mk h0 h2]
    · rw [List.mem_singleton.mp hy]
      exact ok z (List.mem_of_getElem? h2)
    · show c = dv d (e - 1) + p * ((1 : Nat) : Int)
      rw [h3]
      omega
  · have e1 : e - (e - i) = i := by omega
    refine ⟨show 1 ≤ e - i by omega, show e - i ≤ e by omega, h3, ?_, show 1 ≤ e - i by omega, ?_⟩
    · show (bs.drop s).take (e - i) = (rs.drop (e - (e - i))).take (e - i)
      rw [e1]
      exact h4
    · show c = dv d (e - (e - i)) + t
      rw [e1]
      exact h5
theorem put_chain {bs rs : List Str} {runs : List (Nat × Nat)} {t p : Int} {d : List Int} (D : DsOk bs rs runs t p d) : ∀ (k i : Nat), i + k < d.length → dv d (i + k) ≤ dv d i + p * (k : Int)
  | 0, i, _ => by
    show dv d i ≤ dv d i + p * 0
    rw [Int.mul_zero]
    omega
  | k + 1, i, h => by
    have a := put_chain D k i (by omega)
    have b := D.put (i + k) (by omega)
    rw [show i + (k + 1) = i + k + 1 by omega, show ((k + 1 : Nat) : Int) = (k : Int) + 1 by omega, Int.mul_add, Int.mul_one]
    omega
/-- no script costs less -/
theorem opt_from {bs rs : List Str} {runs : List (Nat × Nat)} {t p : Int} {d : List Int} (D : DsOk bs rs runs t p d) (hr : ∀ r x, runs[r]? = some x → RunOk bs rs r x) (hl : runs.length = rs.length) (hd : d.length = rs.length + 1) :
    ∀ (ps : List Pc) (i : Nat), i ≤ rs.length → Pos ps → (∀ q ∈ ps, q.fits bs.length) → makes bs ps = rs.drop i → dv d rs.length ≤ dv d i + cost t p ps
  | [], i, hi, _, _, e => by
    have h : rs.length ≤ i := by
      have := congrArg List.length e
      rw [List.length_drop] at this
      have e0 : (makes bs ([] : List Pc)).length = 0 := rfl
      omega
    have : i = rs.length := by omega
    subst this
    show _ ≤ _ + (0 : Int)
    omega
  | q :: ps, i, hi, pos, fit, e => by
    have fq := fit q (List.mem_cons_self ..)
    have ln := mk_len fq
    have q1 := pos.head
    rw [makes_cons] at e
    have l2 := congrArg List.length e
    rw [List.length_append, ln, List.length_drop] at l2
    have e1 : q.mk bs = (rs.drop i).take q.n := by
      have := congrArg (List.take q.n) e
      rw [List.take_append, ln, Nat.sub_self, List.take_zero, List.append_nil, List.take_of_length_le (by omega)] at this
      exact this
    have e2 : makes bs ps = rs.drop (i + q.n) := by
      have := congrArg (List.drop q.n) e
      rw [List.drop_append, ln, Nat.sub_self, List.drop_zero, List.drop_of_length_le (by omega), List.nil_append, List.drop_drop] at this
      exact this
    have ih := opt_from D hr hl hd ps (i + q.n) (by omega) pos.tail (fun x hx => fit x (List.mem_cons_of_mem _ hx)) e2
    have stp : dv d (i + q.n) ≤ dv d i + q.cost t p := by
      cases q with
      | put zs => exact put_chain D zs.length i (by have : (Pc.put zs).n = zs.length := rfl; omega)
      | take b m =>
        have q1 : 1 ≤ m := q1
        have fq : b + m ≤ bs.length := fq
        have l2 : m + (makes bs ps).length = rs.length - i := l2
        have e1 : (bs.drop b).take m = (rs.drop i).take m := e1
        have hi2 : i < runs.length := by omega
        have ex : runs[i]? = some runs[i] := List.getElem?_eq_getElem hi2
        have ro := hr i _ ex
        have := le_lcp m (bs.drop b) (rs.drop i) (by rw [List.length_drop]; omega) (by rw [List.length_drop]; omega) e1
        have := ro.top b
        exact D.take i (i + m) (by omega) (by omega) _ ex (by omega)
    have ec : cost t p (q :: ps) = q.cost t p + cost t p ps := rfl
    omega
theorem opt_all {bs rs : List Str} {runs : List (Nat × Nat)} {t p : Int} {d : List Int} (D : DsOk bs rs runs t p d) (hr : ∀ r x, runs[r]? = some x → RunOk bs rs r x) (hl : runs.length = rs.length) (hd : d.length = rs.length + 1)
    {ps : List Pc} (pos : Pos ps) (fit : ∀ q ∈ ps, q.fits bs.length) (e : makes bs ps = rs) : dv d rs.length ≤ cost t p ps := by
  have := opt_from D hr hl hd ps 0 (Nat.zero_le _) pos fit (by rw [List.drop_zero]; exact e)
  rw [D.zero, Int.zero_add] at this
  exact this
/-- what is told of least -/
structure LeastOk (bs rs : List Str) (t p : Int) (ps : List Pc) (d : List Int) : Prop where
  sc : ScOk ps
  fit : ∀ q ∈ ps, q.fits bs.length
  made : makes bs ps = rs
  len : d.length = rs.length + 1
  zero : dv d 0 = 0
  last : cost t p ps = dv d rs.length
  put : ∀ j, j < rs.length → dv d (j + 1) ≤ dv d j + p
  take : ∀ i j a, i < j → j ≤ rs.length → a + (j - i) ≤ bs.length → (bs.drop a).take (j - i) = (rs.drop i).take (j - i) → dv d j ≤ dv d i + t
  met : ∀ j, 0 < j → j ≤ rs.length → dv d j = dv d (j - 1) + p ∨ ∃ i a, i < j ∧ a + (j - i) ≤ bs.length ∧ (bs.drop a).take (j - i) = (rs.drop i).take (j - i) ∧ dv d j = dv d i + t
  best : ∀ qs : List Pc, Pos qs → (∀ q ∈ qs, q.fits bs.length) → makes bs qs = rs → dv d rs.length ≤ cost t p qs
theorem least_ok {bs rs : List Str} {runs : List (Nat × Nat)} {t p : Int} {d : List Int} {ps : List Pc} (D : DsOk bs rs runs t p d) (hr : ∀ r x, runs[r]? = some x → RunOk bs rs r x) (hl : runs.length = rs.length) (hd : d.length = rs.length + 1)
    (lp : ∀ j, 0 < j → j ≤ rs.length → ∃ q, LpC bs rs t p d j (dv d j) q) (sc : ScOk ps) (fit : ∀ q ∈ ps, q.fits bs.length) (e : makes bs ps = rs) (c : cost t p ps = dv d rs.length) : LeastOk bs rs t p ps d where
  sc := sc
  fit := fit
  made := e
  len := hd
  zero := D.zero
  last := c
  put := fun j hj => D.put j (by omega)
  take := fun i j a hij hj ha he => by
    have hi2 : i < runs.length := by omega
    have ex : runs[i]? = some runs[i] := List.getElem?_eq_getElem hi2
    have ro := hr i _ ex
    have := le_lcp (j - i) (bs.drop a) (rs.drop i) (by rw [List.length_drop]; omega) (by rw [List.length_drop]; omega) he
    have := ro.top a
    exact D.take i j hij (by omega) _ ex (by omega)
  met := fun j h0 hj => by
    obtain ⟨q, h⟩ := lp j h0 hj
    rcases h with ⟨z, _, _, h3⟩ | ⟨i, s, h1, _, h3, h4, h5⟩
    · exact .inl h3
    · exact .inr ⟨i, s, h1, h3, h4, h5⟩
  best := fun qs pos f m => opt_all D hr hl hd pos f m
/-! ### a script over a longer base -/
def Pc.sh (k : Nat) : Pc → Pc
  | .take b m => .take (b + k) m
  | .put rs => .put rs
theorem sh_n (k : Nat) (q : Pc) : (q.sh k).n = q.n := by cases q <;> rfl
theorem sh_cost (k : Nat) (t p : Int) : ∀ ps : List Pc, cost t p (ps.map (Pc.sh k)) = cost t p ps
  | [] => rfl
  | q :: ps => by
    show (q.sh k).cost t p + cost t p (ps.map (Pc.sh k)) = q.cost t p + cost t p ps
    rw [sh_cost k t p ps]
    cases q <;> rfl
theorem sh_makes (xs bs : List Str) : ∀ ps : List Pc, makes (xs ++ bs) (ps.map (Pc.sh xs.length)) = makes bs ps
  | [] => rfl
  | q :: ps => by
    rw [List.map_cons, makes_cons, makes_cons, sh_makes xs bs ps]
    congr 1
    cases q with
    | take b m =>
      show ((xs ++ bs).drop (b + xs.length)).take m = (bs.drop b).take m
      rw [List.drop_append, List.drop_of_length_le (by omega), List.nil_append, Nat.add_sub_cancel]
    | put rs => rfl
theorem sh_fits {xs bs : List Str} {ps : List Pc} (h : ∀ q ∈ ps, q.fits bs.length) : ∀ q ∈ ps.map (Pc.sh xs.length), q.fits (xs ++ bs).length := by
  intro q hq
  obtain ⟨x, hx, rfl⟩ := List.mem_map.mp hq
  have := h x hx
  cases x with
  | take b m =>
    have this : b + m ≤ bs.length := this
    show b + xs.length + m ≤ _
    rw [List.length_append]
    omega
  | put rs => exact True.intro
theorem sh_pos {k : Nat} {ps : List Pc} (h : Pos ps) : Pos (ps.map (Pc.sh k)) := by
  intro q hq
  obtain ⟨x, hx, rfl⟩ := List.mem_map.mp hq
  rw [sh_n]
  exact h x hx
theorem ext_makes (xs bs : List Str) : ∀ ps : List Pc, (∀ q ∈ ps, q.fits bs.length) → makes (bs ++ xs) ps = makes bs ps
  | [], _ => rfl
  | q :: ps, h => by
    rw [makes_cons, makes_cons, ext_makes xs bs ps fun x hx => h x (List.mem_cons_of_mem _ hx)]
    congr 1
    have hq := h q (List.mem_cons_self ..)
    cases q with
    | take b m =>
      have hq : b + m ≤ bs.length := hq
      show ((bs ++ xs).drop b).take m = (bs.drop b).take m
      rw [List.drop_append, List.take_append, List.length_drop, show m - (bs.length - b) = 0 by omega, List.take_zero, List.append_nil]
    | put rs => rfl
theorem ext_fits {xs bs : List Str} {ps : List Pc} (h : ∀ q ∈ ps, q.fits bs.length) : ∀ q ∈ ps, q.fits (bs ++ xs).length := by
  intro q hq
  have := h q hq
  cases q with
  | take b m =>
    have this : b + m ≤ bs.length := this
    show b + m ≤ _
    rw [List.length_append]
    omega
  | put rs => exact True.intro
end Fw

set_option Elab.async false
set_option linter.all false
set_option maxRecDepth 100000
set_option maxHeartbeats 4000000
namespace Fw
open PySem L2 RZ RT
def tTru (K : PySem.W.Frag) (t : TE) : TT := fun σ H Q => t σ H fun x H' => ∃ k, TruV K x H' k ∧ Q k H'
def sp_longest_runs (_ : PySem.W.Frag) : Sp := fun vs H Q _ => ∃ (B R : Addr) (bs rs : List Str), vs = [.ref B, .ref R] ∧ RwAt H B bs ∧ RwAt H R rs ∧ bs.length ≤ 1000 ∧ rs.length ≤ 1000 ∧
  ∀ (L : Addr) (as : List Addr) (runs : List (Nat × Nat)) (H' : Hp), Same H H' → H' L = some (.lst (as.map V.ref)) → LsAt (PrAt H') as runs → runs.length = rs.length → (∀ r x, runs[r]? = some x → RunOk bs rs r x) → Q (.ref L) H'
def sp_cheapest (_ : PySem.W.Frag) : Sp := fun vs H Q _ => ∃ (B R : Addr) (bs rs : List Str) (t p : Int), vs = [.ref B, .ref R, .int t, .int p] ∧ RwAt H B bs ∧ RwAt H R rs ∧ bs.length ≤ 1000 ∧ rs.length ≤ 1000 ∧
  ∀ (T Dd Lp : Addr) (as : List Addr) (d : List Int) (qs : List Pc) (runs : List (Nat × Nat)) (H' : Hp), Same H H' → H' T = some (.tup [.ref Dd, .ref Lp]) → H' Dd = some (.lst (d.map V.int)) → H' Lp = some (.lst (V.non :: as.map V.ref)) → LsAt (PcAt H') as qs → d.length = rs.length + 1 → qs.length = rs.length →
    runs.length = rs.length → (∀ r x, runs[r]? = some x → RunOk bs rs r x) → DsOk bs rs runs t p d → (∀ j q, qs[j]? = some q → LpC bs rs t p d (j + 1) (dv d (j + 1)) q) → Q (.ref T) H'
def sp_with_puts_together (_ : PySem.W.Frag) : Sp := fun vs H Q _ => ∃ (L : Addr) (as : List Addr) (bs : List Str) (ps : List Pc) (t p : Int), vs = [.ref L] ∧ H L = some (.lst (as.map V.ref)) ∧ LsAt (PcAt H) as ps ∧ ScOk ps ∧ (∀ q ∈ ps, q.fits bs.length) ∧
  ∀ (s : Addr) (qs : List Pc) (H' : Hp), Same H H' → ScAt H' s qs → ScOk qs → (∀ q ∈ qs, q.fits bs.length) → makes bs qs = makes bs ps → cost t p qs = cost t p ps → Q (.ref s) H'
def sp_least (_ : PySem.W.Frag) : Sp := fun vs H Q _ => ∃ (B R : Addr) (bs rs : List Str) (t p : Int), vs = [.ref B, .ref R, .int t, .int p] ∧ RwAt H B bs ∧ RwAt H R rs ∧ bs.length ≤ 1000 ∧ rs.length ≤ 40 ∧ (∀ z ∈ rs, OkS z) ∧
  ∀ (T s dd : Addr) (ps : List Pc) (d : List Int) (H' : Hp), Same H H' → H' T = some (.tup [.ref s, .ref dd]) → ScAt H' s ps → H' dd = some (.tup (d.map V.int)) → LeastOk bs rs t p ps d → Q (.ref T) H'
section
variable {K : PySem.W.Frag} {vs : List V} {H : Hp} {Q : VK} {E : XK}
theorem len_longest_runs (h : sp_longest_runs K vs H Q E) : vs.length = 2 := by obtain ⟨_, _, _, _, rfl, _⟩ := h; rfl
theorem len_cheapest (h : sp_cheapest K vs H Q E) : vs.length = 4 := by obtain ⟨_, _, _, _, _, _, rfl, _⟩ := h; rfl
theorem len_with_puts_together (h : sp_with_puts_together K vs H Q E) : vs.length = 1 := by obtain ⟨_, _, _, _, _, _, rfl, _⟩ := h; rfl
theorem len_least (h : sp_least K vs H Q E) : vs.length = 4 := by obtain ⟨_, _, _, _, _, _, rfl, _⟩ := h; rfl
end
abbrev N_longest_runs : List Str := ["base", "rows", "found", "ahead", "row", "many", "at", "text"]
def t_longest_runs (K : PySem.W.Frag) : TS := (tSeq (tAsg (tLst tNil) (gName 2))
    (tSeq (tAsg (tOp rRep (tLst (tCons (tC (.int 0)) tNil)) (tOp rAddI (tCB (fLen K) (tCons (tVar 0) tNil)) (tC (.int 1)))) (gName 3))
    (tSeq (tFor (iRevA K (tVar 1)) (gName 4) (tSeq (tAsg (tOp rCat (tLc (iEnumT K (tCons (tVar 0) tNil)) (gTup K 2 (gCons (gName 6) (gCons (gName 7) gNil))) tYes (tIf (tTest (tOp rEq (tVar 7) (tVar 4))) (tOp rAddI (tOp (rIx K) (tVar 3) (tOp rAddI (tVar 6) (tC (.int 1)))) (tC (.int 1))) (tC (.int 0))) [6, 7]) (tLst (tCons (tC (.int 0)) tNil))) (gName 3))
    (tSeq (tAsg (tCB (rMax K) (tCons (tVar 3) tNil)) (gName 5))
    (tDrop (tBM K "list" rAppend (tVar 2) (tCons (tTup (tCons (tBM K "list" (rIndex K) (tVar 3) (tCons (tVar 5) tNil)) (tCons (tVar 5) tNil))) tNil))))))
    (tRet (tRevL K (tVar 2))))))
abbrev N_cheapest : List Str := ["base", "rows", "take", "put", "runs", "distances", "last_pieces", "end", "begin", "cost", "piece"]
def t_cheapest (K : PySem.W.Frag) : TS := (tSeq (tAsg (tCall (sp_longest_runs K) [] E0 (tCons (tVar 0) (tCons (tVar 1) tNil))) (gName 4))
    (tSeq (tPar 5 6 (tCons (tLst (tCons (tC (.int 0)) tNil)) (tCons (tLst (tCons (tC .non) tNil)) tNil)))
    (tSeq (tFor (iRng2 (tCons (tC (.int 1)) (tCons (tOp rAddI (tCB (fLen K) (tCons (tVar 1) tNil)) (tC (.int 1))) tNil))) (gName 7) (tSeq (tPar 9 10 (tCons (tOp rAddI (tOp (rIx K) (tVar 5) (tOp rSubI (tVar 7) (tC (.int 1)))) (tVar 3)) (tCons (tTup (tCons (tC (.str "put")) (tCons (tSl (rSlA K) (tVar 1) (tPart (tOp rSubI (tVar 7) (tC (.int 1)))) (tPart (tVar 7))) tNil))) tNil)))
    (tSeq (tFor (iRng1 (tCons (tVar 7) tNil)) (gName 8) (tIfS (tAnd (tTest (tOp rGeI (tOp rAddI (tVar 8) (tOp (rIx K) (tOp (rIx K) (tVar 4) (tVar 8)) (tC (.int 1)))) (tVar 7))) (tTest (tOp rLtI (tOp rAddI (tOp (rIx K) (tVar 5) (tVar 8)) (tVar 2)) (tVar 9)))) (tPar 9 10 (tCons (tOp rAddI (tOp (rIx K) (tVar 5) (tVar 8)) (tVar 2)) (tCons (tTup (tCons (tC (.str "take")) (tCons (tOp (rIx K) (tOp (rIx K) (tVar 4) (tVar 8)) (tC (.int 0))) (tCons (tOp rSubI (tVar 7) (tVar 8)) tNil)))) tNil))) tNext))
    (tSeq (tDrop (tBM K "list" rAppend (tVar 5) (tCons (tVar 9) tNil)))
    (tDrop (tBM K "list" rAppend (tVar 6) (tCons (tVar 10) tNil)))))))
    (tRet (tTup (tCons (tVar 5) (tCons (tVar 6) tNil)))))))
abbrev N_with_puts_together : List Str := ["pieces", "told", "piece"]
def t_with_puts_together (K : PySem.W.Frag) : TS := (tSeq (tAsg (tLst tNil) (gName 1))
    (tSeq (tFor (iList K (tVar 0)) (gName 2) (tIfS (tAnd (tTru K (tVar 1)) (tAnd (tTest (tOp rEq (tOp (rIx K) (tOp (rIx K) (tVar 1) (tUn rNegI (tC (.int 1)))) (tC (.int 0))) (tC (.str "put")))) (tTest (tOp rEq (tOp (rIx K) (tVar 2) (tC (.int 0))) (tC (.str "put")))))) (tAsg (tTup (tCons (tC (.str "put")) (tCons (tOp (rCatA K) (tOp (rIx K) (tOp (rIx K) (tVar 1) (tUn rNegI (tC (.int 1)))) (tC (.int 1))) (tOp (rIx K) (tVar 2) (tC (.int 1)))) tNil))) (gSub (tVar 1) (tUn rNegI (tC (.int 1))) rSetL)) (tDrop (tBM K "list" rAppend (tVar 1) (tCons (tVar 2) tNil)))))
    (tRet (tCB (fTupleOf K) (tCons (tVar 1) tNil)))))
abbrev N_least : List Str := ["base", "rows", "take", "put", "distances", "last_pieces", "pieces", "end"]
def t_least (K : PySem.W.Frag) : TS := (tSeq (tAsg (tCall (sp_cheapest K) [] E0 (tCons (tVar 0) (tCons (tVar 1) (tCons (tVar 2) (tCons (tVar 3) tNil))))) (gTup K 2 (gCons (gName 4) (gCons (gName 5) gNil))))
    (tSeq (tAsg (tLst tNil) (gName 6))
    (tSeq (tAsg (tCB (fLen K) (tCons (tVar 1) tNil)) (gName 7))
    (tSeq (tWhile (tTest (tOp rGtI (tVar 7) (tC (.int 0)))) (tSeq (tDrop (tBM K "list" rAppend (tVar 6) (tCons (tOp (rIx K) (tVar 5) (tVar 7)) tNil)))
    (tAug 7 (tCall (sp_rows_in K) [] E0 (tCons (tOp (rIx K) (tVar 5) (tVar 7)) tNil)) (ipI fun i j => i - j))))
    (tRet (tTup (tCons (tCall (sp_with_puts_together K) [] E0 (tCons (tRevL K (tVar 6)) tNil)) (tCons (tCB (fTupleOf K) (tCons (tVar 4) tNil)) tNil))))))))
def ahv (bs rs : List Str) (r n : Nat) : List Int := (List.range n).map fun a => ((lcp (bs.drop a) (rs.drop r) : Nat) : Int)
theorem ahv_len (bs rs : List Str) (r n : Nat) : (ahv bs rs r n).length = n := by unfold ahv; rw [List.length_map, List.length_range]
theorem ahv_get {bs rs : List Str} {r n a : Nat} (h : a < n) : (ahv bs rs r n)[a]? = some ((lcp (bs.drop a) (rs.drop r) : Nat) : Int) := by
  unfold ahv
  rw [List.getElem?_map, List.getElem?_range h]
  rfl
theorem ahv_succ (bs rs : List Str) (r n : Nat) : ahv bs rs r (n + 1) = ahv bs rs r n ++ [((lcp (bs.drop n) (rs.drop r) : Nat) : Int)] := by
  unfold ahv
  rw [List.range_succ, List.map_append]
  rfl
theorem ahv_end (bs rs : List Str) (n : Nat) : (List.replicate n [V.int 0]).flatten = (ahv bs rs rs.length n).map V.int := by
  induction n with
  | zero => rfl
  | succ n ih =>
    rw [ahv_succ, List.map_append, ← ih, List.drop_length, lcp_nil_r, List.replicate_succ', List.flatten_append]
    rfl
theorem first_idx : ∀ (ns : List Int) (m : Int), m ∈ ns → ∃ j : Nat, ns[j]? = some m ∧ ∀ (k : Nat) (z : Int), k < j → ns[k]? = some z → z ≠ m
  | n :: ns, m, h => by
    by_cases e : n = m
    · exact ⟨0, by rw [e]; rfl, fun k z hk => absurd hk (Nat.not_lt_zero _)⟩
    · rcases List.mem_cons.mp h with h | h
      · exact absurd h.symm e
      · obtain ⟨j, h1, h2⟩ := first_idx ns m h
        refine ⟨j + 1, h1, fun k z hk hz => ?_⟩
        cases k with
        | zero => cases Option.some.inj hz; exact e
        | succ k => exact h2 k z (by omega) hz
theorem flat_ints (ns : List Int) : (ns.map V.int).all flatV = true := by
  rw [List.all_eq_true]
  intro x hx
  obtain ⟨i, _, rfl⟩ := List.mem_map.mp hx
  rfl
theorem int_get {ns : List Int} {i : Nat} {x : V} (h : (ns.map V.int)[i]? = some x) : ∃ z, x = .int z ∧ ns[i]? = some z := by
  rw [List.getElem?_map] at h
  cases q : ns[i]? with
  | none => rw [q] at h; cases h
  | some a => rw [q] at h; exact ⟨a, (Option.some.inj h).symm, rfl⟩
theorem str_get {ns : List Str} {i : Nat} {x : V} (h : (ns.map V.str)[i]? = some x) : ∃ z, x = .str z ∧ ns[i]? = some z := by
  rw [List.getElem?_map] at h
  cases q : ns[i]? with
  | none => rw [q] at h; cases h
  | some a => rw [q] at h; exact ⟨a, (Option.some.inj h).symm, rfl⟩
theorem drop_cons' {xs : List Str} {i : Nat} {x : Str} (h : xs[i]? = some x) : xs.drop i = x :: xs.drop (i + 1) := by
  obtain ⟨h1, h2⟩ := List.getElem?_eq_some_iff.mp h
  rw [List.drop_eq_getElem_cons h1, h2]
section
variable {K : PySem.W.Frag} {vs : List V} {H : Hp} {Q : VK} {E : XK}
theorem pure_longest_runs (h : sp_longest_runs K vs H Q E) : t_longest_runs K { nx := fun _ H' => Q .non H', rt := Q } (start N_longest_runs vs) H := by
  obtain ⟨B, R, bs, rs, rfl, hB, hR, zb, zr, k⟩ := h
  have lb : (bs.map V.str).length = bs.length := List.length_map ..
  have lr : (rs.map V.str).length = rs.length := List.length_map ..
  refine ⟨Nat.zero_le _, fun F nF => ⟨by show (1 : Nat) ≤ sizeLine; decide, fun Z nZ => ?_⟩⟩
  have g1 : Same H (upd (upd H F (.lst [])) Z (.lst [.int 0])) := (Same.upd nF).trans (Same.upd nZ)
  refine ⟨_, rfl, lenT (g1 _ _ hB) ⟨_, _, rfl, rfl, Z, _, _, rfl, rfl, updS, by omega, by omega, ?_, fun A nA => ?_⟩⟩
  · have : ((((bs.map V.str).length : Nat) : Int) + 1).toNat = bs.length + 1 := by omega
    show 1 * ((((bs.map V.str).length : Nat) : Int) + 1).toNat ≤ sizeLine
    rw [this]
    exact Nat.le_trans (show 1 * (bs.length + 1) ≤ 100000 by omega) (by decide)
  have nFZ : F ≠ Z := fun e => by rw [← e, updS] at nZ; cases nZ
  have nFA : F ≠ A := fun e => by rw [← e, upd_ne nFZ, updS] at nA; cases nA
  have e1 : ((((bs.map V.str).length : Nat) : Int) + 1).toNat = bs.length + 1 := by omega
  have hF0 : upd (upd (upd H F (.lst [])) Z (.lst [.int 0])) A (.lst (List.replicate ((((bs.map V.str).length : Nat) : Int) + 1).toNat [V.int 0]).flatten) F = some (.lst []) := updN nFA (updN nFZ updS)
  have hA0 : upd (upd (upd H F (.lst [])) Z (.lst [.int 0])) A (.lst (List.replicate ((((bs.map V.str).length : Nat) : Int) + 1).toNat [V.int 0]).flatten) A = some (.lst ((ahv bs rs rs.length (bs.length + 1)).map V.int)) := by rw [updS, e1, ahv_end bs rs]
  have g2 : Same H (upd (upd (upd H F (.lst [])) Z (.lst [.int 0])) A (.lst (List.replicate ((((bs.map V.str).length : Nat) : Int) + 1).toNat [V.int 0]).flatten)) := g1.trans (Same.upd nA)
  show tSeq _ _ _ [some (.ref B), some (.ref R), some (.ref F), some (.ref A), none, none, none, none] (upd (upd (upd H F (.lst [])) Z (.lst [.int 0])) A (.lst (List.replicate ((((bs.map V.str).length : Nat) : Int) + 1).toNat [V.int 0]).flatten))
  generalize upd (upd (upd H F (.lst [])) Z (.lst [.int 0])) A (.lst (List.replicate ((((bs.map V.str).length : Nat) : Int) + 1).toNat [V.int 0]).flatten) = H1 at *
  refine ⟨_, rfl, R, _, rfl, .inr ⟨sqT (g2 _ _ hR), ?_⟩⟩
  refine for_ItvT (K := K) (a := R) (xs := rs.map V.str) (fun i σ H' => Same H H' ∧ ∃ (A : Addr) (fs : List Addr) (fl : List (Nat × Nat)) (z4 z5 z6 z7 : Option V), i ≤ rs.length ∧ H' A = some (.lst ((ahv bs rs (rs.length - i) (bs.length + 1)).map V.int)) ∧ H' F = some (.lst (fs.map V.ref)) ∧ LsAt (PrAt H') fs fl ∧ fl.length = i ∧ (∀ j x, fl[j]? = some x → RunOk bs rs (rs.length - 1 - j) x) ∧
    σ = [some (.ref B), some (.ref R), some (.ref F), some (.ref A), z4, z5, z6, z7]) ⟨g2, A, [], [], none, none, none, none, Nat.zero_le _, hA0, hF0, .nil, rfl, (fun j x h => by cases h), rfl⟩ (fun i σ H' p => sqT (p.1 _ _ hR)) ?_ ?_
  · rintro i x σ H' hi hx ⟨s, A, fs, fl, z4, z5, z6, z7, hil, hA, hF, hf, hfl, hro, rfl⟩
    rw [lr] at hi
    rw [lr] at hx
    obtain ⟨z, rfl, hz⟩ := str_get hx
    have hr1 : rs.length - i = (rs.length - 1 - i) + 1 := by omega
    rw [hr1] at hA
    generalize hr : rs.length - 1 - i = r at *
    have er : rs.drop r = z :: rs.drop (r + 1) := drop_cons' hz
    have hB' : H' B = some (.tup (bs.map V.str)) := s _ _ hB
    refine ⟨_, rfl, B, _, rfl, sqT hB', fun C nC => ?_⟩
    refine lc_it (walk_enumT (xs := bs.map V.str)) (fun j H2 => Same H' H2 ∧ H2 C = some (.lst ((ahv bs rs r j).map V.int))) ⟨Same.upd nC, updS⟩ (fun j H2 _ p => sqT (p.1 _ _ hB')) ?_ ?_
    · rintro j v H2 H3 hj ⟨s2, hC⟩ ⟨T, a, y, rfl, nT, rfl, ea, ey⟩
      cases Option.some.inj ea
      rw [lb] at hj
      obtain ⟨w, rfl, hw⟩ := str_get ey
      have s3 : Same H2 (upd H2 T (.tup [.int ((j : Nat) : Int), .str w])) := Same.upd nT
      have hT : upd H2 T (.tup [.int ((j : Nat) : Int), .str w]) T = some (.tup [.int ((j : Nat) : Int), .str w]) := updS
      have hA3 : upd H2 T (.tup [.int ((j : Nat) : Int), .str w]) A = some (.lst ((ahv bs rs (r + 1) (bs.length + 1)).map V.int)) := s3 _ _ (s2 _ _ hA)
      have hC3 := s3 _ _ hC
      generalize upd H2 T (.tup [.int ((j : Nat) : Int), .str w]) = H3 at *
      have ew : bs.drop j = w :: bs.drop (j + 1) := drop_cons' hw
      have fin : ∀ c : Int, c = ((lcp (bs.drop j) (rs.drop r) : Nat) : Int) → ∃ acc, H3 C = some (.lst acc) ∧ acc.length < sizeLine ∧ (Same H' (upd H3 C (.lst (acc ++ [.int c]))) ∧ upd H3 C (.lst (acc ++ [.int c])) C = some (.lst ((ahv bs rs r (j + 1)).map V.int))) := by
        intro c hc
        refine ⟨_, hC3, ?_, Same.updI (s2.trans s3) nC, ?_⟩
        · rw [List.length_map, ahv_len]
          exact Nat.lt_of_le_of_lt (show j ≤ 1000 by omega) (by decide)
        · rw [updS, ahv_succ, List.map_append, hc]
          rfl
      refine ⟨T, _, rfl, sqT hT, rfl, _, _, rfl, _, _, rfl, rfl, rfl, ⟨_, rfl, _, rfl, rfl, _, rfl, ?_⟩⟩
      by_cases q : w = z
      · subst q
        rw [decide_eq_true rfl]
        refine iteT ⟨_, rfl, _, rfl, _, _, rfl, rfl, ixL hA3 (v := .int ((lcp (bs.drop (j + 1)) (rs.drop (r + 1)) : Nat) : Int)) ?_ ⟨_, _, rfl, rfl, fin _ ?_⟩⟩
        · show atI _ (((j : Nat) : Int) + 1) = _
          rw [show (((j : Nat) : Int) + 1) = ((j + 1 : Nat) : Int) by omega]
          exact atI_nat (by rw [List.getElem?_map, ahv_get (by omega)]; rfl)
        · rw [ew, er, lcp_cons, if_pos rfl]
          omega
      · rw [decide_eq_false (show ¬ V.str w = V.str z by intro e; injection e with e; exact q e)]
        refine iteF (fin _ ?_)
        rw [ew, er, lcp_cons, if_neg q]
        rfl
    · rintro H2 ⟨s2, hC⟩
      rw [lb] at hC
      refine ⟨by show (1 : Nat) ≤ sizeLine; decide, fun Z nZ => ?_⟩
      have nCZ : C ≠ Z := ne_of_none hC nZ
      refine ⟨C, Z, _, _, rfl, rfl, updN nCZ hC, updS, ?_, fun A' nA => ?_⟩
      · rw [List.length_map, ahv_len]
        exact Nat.le_trans (show bs.length + 1 ≤ 100000 by omega) (by decide)
      have s3 : Same H' (upd (upd H2 Z (.lst [.int 0])) A' (.lst ((ahv bs rs r bs.length).map V.int ++ [.int 0]))) := (s2.trans (Same.upd nZ)).trans (Same.upd nA)
      have hA' : upd (upd H2 Z (.lst [.int 0])) A' (.lst ((ahv bs rs r bs.length).map V.int ++ [.int 0])) A' = some (.lst ((ahv bs rs r (bs.length + 1)).map V.int)) := by
        rw [updS, ahv_succ, List.map_append, List.drop_length, lcp_nil_l]
        rfl
      show tSeq _ _ _ [some (.ref B), some (.ref R), some (.ref F), some (.ref A'), some (.str z), z5, z6, z7] (upd (upd H2 Z (.lst [.int 0])) A' (.lst ((ahv bs rs r bs.length).map V.int ++ [.int 0])))
      generalize upd (upd H2 Z (.lst [.int 0])) A' (.lst ((ahv bs rs r bs.length).map V.int ++ [.int 0])) = H3 at *
      have hF3 := s3 _ _ hF
      refine ⟨_, rfl, A', _, rfl, sqL hA', by rw [ahv_len]; omega, fun m hm top => ?_⟩
      obtain ⟨j, hj, hmin⟩ := first_idx _ m hm
      have hjl : j < bs.length + 1 := by
        have := (List.getElem?_eq_some_iff.mp hj).1
        rw [ahv_len] at this
        exact this
      have em : m = ((lcp (bs.drop j) (rs.drop r) : Nat) : Int) := by
        rw [ahv_get hjl] at hj
        exact (Option.some.inj hj).symm
      refine ⟨_, rfl, .inl ⟨rfl, _, sqL hF3⟩, _, rfl, .inl ⟨rfl, _, sqL hA'⟩, _, rfl, A', _, .int m, j, .int m, rfl, rfl, sqL hA', rfl, flat_ints _, by rw [List.getElem?_map, hj]; rfl, ?_, fun w y hw hy => ?_, _, rfl, by show (2 : Nat) ≤ sizeLine; decide, fun T nT => ?_⟩
      · show (m == m) = true
        exact beq_self_eq_true _
      · obtain ⟨c, rfl, hc⟩ := int_get hy
        show (c == m) = false
        have := hmin w c hw hc
        rw [beq_eq_false_iff_ne]
        exact this
      have s4 : Same H3 (upd H3 T (.tup [.int ((j : Nat) : Int), .int m])) := Same.upd nT
      have hT : upd H3 T (.tup [.int ((j : Nat) : Int), .int m]) T = some (.tup [.int ((j : Nat) : Int), .int m]) := updS
      have hF4 := s4 _ _ hF3
      have hA4 := s4 _ _ hA'
      have hf4 := hf.mono (PrAt.mono (.of (s3.trans s4)))
      generalize upd H3 T (.tup [.int ((j : Nat) : Int), .int m]) = H4 at *
      have tm : TM H4 (upd H4 F (.lst (fs.map V.ref ++ [.ref T]))) := fun a xs h => updN (ne_of h hF4 (by intro z; cases z)) h
      have nAF : A' ≠ F := (ne_of_none ((s2.trans (Same.upd nZ)) _ _ hF) nA).symm
      refine ⟨F, _, _, rfl, rfl, hF4, ?_, Same.updI ((s.trans s3).trans s4) nF, A', fs ++ [T], fl ++ [(j, lcp (bs.drop j) (rs.drop r))], _, _, _, _, by omega, ?_, by rw [updS, List.map_append]; rfl, ?_, by rw [List.length_append, hfl]; rfl, fun w x hx => ?_, rfl⟩
      · rw [List.length_map, hf.1, hfl]
        exact Nat.lt_of_le_of_lt (show i ≤ 1000 by omega) (by decide)
      · rw [show rs.length - (i + 1) = r by omega]
        exact updN nAF hA4
      · refine (hf4.snoc ?_).mono (PrAt.mono tm)
        show H4 T = some (.tup [.int ((j : Nat) : Int), .int ((lcp (bs.drop j) (rs.drop r) : Nat) : Int)])
        rw [hT, em]
      · by_cases hw : w < fl.length
        · rw [List.getElem?_append_left hw] at hx
          exact hro w x hx
        · have hw2 := (List.getElem?_eq_some_iff.mp hx).1
          rw [List.length_append, List.length_singleton] at hw2
          have : w = fl.length := by omega
          subst this
          rw [List.getElem?_append_right (Nat.le_refl _), Nat.sub_self] at hx
          cases Option.some.inj hx
          rw [show rs.length - 1 - fl.length = r by omega]
          refine ⟨by show j ≤ bs.length; omega, rfl, fun a => ?_⟩
          show _ ≤ lcp (bs.drop j) (rs.drop r)
          by_cases ha : a < bs.length + 1
          · have := top _ (List.mem_of_getElem? (ahv_get (bs := bs) (rs := rs) (r := r) ha))
            omega
          · rw [List.drop_of_length_le (by omega), lcp_nil_l]
            exact Nat.zero_le _
  · rintro σ H' ⟨s, A, fs, fl, z4, z5, z6, z7, hil, hA, hF, hf, hfl, hro, rfl⟩
    rw [lr] at hfl
    refine ⟨_, rfl, F, _, rfl, sqL hF, fun L nL => ?_⟩
    rw [← List.map_reverse]
    refine k L fs.reverse fl.reverse _ (s.trans (Same.upd nL)) updS ?_ (by rw [List.length_reverse]; exact hfl) (fun r x hx => ?_)
    · refine ⟨by rw [List.length_reverse, List.length_reverse]; exact hf.1, fun i a x h1 h2 => ?_⟩
      have hi1 := (List.getElem?_eq_some_iff.mp h1).1
      have hi2 := (List.getElem?_eq_some_iff.mp h2).1
      rw [List.length_reverse] at hi1 hi2
      rw [List.getElem?_reverse hi1] at h1
      rw [List.getElem?_reverse hi2] at h2
      have hl := hf.1
      exact Same.upd nL _ _ (hf.2 _ a x h1 (by rw [hl]; exact h2))
    · have hi2 := (List.getElem?_eq_some_iff.mp hx).1
      rw [List.length_reverse] at hi2
      rw [List.getElem?_reverse hi2] at hx
      have := hro _ x hx
      rw [show rs.length - 1 - (fl.length - 1 - r) = r by omega] at this
      exact this
end
end Fw

set_option Elab.async false
set_option linter.all false
set_option maxRecDepth 100000
set_option maxHeartbeats 4000000
namespace Fw
open PySem L2 RZ RT
theorem DsOk.snoc {bs rs : List Str} {runs : List (Nat × Nat)} {t p c : Int} {d : List Int} {i : Nat} (D : DsOk bs rs runs t p d) (hl : d.length = i + 1) (h1 : c ≤ dv d i + p) (h2 : ∀ k, k < i + 1 → ∀ x, runs[k]? = some x → i + 1 ≤ k + x.2 → c ≤ dv d k + t) : DsOk bs rs runs t p (d ++ [c]) := by
  refine ⟨by rw [dv_snoc (by omega)]; exact D.zero, fun j hj => ?_, fun a b hab hb x hx hj => ?_⟩
  · rw [List.length_append, List.length_singleton] at hj
    by_cases q : j + 1 < d.length
    · rw [dv_snoc q, dv_snoc (by omega)]
      exact D.put j q
    · have e : j = i := by omega
      subst e
      rw [← hl, dv_last, dv_snoc (by omega)]
      exact h1
  · rw [List.length_append, List.length_singleton] at hb
    by_cases q : b < d.length
    · rw [dv_snoc q, dv_snoc (by omega)]
      exact D.take a b hab q x hx hj
    · have e : b = d.length := by omega
      subst e
      rw [dv_last, dv_snoc (by omega)]
      exact h2 a (by omega) x hx (by omega)
theorem int_at {d : List Int} {i : Nat} (h : i < d.length) : atI (d.map V.int) (i : Int) = some (.int (dv d i)) := atI_nat (by
  rw [List.getElem?_map, List.getElem?_eq_getElem h]
  show some (V.int d[i]) = some (V.int (d.getD i 0))
  rw [List.getD_eq_getElem?_getD, List.getElem?_eq_getElem h]
  rfl)
theorem none_at {as : List Addr} {j : Nat} {a : Addr} (h : as[j]? = some a) : atI (V.non :: as.map V.ref) ((j + 1 : Nat) : Int) = some (.ref a) := atI_nat (by
  rw [List.getElem?_cons_succ, List.getElem?_map, h]
  rfl)
theorem run_part {bs rs : List Str} {k e : Nat} {x : Nat × Nat} (ro : RunOk bs rs k x) (h : e ≤ k + x.2) : x.1 + (e - k) ≤ bs.length ∧ (bs.drop x.1).take (e - k) = (rs.drop k).take (e - k) := by
  have l := lcp_le (bs.drop x.1) (rs.drop k)
  rw [← ro.eq, List.length_drop, List.length_drop] at l
  refine ⟨by have := ro.le; omega, ?_⟩
  refine take_of_le (n := x.2) ?_ (by omega)
  rw [ro.eq]
  exact lcp_take _ _
section
variable {K : PySem.W.Frag} {vs : List V} {H : Hp} {Q : VK} {E : XK}
theorem pure_cheapest (h : sp_cheapest K vs H Q E) : t_cheapest K { nx := fun _ H' => Q .non H', rt := Q } (start N_cheapest vs) H := by
  obtain ⟨B, R, bs, rs, t, p, rfl, hB, hR, zb, zr, k⟩ := h
  have lr : (rs.map V.str).length = rs.length := List.length_map ..
  refine ⟨_, rfl, _, rfl, B, R, bs, rs, rfl, hB, hR, zb, zr, fun U us runs H1 g1 hU hus hrl hro => ?_⟩
  refine ⟨by show (1 : Nat) ≤ sizeLine; decide, fun Dd nD => ⟨by show (1 : Nat) ≤ sizeLine; decide, fun Lp nL => ⟨_, _, rfl, ?_⟩⟩⟩
  have nDL : Dd ≠ Lp := fun e => by rw [← e, updS] at nL; cases nL
  have nL1 : H1 Lp = none := by rw [upd_ne nDL.symm] at nL; exact nL
  have g2 : Same H1 (upd (upd H1 Dd (.lst [.int 0])) Lp (.lst [.non])) := (Same.upd nD).trans (Same.upd nL)
  have hD0 : upd (upd H1 Dd (.lst [.int 0])) Lp (.lst [.non]) Dd = some (.lst [.int 0]) := updN nDL updS
  have hL0 : upd (upd H1 Dd (.lst [.int 0])) Lp (.lst [.non]) Lp = some (.lst [.non]) := updS
  show tSeq _ _ _ [some (.ref B), some (.ref R), some (.int t), some (.int p), some (.ref U), some (.ref Dd), some (.ref Lp), none, none, none, none] (upd (upd H1 Dd (.lst [.int 0])) Lp (.lst [.non]))
  generalize upd (upd H1 Dd (.lst [.int 0])) Lp (.lst [.non]) = H2 at *
  have hR2 : H2 R = some (.tup (rs.map V.str)) := g2 _ _ (g1 _ _ hR)
  refine ⟨_, rfl, lenT hR2 ⟨_, _, rfl, rfl, _, _, rfl, ⟨by decide, by decide, by omega, by omega⟩, ?_⟩⟩
  have en : ((((rs.map V.str).length : Nat) : Int) + 1 - 1).toNat = rs.length := by omega
  rw [en]
  refine for_range (lo := 1) (n := rs.length) (fun i σ H' => Same H1 H' ∧ ∃ (as : List Addr) (d : List Int) (qs : List Pc) (z7 z8 z9 z10 : Option V), H' Dd = some (.lst (d.map V.int)) ∧ H' Lp = some (.lst (V.non :: as.map V.ref)) ∧ LsAt (PcAt H') as qs ∧ d.length = i + 1 ∧ qs.length = i ∧ DsOk bs rs runs t p d ∧ (∀ j q, qs[j]? = some q → LpC bs rs t p d (j + 1) (dv d (j + 1)) q) ∧
    σ = [some (.ref B), some (.ref R), some (.int t), some (.int p), some (.ref U), some (.ref Dd), some (.ref Lp), z7, z8, z9, z10]) ⟨g2, [], [0], [], none, none, none, none, hD0, hL0, .nil, rfl, rfl, ⟨rfl, fun j hj => by simp at hj, fun a b hab hb => by simp at hb; omega⟩, (fun j q h => by cases h), rfl⟩ ?_ ?_
  · rintro i σ H' hi ⟨s, as, d, qs, z7, z8, z9, z10, hD, hL, hq, dl, ql, ds, lp, rfl⟩
    have ei : (1 + (i : Int)) = ((i + 1 : Nat) : Int) := by omega
    have e0 : ((i + 1 : Nat) : Int) - 1 = (i : Int) := by omega
    show tSeq _ _ _ [some (.ref B), some (.ref R), some (.int t), some (.int p), some (.ref U), some (.ref Dd), some (.ref Lp), some (.int (1 + (i : Int))), z8, z9, z10] H'
    rw [ei]
    have hU' : H' U = some (.lst (us.map V.ref)) := s _ _ hU
    have hR' : H' R = some (.tup (rs.map V.str)) := s _ _ (g1 _ _ hR)
    have lpb : ∀ j q, qs[j]? = some q → j < i := fun j q h => by rw [← ql]; exact (List.getElem?_eq_some_iff.mp h).1
    obtain ⟨z, hz⟩ : ∃ z, rs[i]? = some z := ⟨_, List.getElem?_eq_getElem hi⟩
    have eD : atI (d.map V.int) (((i + 1 : Nat) : Int) - 1) = some (.int (dv d i)) := by rw [e0]; exact int_at (by omega)
    refine ⟨_, rfl, _, rfl, _, _, rfl, rfl, ixL hD eD ⟨_, rfl, _, _, rfl, rfl, _, rfl, _, rfl, _, _, rfl, rfl, _, rfl, _, rfl, _, rfl, ?_⟩⟩
    show rSlA K (.ref R) (some (((i + 1 : Nat) : Int) - 1)) (some ((i + 1 : Nat) : Int)) H' _
    rw [e0]
    refine slB hR' (by omega) (by omega) fun w H3 s3 hw => ⟨by show (2 : Nat) ≤ sizeLine; decide, fun T nT => ⟨_, _, rfl, ?_⟩⟩
    have s4 : Same H' (upd H3 T (.tup [.str "put", .ref w])) := s3.trans (Same.upd nT)
    have hT : PcAt (upd H3 T (.tup [.str "put", .ref w])) T (.put [z]) := by
      refine ⟨w, updS, Same.upd nT _ _ ?_⟩
      have e1 : (rs.drop i).take (i + 1 - i) = [z] := by
        rw [show i + 1 - i = 1 by omega]
        exact put_mk (e := i + 1) (by omega) hz
      rw [e1] at hw
      exact hw
    have lpT : LpC bs rs t p d (i + 1) (dv d i + p) (.put [z]) := .inl ⟨z, rfl, hz, rfl⟩
    show tSeq _ _ _ [some (.ref B), some (.ref R), some (.int t), some (.int p), some (.ref U), some (.ref Dd), some (.ref Lp), some (.int ((i + 1 : Nat) : Int)), z8, some (.int (dv d i + p)), some (.ref T)] (upd H3 T (.tup [.str "put", .ref w]))
    generalize upd H3 T (.tup [.str "put", .ref w]) = H4 at *
    refine ⟨_, rfl, _, rfl, by omega, by omega, ?_⟩
    refine for_range (lo := 0) (n := (((i + 1 : Nat) : Int)).toNat) (fun b σ H5 => Same H' H5 ∧ ∃ (c : Int) (pa : Addr) (q : Pc) (z8 : Option V), PcAt H5 pa q ∧ LpC bs rs t p d (i + 1) c q ∧ c ≤ dv d i + p ∧ (∀ a, a < b → ∀ x, runs[a]? = some x → i + 1 ≤ a + x.2 → c ≤ dv d a + t) ∧
      σ = [some (.ref B), some (.ref R), some (.int t), some (.int p), some (.ref U), some (.ref Dd), some (.ref Lp), some (.int ((i + 1 : Nat) : Int)), z8, some (.int c), some (.ref pa)]) ⟨s4, dv d i + p, T, .put [z], z8, hT, lpT, Int.le_refl _, fun a ha => absurd ha (Nat.not_lt_zero _), rfl⟩ ?_ ?_
    · rintro b σ H5 hb ⟨s5, c, pa, q, z8, hpa, lpq, c1, c2, rfl⟩
      have hb : b < i + 1 := by omega
      obtain ⟨x, hx⟩ : ∃ x, runs[b]? = some x := ⟨_, List.getElem?_eq_getElem (by omega)⟩
      obtain ⟨u, hu, hux⟩ := hus.at hx
      have hux5 : H5 u = some (.tup [.int (x.1 : Int), .int (x.2 : Int)]) := s5 _ _ (s _ _ hux)
      have hU5 := s5 _ _ hU'
      have hD5 := s5 _ _ hD
      have eu : atI (us.map V.ref) (0 + (b : Int)) = some (.ref u) := by rw [Int.zero_add]; exact atI_ref hu
      have ed : atI (d.map V.int) (0 + (b : Int)) = some (.int (dv d b)) := by rw [Int.zero_add]; exact int_at (by omega)
      have skip : (¬ (i + 1 ≤ b + x.2 ∧ dv d b + t < c)) → ∀ a, a < b + 1 → ∀ y, runs[a]? = some y → i + 1 ≤ a + y.2 → c ≤ dv d a + t := by
        intro no a ha y hy hay
        by_cases e : a = b
        · subst e
          rw [hx] at hy
          cases Option.some.inj hy
          rcases Int.lt_or_le (dv d a + t) c with l | l
          · exact absurd ⟨hay, l⟩ no
          · exact l
        · exact c2 a (by omega) y hy hay
      refine ⟨_, rfl, _, rfl, _, rfl, ixL hU5 eu (ixT hux5 rfl ⟨_, _, rfl, rfl, _, rfl, _, _, rfl, rfl, _, rfl, ?_⟩)⟩
      by_cases q1 : i + 1 ≤ b + x.2
      · rw [decide_eq_true (show ((i + 1 : Nat) : Int) ≤ 0 + (b : Int) + (x.2 : Int) by omega)]
        refine iteT ⟨_, rfl, _, rfl, ixL hD5 ed ⟨_, rfl, _, _, rfl, rfl, _, rfl, _, _, rfl, rfl, _, rfl, ?_⟩⟩
        by_cases q2 : dv d b + t < c
        · rw [decide_eq_true q2]
          refine iteT ⟨_, rfl, _, rfl, ixL hD5 ed ⟨_, rfl, _, _, rfl, rfl, _, rfl, _, rfl, ixL hU5 eu (ixT hux5 rfl ⟨_, rfl, _, rfl, _, _, rfl, rfl, by show (3 : Nat) ≤ sizeLine; decide, fun T2 nT2 => ⟨_, _, rfl, ?_⟩⟩)⟩⟩
          obtain ⟨r1, r2⟩ := run_part (hro b x hx) q1
          refine ⟨s5.trans (Same.upd nT2), dv d b + t, T2, .take x.1 (i + 1 - b), _, ?_, .inr ⟨b, x.1, hb, rfl, r1, r2, rfl⟩, by omega, fun a ha y hy hay => ?_, rfl⟩
          · show upd _ _ _ _ = some (.tup [.str "take", .int (x.1 : Int), .int ((i + 1 - b : Nat) : Int)])
            rw [updS, show ((i + 1 - b : Nat) : Int) = ((i + 1 : Nat) : Int) - (0 + (b : Int)) by omega]
          · by_cases e : a = b
            · subst e
              exact Int.le_refl _
            · have := c2 a (by omega) y hy hay
              omega
        · rw [decide_eq_false q2]
          exact iteF ⟨s5, c, pa, q, _, hpa, lpq, c1, skip (fun h => q2 h.2), rfl⟩
      · rw [decide_eq_false (show ¬ ((i + 1 : Nat) : Int) ≤ 0 + (b : Int) + (x.2 : Int) by omega)]
        exact iteF (iteF ⟨s5, c, pa, q, _, hpa, lpq, c1, skip (fun h => q1 h.1), rfl⟩)
    · rintro σ H5 ⟨s5, c, pa, q, z8, hpa, lpq, c1, c2, rfl⟩
      have hD5 := s5 _ _ hD
      have hL5 := s5 _ _ hL
      have lq : as.length = i := by rw [hq.1]; exact ql
      refine ⟨_, rfl, .inl ⟨rfl, _, sqL hD5⟩, _, rfl, Dd, _, _, rfl, rfl, hD5, by rw [List.length_map]; exact Nat.lt_of_le_of_lt (show d.length ≤ 2000 by omega) (by decide), ?_⟩
      have hL6 : upd H5 Dd (.lst (d.map V.int ++ [.int c])) Lp = some (.lst (V.non :: as.map V.ref)) := updN nDL.symm hL5
      have tm1 : TM H5 (upd H5 Dd (.lst (d.map V.int ++ [.int c]))) := fun a xs h => updN (ne_of h hD5 (by intro z; cases z)) h
      have hD6 : upd H5 Dd (.lst (d.map V.int ++ [.int c])) Dd = some (.lst ((d ++ [c]).map V.int)) := by rw [updS, List.map_append]; rfl
      have s6 : Same H1 (upd H5 Dd (.lst (d.map V.int ++ [.int c]))) := Same.updI (s.trans s5) nD
      generalize upd H5 Dd (.lst (d.map V.int ++ [.int c])) = H6 at *
      refine ⟨_, rfl, .inl ⟨rfl, _, sqL hL6⟩, _, rfl, Lp, _, _, rfl, rfl, hL6, ?_, ?_⟩
      · rw [List.length_cons, List.length_map]
        exact Nat.lt_of_le_of_lt (show as.length + 1 ≤ 2000 by omega) (by decide)
      have tm2 : TM H6 (upd H6 Lp (.lst (V.non :: as.map V.ref ++ [.ref pa]))) := fun a xs h => updN (ne_of h hL6 (by intro z; cases z)) h
      refine ⟨Same.updI s6 nL1, as ++ [pa], d ++ [c], qs ++ [q], _, _, _, _, updN nDL hD6, by rw [updS, List.map_append]; rfl, ?_, by rw [List.length_append, dl]; rfl, by rw [List.length_append, ql]; rfl, ds.snoc dl c1 (fun a ha => c2 a (by omega)), fun j q' hj => ?_, rfl⟩
      · exact ((hq.mono (PcAt.mono' (.of s5))).snoc hpa).mono (PcAt.mono' (tm1.trans tm2))
      · by_cases hjl : j < qs.length
        · rw [List.getElem?_append_left hjl] at hj
          rw [dv_snoc (by omega)]
          exact (lp j q' hj).snoc (by omega) (by omega)
        · have hj2 := (List.getElem?_eq_some_iff.mp hj).1
          rw [List.length_append, List.length_singleton] at hj2
          have ej : j = qs.length := by omega
          subst ej
          rw [List.getElem?_append_right (Nat.le_refl _), Nat.sub_self] at hj
          cases Option.some.inj hj
          rw [ql, ← dl, dv_last, dl]
          exact lpq.snoc (by omega) (by omega)
  · rintro σ H' ⟨s, as, d, qs, z7, z8, z9, z10, hD, hL, hq, dl, ql, ds, lp, rfl⟩
    refine ⟨_, rfl, _, rfl, by show (2 : Nat) ≤ sizeLine; decide, fun T nT => ?_⟩
    have sT : Same H' (upd H' T (.tup [.ref Dd, .ref Lp])) := Same.upd nT
    exact k T Dd Lp as d qs runs _ ((g1.trans s).trans sT) updS (sT _ _ hD) (sT _ _ hL) (hq.mono (PcAt.mono' (.of sT))) dl ql hrl hro ds lp
theorem cost_append (t p : Int) (xs ys : List Pc) : cost t p (xs ++ ys) = cost t p xs + cost t p ys := by
  unfold cost
  rw [List.map_append, List.sum_append]
theorem last_at {as : List Addr} {a : Addr} : atI ((as ++ [a]).map V.ref) (-1) = some (.ref a) := by
  unfold atI ixN
  have l : ((as ++ [a]).map V.ref).length = as.length + 1 := by rw [List.length_map, List.length_append]; rfl
  rw [if_neg (by decide), l, if_pos (by omega)]
  show ((as ++ [a]).map V.ref)[((-1 : Int) + ((as.length + 1 : Nat) : Int)).toNat]? = _
  rw [show ((-1 : Int) + ((as.length + 1 : Nat) : Int)).toNat = as.length by omega, List.map_append, List.getElem?_append_right (by rw [List.length_map]; exact Nat.le_refl _), List.length_map, Nat.sub_self]
  rfl
theorem last_ix {as : List Addr} {a : Addr} : ixN ((as ++ [a]).map V.ref).length (-1) = some as.length := by
  unfold ixN
  have l : ((as ++ [a]).map V.ref).length = as.length + 1 := by rw [List.length_map, List.length_append]; rfl
  rw [if_neg (by decide), l, if_pos (by omega)]
  congr 1
  omega
theorem set_last {as : List Addr} {a b : Addr} : ((as ++ [a]).map V.ref).set as.length (.ref b) = (as ++ [b]).map V.ref := by
  rw [List.map_append, List.map_append, List.set_append_right _ _ (by rw [List.length_map]; exact Nat.le_refl _), List.length_map, Nat.sub_self]
  rfl
theorem pure_with_puts_together (h : sp_with_puts_together K vs H Q E) : t_with_puts_together K { nx := fun _ H' => Q .non H', rt := Q } (start N_with_puts_together vs) H := by
  obtain ⟨L, as, bs, ps, t, p, rfl, hL, hp, ok, fit, k⟩ := h
  refine ⟨Nat.zero_le _, fun W nW => ⟨_, rfl, L, rfl, ⟨_, sqL (updN (ne_of_none hL nW) hL)⟩, ?_⟩⟩
  refine for_list (K := K) (a := L) (xs := as.map V.ref) (fun i σ H' => Same H H' ∧ ∃ (cs : List Addr) (qs : List Pc) (z2 : Option V), H' W = some (.lst (cs.map V.ref)) ∧ LsAt (PcAt H') cs qs ∧ (∀ q ∈ qs, q.ok) ∧ (∀ q ∈ qs, q.fits bs.length) ∧ total qs = total (ps.take i) ∧ makes bs qs = makes bs (ps.take i) ∧ cost t p qs = cost t p (ps.take i) ∧ σ = [some (.ref L), some (.ref W), z2]) ⟨Same.upd nW, [], [], none, updS, .nil, (fun _ h => by cases h), (fun _ h => by cases h), rfl, rfl, rfl, rfl⟩ (fun i σ H' _ p => sqL (p.1 _ _ hL)) ?_ ?_
  · rintro i x σ H' hx ⟨s, cs, qs, z2, hW, hc, qok, qfit, et, em, ec, rfl⟩
    obtain ⟨c, rfl, hac⟩ := map_ref_get hx
    obtain ⟨q, hq, hcq⟩ := hp.get hac
    have hcq := hcq.mono (.of s)
    have oq := ok.ok q (List.mem_of_getElem? hq)
    have fq := fit q (List.mem_of_getElem? hq)
    have tl := total_take_le (ps := ps) i
    have tl1 := total_take_le (ps := ps) (i + 1)
    have okf := ok.few
    have lq : qs.length ≤ 40 := by have := len_le_total qok; omega
    have lc : cs.length ≤ 40 := by rw [hc.1]; exact lq
    have et1 : total (ps.take (i + 1)) = total (ps.take i) + q.n := by rw [take_succ hq, total_snoc]
    have em1 : makes bs (ps.take (i + 1)) = makes bs (ps.take i) ++ q.mk bs := makes_snoc hq
    have ec1 : cost t p (ps.take (i + 1)) = cost t p (ps.take i) + q.cost t p := cost_snoc hq
    -- append
    have app : ∀ D' : Ends, (∀ σ H'', (Same H H'' ∧ ∃ (cs : List Addr) (qs : List Pc) (z2 : Option V), H'' W = some (.lst (cs.map V.ref)) ∧ LsAt (PcAt H'') cs qs ∧ (∀ q ∈ qs, q.ok) ∧ (∀ q ∈ qs, q.fits bs.length) ∧ total qs = total (ps.take (i + 1)) ∧ makes bs qs = makes bs (ps.take (i + 1)) ∧ cost t p qs = cost t p (ps.take (i + 1)) ∧ σ = [some (.ref L), some (.ref W), z2]) → D'.nx σ H'') → tDrop (tBM K "list" rAppend (tVar 1) (tCons (tVar 2) tNil)) D' [some (.ref L), some (.ref W), some (.ref c)] H' := by
      intro D' kd
      have tm : TM H' (upd H' W (.lst (cs.map V.ref ++ [.ref c]))) := fun a xs h => updN (ne_of h hW (by intro z; cases z)) h
      refine ⟨_, rfl, .inl ⟨rfl, _, sqL hW⟩, _, rfl, W, _, _, rfl, rfl, hW, by rw [List.length_map]; exact Nat.lt_of_le_of_lt lc (by decide), kd _ _ ⟨Same.updI s nW, cs ++ [c], qs ++ [q], _, by rw [updS, List.map_append]; rfl, (hc.snoc hcq).mono (PcAt.mono' tm), fun y hy => ?_, fun y hy => ?_, by rw [total_snoc, et, et1], ?_, ?_, rfl⟩⟩
      · rcases List.mem_append.mp hy with h | h
        · exact qok y h
        · rw [List.mem_singleton.mp h]; exact oq
      · rcases List.mem_append.mp hy with h | h
        · exact qfit y h
        · rw [List.mem_singleton.mp h]; exact fq
      · rw [makes_append, em, em1]
        show _ ++ (q.mk bs ++ []) = _
        rw [List.append_nil]
      · rw [cost_append, ec, ec1]
        show _ + (q.cost t p + 0) = _
        omega
    rcases List.eq_nil_or_concat qs with e | ⟨init, l, e⟩
    · subst e
      have e0 : cs = [] := List.length_eq_zero_iff.mp hc.1
      subst e0
      exact ⟨_, rfl, _, .inl ⟨_, sqL hW, rfl⟩, app _ fun _ _ z => z⟩
    · rw [List.concat_eq_append] at e
      subst e
      obtain ⟨cs', a0, rfl, hc1, hc2⟩ := hc.unsnoc
      refine ⟨_, rfl, _, .inl ⟨_, sqL hW, rfl⟩, ?_⟩
      rw [show (!((cs' ++ [a0]).map V.ref).isEmpty) = true by rw [List.map_append]; cases cs'.map V.ref <;> rfl]
      refine iteT ?_
      cases l with
      | take b m =>
        refine ⟨_, rfl, _, rfl, ixL hW last_at (ixT hc2 rfl ⟨rfl, _, rfl, ?_⟩)⟩
        rw [take_put]
        exact iteF (iteF (app _ fun _ _ z => z))
      | put rs1 =>
        obtain ⟨r1, h4, h5⟩ := hc2
        refine ⟨_, rfl, _, rfl, ixL hW last_at (ixT h4 rfl ⟨rfl, _, rfl, ?_⟩)⟩
        rw [decide_eq_true rfl]
        cases q with
        | take b m =>
          refine iteT ⟨_, rfl, ixT hcq rfl ⟨rfl, _, rfl, ?_⟩⟩
          rw [take_put]
          exact iteF (app _ fun _ _ z => z)
        | put rs2 =>
          obtain ⟨r2, h6, h7⟩ := hcq
          refine iteT ⟨_, rfl, ixT h6 rfl ⟨rfl, _, rfl, ?_⟩⟩
          rw [decide_eq_true rfl]
          have o1 : (Pc.put rs1).ok := qok _ (List.mem_append_right _ (List.mem_singleton.mpr rfl))
          have n1 : rs1.map V.str ≠ [] := fun e => o1.1 (List.map_eq_nil_iff.mp e)
          have n2 : rs2.map V.str ≠ [] := fun e => oq.1 (List.map_eq_nil_iff.mp e)
          have l1 : rs1.length ≤ 40 := by
            have := n_le_total (p := Pc.put rs1) (List.mem_append_right init (List.mem_singleton.mpr rfl))
            have e : (Pc.put rs1).n = rs1.length := rfl
            omega
          have l2 : rs2.length ≤ 40 := by
            have := n_le_total (List.mem_of_getElem? hq)
            have e : (Pc.put rs2).n = rs2.length := rfl
            omega
          refine iteT ⟨_, rfl, _, rfl, ixL hW last_at (ixT h4 rfl ⟨_, rfl, ixT h6 rfl ⟨r1, r2, _, _, rfl, rfl, sqT h5, sqT h7, ?_, fun e => absurd e n1, fun _ e => absurd e n2, fun _ _ G nG => ⟨by show (2 : Nat) ≤ sizeLine; decide, fun T nT => ⟨_, rfl, _, rfl, W, _, _, _, rfl, rfl, (Same.upd nT) _ _ ((Same.upd nG) _ _ hW), last_ix, ?_⟩⟩⟩⟩)⟩
          · rw [List.length_map, List.length_map]
            exact Nat.le_trans (show rs1.length + rs2.length ≤ 1000 by omega) (by decide)
          rw [set_last]
          have nGT : G ≠ T := fun e => by rw [← e, updS] at nT; cases nT
          have s4 : Same H' (upd (upd H' G (.tup (rs1.map V.str ++ rs2.map V.str))) T (.tup [.str "put", .ref G])) := (Same.upd nG).trans (Same.upd nT)
          have hT : PcAt (upd (upd H' G (.tup (rs1.map V.str ++ rs2.map V.str))) T (.tup [.str "put", .ref G])) T (.put (rs1 ++ rs2)) := ⟨G, updS, updN nGT (by rw [updS, List.map_append])⟩
          generalize upd (upd H' G (.tup (rs1.map V.str ++ rs2.map V.str))) T (.tup [.str "put", .ref G]) = H4 at *
          have tm : TM H4 (upd H4 W (.lst ((cs' ++ [T]).map V.ref))) := fun a xs h => updN (ne_of h (s4 _ _ hW) (by intro z; cases z)) h
          refine ⟨Same.updI (s.trans s4) nW, cs' ++ [T], init ++ [.put (rs1 ++ rs2)], _, updS, ((hc1.mono (PcAt.mono' (.of s4))).snoc hT).mono (PcAt.mono' tm), fun y hy => ?_, fun y hy => ?_, ?_, ?_, ?_, rfl⟩
          · rcases List.mem_append.mp hy with h | h
            · exact qok y (List.mem_append_left _ h)
            · rw [List.mem_singleton.mp h]
              refine ⟨fun e => o1.1 (List.append_eq_nil_iff.mp e).1, fun z hz => ?_⟩
              rcases List.mem_append.mp hz with h | h
              · exact o1.2 z h
              · exact oq.2 z h
          · rcases List.mem_append.mp hy with h | h
            · exact qfit y (List.mem_append_left _ h)
            · rw [List.mem_singleton.mp h]; exact True.intro
          · rw [total_snoc] at et ⊢
            rw [et1, ← et]
            show total init + (rs1 ++ rs2).length = total init + rs1.length + rs2.length
            rw [List.length_append]
            omega
          · rw [em1, ← em, makes_append, makes_append, List.append_assoc]
            congr 1
            show (rs1 ++ rs2) ++ [] = (rs1 ++ []) ++ rs2
            rw [List.append_nil, List.append_nil]
          · rw [ec1, ← ec, cost_append, cost_append]
            show cost t p init + (p * (((rs1 ++ rs2).length : Nat) : Int) + 0) = cost t p init + (p * ((rs1.length : Nat) : Int) + 0) + p * ((rs2.length : Nat) : Int)
            rw [List.length_append, show ((rs1.length + rs2.length : Nat) : Int) = (rs1.length : Int) + (rs2.length : Int) by omega, Int.mul_add]
            omega
  · rintro σ H' ⟨s, cs, qs, z2, hW, hc, qok, qfit, et, em, ec, rfl⟩
    rw [List.length_map, hp.1, List.take_of_length_le (Nat.le_refl _)] at et em ec
    refine ⟨_, rfl, W, _, rfl, .inl ⟨sqL hW, fun r nr => ?_⟩⟩
    have sr : Same H' (upd H' r (.tup (cs.map V.ref))) := Same.upd nr
    exact k r qs _ (s.trans sr) ⟨cs, updS, hc.mono (PcAt.mono' (.of sr))⟩ ⟨qok, by rw [et]; exact ok.few⟩ qfit em ec
/-- the state of the walk back -/
def LsW (H : Hp) (B R T Dd Lp W : Addr) (t p : Int) (bs rs : List Str) (d : List Int) (σ : L2.St) (H' : Hp) : Prop := Same H H' ∧ ∃ (e : Nat) (cs : List Addr) (out : List Pc), e ≤ rs.length ∧ H' W = some (.lst (cs.map V.ref)) ∧ LsAt (PcAt H') cs.reverse out ∧ (∀ q ∈ out, q.ok) ∧ (∀ q ∈ out, q.fits bs.length) ∧ total out + e = rs.length ∧ makes bs out = rs.drop e ∧ cost t p out + dv d e = dv d rs.length ∧
  σ = [some (.ref B), some (.ref R), some (.int t), some (.int p), some (.ref Dd), some (.ref Lp), some (.ref W), some (.int (e : Int))]
theorem pure_least (h : sp_least K vs H Q E) : t_least K { nx := fun _ H' => Q .non H', rt := Q } (start N_least vs) H := by
  obtain ⟨B, R, bs, rs, t, p, rfl, hB, hR, zb, zr, hok, k⟩ := h
  have lr : (rs.map V.str).length = rs.length := List.length_map ..
  refine ⟨_, rfl, _, rfl, _, rfl, _, rfl, B, R, bs, rs, t, p, rfl, hB, hR, zb, by omega, fun T Dd Lp as d qs runs H1 g1 hT hD hL hq dl ql hrl hro ds lp => ?_⟩
  refine ⟨T, _, rfl, sqT hT, rfl, _, _, rfl, _, _, rfl, rfl, ⟨Nat.zero_le _, fun W nW => ?_⟩⟩
  have sW : Same H1 (upd H1 W (.lst [])) := Same.upd nW
  refine ⟨_, rfl, lenT (sW _ _ (g1 _ _ hR)) ?_⟩
  rw [lr]
  refine while_by (LsW H1 B R T Dd Lp W t p bs rs d) (fun σ _ => slotN 7 σ) ⟨sW, rs.length, [], [], Nat.le_refl _, updS, .nil, (fun _ h => by cases h), (fun _ h => by cases h), by show 0 + rs.length = _; omega, by rw [List.drop_length]; rfl, by show (0 : Int) + _ = _; omega, rfl⟩ ?_ (fun σ H Q Q' f h => by
    obtain ⟨v, e, i, j, e1, e2, b, e3, q⟩ := h
    exact ⟨v, e, i, j, e1, e2, b, e3, f _ _ q⟩)
  rintro σ H2 ⟨s, e, cs, out, he, hW, hc, ook, ofit, ot, om, oc, rfl⟩
  have lo : out.length ≤ 40 := by have := len_le_total ook; omega
  have lc : cs.length = out.length := by have := hc.1; rw [List.length_reverse] at this; exact this
  refine ⟨_, rfl, _, _, rfl, rfl, _, rfl, ite2 (fun b => ?_) (fun b => ?_)⟩
  · have h0 : 0 < e := by have q : (0 : Int) < (e : Int) := of_decide_eq_true b; omega
    obtain ⟨q, hqe⟩ : ∃ q, qs[e - 1]? = some q := ⟨_, List.getElem?_eq_getElem (by omega)⟩
    obtain ⟨a, hae, haq⟩ := hq.at hqe
    have lpq := lp _ _ hqe
    rw [show e - 1 + 1 = e by omega] at lpq
    obtain ⟨q1, q2, q3, q4, q5, q6⟩ := lpq.good h0 hok
    have ea : atI (V.non :: as.map V.ref) (e : Int) = some (.ref a) := by
      have := none_at hae
      rw [show e - 1 + 1 = e by omega] at this
      exact this
    have hL2 : H2 Lp = some (.lst (V.non :: as.map V.ref)) := s _ _ hL
    have haq2 := haq.mono (.of s)
    have tm : TM H2 (upd H2 W (.lst (cs.map V.ref ++ [.ref a]))) := fun b xs h => updN (ne_of h hW (by intro z; cases z)) h
    have nLW : Lp ≠ W := ne_of_none hL nW
    refine ⟨_, rfl, .inl ⟨rfl, _, sqL hW⟩, _, rfl, _, rfl, ixL hL2 ea ⟨W, _, _, rfl, rfl, hW, by rw [List.length_map]; exact Nat.lt_of_le_of_lt (show cs.length ≤ 40 by omega) (by decide), ?_⟩⟩
    refine ⟨_, rfl, _, rfl, _, rfl, ixL (updN nLW hL2) ea ⟨a, q, rfl, haq2.mono tm, _, _, rfl, rfl, ?_⟩⟩
    refine ⟨⟨Same.updI s nW, e - q.n, cs ++ [a], q :: out, by omega, by rw [updS, List.map_append]; rfl, ?_, fun y hy => ?_, fun y hy => ?_, ?_, ?_, ?_, ?_⟩, ?_⟩
    · rw [List.reverse_append]
      exact ((LsAt.one haq2).append hc).mono (PcAt.mono' tm)
    · rcases List.mem_cons.mp hy with h | h
      · rw [h]; exact q5
      · exact ook y h
    · rcases List.mem_cons.mp hy with h | h
      · rw [h]; exact q3
      · exact ofit y h
    · rw [total_cons]; omega
    · rw [makes_cons, om, q4]
      have e2 : e = (e - q.n) + q.n := by omega
      have e3 : rs.drop e = (rs.drop (e - q.n)).drop q.n := by rw [List.drop_drop, ← e2]
      rw [e3, List.take_append_drop]
    · have ec : cost t p (q :: out) = q.cost t p + cost t p out := rfl
      rw [ec]
      omega
    · show _ = [_, _, _, _, _, _, _, some (V.int ((e - q.n : Nat) : Int))]
      rw [show ((e - q.n : Nat) : Int) = (e : Int) - (q.n : Int) by omega]
      rfl
    · show ((e : Int) - (q.n : Int)).toNat < (e : Int).toNat
      omega
  · have h0 : e = 0 := by
      have q : ¬ (0 : Int) < (e : Int) := fun h => b (decide_eq_true h)
      omega
    subst h0
    rw [List.drop_zero] at om
    refine ⟨_, rfl, W, _, rfl, sqL hW, fun G nG => ?_⟩
    rw [← List.map_reverse]
    have sG : Same H2 (upd H2 G (.lst (cs.reverse.map V.ref))) := Same.upd nG
    refine ⟨G, cs.reverse, bs, out, t, p, rfl, updS, hc.mono (PcAt.mono' (.of sG)), ⟨ook, by omega⟩, ofit, fun s' ps H3 s3 hs' ok' fit' mk' co' => ?_⟩
    have hD3 : H3 Dd = some (.lst (d.map V.int)) := s3 _ _ (sG _ _ (s _ _ hD))
    refine ⟨_, rfl, Dd, _, rfl, .inl ⟨sqL hD3, fun dd nd => ⟨by show (2 : Nat) ≤ sizeLine; decide, fun T2 nT2 => ?_⟩⟩⟩
    have s5 : Same H3 (upd (upd H3 dd (.tup (d.map V.int))) T2 (.tup [.ref s', .ref dd])) := (Same.upd nd).trans (Same.upd nT2)
    have ndT : dd ≠ T2 := fun e => by rw [← e, updS] at nT2; cases nT2
    refine k T2 s' dd ps d _ ((((g1.trans s).trans sG).trans s3).trans s5) updS (hs'.mono (.of s5)) (updN ndT updS) ?_
    refine least_ok ds hro hrl dl (fun j h0 hj => ?_) ok' fit' (mk'.trans om) ?_
    · obtain ⟨q, hqj⟩ : ∃ q, qs[j - 1]? = some q := ⟨_, List.getElem?_eq_getElem (by omega)⟩
      have := lp _ _ hqj
      rw [show j - 1 + 1 = j by omega] at this
      exact ⟨q, this⟩
    · rw [co', ← oc, ds.zero]
      omega
end
end Fw

set_option Elab.async false
set_option linter.all false
set_option maxRecDepth 100000
set_option maxHeartbeats 4000000
namespace Fw
open PySem L2 RZ RT
def sp_l_is_script (_ : PySem.W.Frag) : Sp := fun vs H Q _ => ∃ (a : Addr) (ps : List Pc), vs = [.ref a] ∧ ScAt H a ps ∧ ScOk ps ∧ Q (.bl true) H
def sp_l_fits (_ : PySem.W.Frag) : Sp := fun vs H Q _ => ∃ (B a : Addr) (bs : List Str) (ps : List Pc), vs = [.ref B, .ref a] ∧ RwAt H B bs ∧ ScAt H a ps ∧ ScOk ps ∧ (∀ p ∈ ps, p.fits bs.length) ∧ Q (.bl true) H
section
variable {K : PySem.W.Frag} {vs : List V} {H : Hp} {Q : VK} {E : XK}
theorem len_l_is_script (h : sp_l_is_script K vs H Q E) : vs.length = 1 := by obtain ⟨_, _, rfl, _⟩ := h; rfl
theorem len_l_fits (h : sp_l_fits K vs H Q E) : vs.length = 2 := by obtain ⟨_, _, _, _, rfl, _⟩ := h; rfl
end
abbrev N_l_is_script : List Str := ["_law_thing", "_law_total", "_law_piece"]
def t_l_is_script (K : PySem.W.Frag) : TS := (tSeq (tIfS (tNot (tB (tCB (rIsi K) (tCons (tVar 0) (tCons (tC (.ty "tuple")) tNil))))) (tRet (tC (.bl false))) tNext)
    (tSeq (tAsg (tC (.int 0)) (gName 1))
    (tSeq (tFor (iTup K (tVar 0)) (gName 2) (tSeq (tIfS (tTest (tOp rEq (tCall (sp_l_size K) [] E0 (tCons (tVar 2) tNil)) (tC (.int 0)))) (tRet (tC (.bl false))) tNext)
    (tAsg (tOp rAddI (tVar 1) (tCall (sp_l_size K) [] E0 (tCons (tVar 2) tNil))) (gName 1))))
    (tRet (tOp rLeI (tVar 1) (tC (.int 40)))))))
abbrev N_l_fits : List Str := ["_law_base", "_law_thing", "_law_piece"]
def t_l_fits (K : PySem.W.Frag) : TS := (tSeq (tIfS (tNot (tB (tCall (sp_l_is_script K) [] E0 (tCons (tVar 1) tNil)))) (tRet (tC (.bl false))) tNext)
    (tSeq (tFor (iTup K (tVar 1)) (gName 2) (tIfS (tAnd (tTest (tOp rEq (tOp (rIx K) (tVar 2) (tC (.int 0))) (tC (.str "take")))) (tTest (tOp rGtI (tOp rAddI (tOp (rIx K) (tVar 2) (tC (.int 1))) (tOp (rIx K) (tVar 2) (tC (.int 2)))) (tCB (fLen K) (tCons (tVar 0) tNil))))) (tRet (tC (.bl false))) tNext))
    (tRet (tC (.bl true)))))
theorem SqL.kp {K : PySem.W.Frag} {D a : Addr} {H H' : Hp} {xs : List V} (h : SqL K H a xs) (k : Kp D H H') (n : H D = none) : SqL K H' a xs := by
  rcases h with (h | ⟨o, h⟩) | h
  · exact .inl (.inl (k _ _ h (ne_of_none h n)))
  · exact .inl (.inr ⟨o, k _ _ h (ne_of_none h n)⟩)
  · exact .inr h
theorem rows_same {H : Hp} {n : Nat} {r q : Addr} {zs : List Str} (h1 : RwAt H r zs) (h2 : RwAt H q zs) (hz : zs.length ≤ 1000) : SameV H (n + 2) (.ref r) (.ref q) :=
  SameV.tup h1 h2 rfl (by rw [List.length_map]; omega) SameV.strs
section
variable {K : PySem.W.Frag} {vs : List V} {H : Hp} {Q : VK} {E : XK}
theorem pure_l_is_script (h : sp_l_is_script K vs H Q E) : t_l_is_script K { nx := fun _ H' => Q .non H', rt := Q } (start N_l_is_script vs) H := by
  obtain ⟨a, ps, rfl, ⟨as, ha, hp⟩, ok, k⟩ := h
  refine ⟨_, rfl, isi (.base (.tup ha)) k_tt ⟨_, rfl, iteF ⟨_, rfl, a, rfl, ⟨_, sqT ha⟩, ?_⟩⟩⟩
  refine for_tup (K := K) (a := a) (xs := as.map V.ref) (fun i σ H' => H' = H ∧ ∃ z, σ = [some (.ref a), some (.int ((total (ps.take i) : Nat) : Int)), z]) ⟨rfl, none, rfl⟩ (fun i σ H' _ p => by rw [p.1]; exact sqT ha) ?_ ?_
  · rintro i x σ H' hx ⟨rfl, z, rfl⟩
    obtain ⟨c, p, rfl, h1, h2, h3⟩ := sc_get hp hx
    have o := ok.ok p (List.mem_of_getElem? h2)
    have p1 := Pc.one o
    refine ⟨_, rfl, c, p, rfl, h3, o, rfl, _, rfl, ?_⟩
    rw [decide_eq_false (show ¬ V.int (p.n : Int) = V.int 0 by intro e; injection e with e; omega)]
    refine iteF ⟨_, rfl, _, rfl, c, p, rfl, h3, o, _, _, rfl, rfl, rfl, some (.ref c), ?_⟩
    rw [take_succ h2, total_snoc, show ((total (ps.take i) + p.n : Nat) : Int) = ((total (ps.take i) : Nat) : Int) + (p.n : Int) by omega]
    rfl
  · rintro σ H' ⟨rfl, z, rfl⟩
    rw [List.length_map, hp.1, List.take_of_length_le (Nat.le_refl _)]
    refine ⟨_, rfl, _, _, rfl, rfl, ?_⟩
    exact blT (Q := Q) (show ((total ps : Nat) : Int) ≤ 40 by have := ok.few; omega) k
theorem pure_l_fits (h : sp_l_fits K vs H Q E) : t_l_fits K { nx := fun _ H' => Q .non H', rt := Q } (start N_l_fits vs) H := by
  obtain ⟨B, a, bs, ps, rfl, hB, sc, ok, fit, k⟩ := h
  refine ⟨_, rfl, a, ps, rfl, sc, ok, _, rfl, iteF ?_⟩
  obtain ⟨as, ha, hp⟩ := sc
  refine ⟨_, rfl, a, rfl, ⟨_, sqT ha⟩, ?_⟩
  refine for_tup (K := K) (a := a) (xs := as.map V.ref) (fun i σ H' => H' = H ∧ ∃ z, σ = [some (.ref B), some (.ref a), z]) ⟨rfl, none, rfl⟩ (fun i σ H' _ p => by rw [p.1]; exact sqT ha) ?_ ?_
  · rintro i x σ H' hx ⟨rfl, z, rfl⟩
    obtain ⟨c, p, rfl, h1, h2, h3⟩ := sc_get hp hx
    have f := fit p (List.mem_of_getElem? h2)
    cases p with
    | take b m =>
      have f : b + m ≤ bs.length := f
      refine ⟨_, rfl, ixT h3 rfl ⟨rfl, _, rfl, ?_⟩⟩
      rw [decide_eq_true rfl]
      refine iteT ⟨_, rfl, ixT h3 rfl ⟨_, rfl, ixT h3 rfl ⟨_, _, rfl, rfl, _, rfl, lenT hB ⟨_, _, rfl, rfl, _, rfl, ?_⟩⟩⟩⟩
      rw [decide_eq_false (show ¬ (((bs.map V.str).length : Nat) : Int) < (b : Int) + (m : Int) by rw [List.length_map]; omega)]
      exact iteF ⟨rfl, _, rfl⟩
    | put rs =>
      obtain ⟨q, h4, h5⟩ := h3
      refine ⟨_, rfl, ixT h4 rfl ⟨rfl, _, rfl, ?_⟩⟩
      rw [put_take]
      exact iteF (iteF ⟨rfl, _, rfl⟩)
  · rintro σ H' ⟨rfl, z, rfl⟩
    exact k
/-- two tuples of the same texts are not unlike -/
theorem dp_strs : ∀ zs : List Str, DpAll K H (zs.map V.str) (zs.map PyData.str)
  | [] => .nil
  | z :: zs => .cons (.str z) (dp_strs zs)
theorem dp_rows {r : Addr} {zs : List Str} (h : RwAt H r zs) : Dp K H (.ref r) (.tuple (zs.map PyData.str)) := .tup (sqT h) (dp_strs zs)
theorem eqv_strs : ∀ zs : List Str, PyData.eqvAll (zs.map PyData.str) (zs.map PyData.str) = true
  | [] => rfl
  | z :: zs => by
    show (PyData.eqv (.str z) (.str z) && PyData.eqvAll (zs.map PyData.str) (zs.map PyData.str)) = true
    rw [eqv_strs zs, Bool.and_true]
    show (z == z) = true
    exact beq_self_eq_true _
theorem rows_ne {r q : Addr} {zs : List Str} (h1 : RwAt H r zs) (h2 : RwAt H q zs) (hs : SeqAt.shaped (.tuple (zs.map PyData.str)) = true) (k : Q (.bl false) H) : rNeD K (.ref r) (.ref q) H Q := by
  refine ⟨_, _, dp_rows h1, dp_rows h2, hs, hs, ?_⟩
  have e : PyData.eqv (.tuple (zs.map PyData.str)) (.tuple (zs.map PyData.str)) = true := eqv_strs zs
  rw [e]
  exact k
theorem lay_strs : ∀ zs : List Str, (∀ z ∈ zs, OkS z) → PyData.canLayAll0 (zs.map PyData.str) = true
  | [], _ => rfl
  | z :: zs, h => by
    show (PyData.canLay0 (.str z) && PyData.canLayAll0 (zs.map PyData.str)) = true
    rw [lay_strs zs fun y hy => h y (List.mem_cons_of_mem _ hy), Bool.and_true]
    show (z.cps.all (· < 0x110000)) = true
    rw [← Array.all_toList, List.all_eq_true]
    intro c hc
    have := (h z (List.mem_cons_self ..)).2 c hc
    exact decide_eq_true (by have := this.2.1; omega)
theorem depth_strs : ∀ zs : List Str, PyData.depthAll (zs.map PyData.str) = 0
  | [] => rfl
  | z :: zs => by
    show max 0 (PyData.depthAll (zs.map PyData.str)) = 0
    rw [depth_strs zs]
    rfl
theorem rows_ne' {r q : Addr} {zs : List Str} (h1 : RwAt H r zs) (h2 : RwAt H q zs) (ok : ∀ z ∈ zs, OkS z) (k : Q (.bl false) H) : rNeD K (.ref r) (.ref q) H Q := by
  refine rows_ne h1 h2 ?_ k
  show (PyData.canLayAll0 (zs.map PyData.str) && decide (PyData.depthAll (zs.map PyData.str) + 1 ≤ 64)) = true
  rw [lay_strs zs ok, depth_strs]
  rfl
end
end Fw

set_option Elab.async false
set_option linter.all false
set_option maxRecDepth 100000
set_option maxHeartbeats 4000000
namespace Fw
open PySem L2 RZ RT
theorem dlast_at {d : List Int} {n : Nat} (h : d.length = n + 1) : atI (d.map V.int) (-1) = some (.int (dv d n)) := by
  have := int_at (d := d) (i := n) (by omega)
  unfold atI ixN at this ⊢
  rw [List.length_map, if_pos (by omega), if_pos (by omega)] at this
  rw [List.length_map, if_neg (by decide), if_pos (by omega), show ((-1 : Int) + (d.length : Int)).toNat = (n : Int).toNat by omega]
  exact this
def sp_is_ints (_ : PySem.W.Frag) : Sp := fun vs H Q _ => ∃ (a : Addr) (d : List Int), vs = [.ref a] ∧ H a = some (.tup (d.map V.int)) ∧ d.length ≤ 1000 ∧ ∀ H', Same H H' → Q (.bl true) H'
def sp_are_bounds (_ : PySem.W.Frag) : Sp := fun vs H Q _ => ∃ (B R dd : Addr) (bs rs : List Str) (ps : List Pc) (d : List Int) (t p : Int), vs = [.ref B, .ref R, .ref dd, .int t, .int p] ∧ RwAt H B bs ∧ RwAt H R rs ∧ H dd = some (.tup (d.map V.int)) ∧ bs.length ≤ 1000 ∧ rs.length ≤ 40 ∧ 0 ≤ t ∧ LeastOk bs rs t p ps d ∧ ∀ H', Same H H' → Q (.bl true) H'
/-- a paper that is a right one, or one whose last number is another one -/
def sp_right_least (_ : PySem.W.Frag) : Sp := fun vs H Q _ => ∃ (B R T s dd : Addr) (bs rs : List Str) (ps : List Pc) (d d0 : List Int) (t p : Int) (b : Bool), vs = [.ref B, .ref R, .ref T, .int t, .int p] ∧ RwAt H B bs ∧ RwAt H R rs ∧ H T = some (.tup [.ref s, .ref dd]) ∧ ScAt H s ps ∧ H dd = some (.tup (d.map V.int)) ∧ bs.length ≤ 1000 ∧ rs.length ≤ 40 ∧ (∀ z ∈ rs, OkS z) ∧
  0 ≤ t ∧ t ≤ 10000000 ∧ 0 ≤ p ∧ p ≤ 10000000 ∧ LeastOk bs rs t p ps d0 ∧ d.length = rs.length + 1 ∧ (dv d 0 = 0 ∨ b = false) ∧ ((b = true ∧ d = d0) ∨ (b = false ∧ dv d rs.length ≠ cost t p ps)) ∧ ∀ H', Same H H' → Q (.bl b) H'
section
variable {K : PySem.W.Frag} {vs : List V} {H : Hp} {Q : VK} {E : XK}
theorem len_is_ints (h : sp_is_ints K vs H Q E) : vs.length = 1 := by obtain ⟨_, _, rfl, _⟩ := h; rfl
theorem len_are_bounds (h : sp_are_bounds K vs H Q E) : vs.length = 5 := by obtain ⟨_, _, _, _, _, _, _, _, _, rfl, _⟩ := h; rfl
theorem len_right_least (h : sp_right_least K vs H Q E) : vs.length = 5 := by obtain ⟨_, _, _, _, _, _, _, _, _, _, _, _, _, rfl, _⟩ := h; rfl
end
abbrev N_is_ints : List Str := ["thing", "part"]
def t_is_ints (K : PySem.W.Frag) : TS := (tRet (tAndV (tCB (rIsi K) (tCons (tVar 0) (tCons (tC (.ty "tuple")) tNil))) (tCB (rAll K) (tCons (tLc (iTup K (tVar 0)) (gName 1) tYes (tCall (sp_is_intI K) [] E0 (tCons (tVar 1) tNil)) [1]) tNil))))
abbrev N_are_bounds : List Str := ["base", "rows", "distances", "take", "put", "runs", "begin"]
def t_are_bounds (K : PySem.W.Frag) : TS := (tSeq (tAsg (tCall (sp_longest_runs K) [] E0 (tCons (tVar 0) (tCons (tVar 1) tNil))) (gName 5))
    (tSeq (tFor (iRng1 (tCons (tCB (fLen K) (tCons (tVar 1) tNil)) tNil)) (gName 6) (tSeq (tIfS (tTest (tOp rGtI (tOp (rIx K) (tVar 2) (tOp rAddI (tVar 6) (tC (.int 1)))) (tOp rAddI (tOp (rIx K) (tVar 2) (tVar 6)) (tVar 4)))) (tRet (tC (.bl false))) tNext)
    (tIfS (tTest (tOp rGtI (tCB (rMaxT K) (tCons (tSl (rSlA K) (tVar 2) (tPart (tVar 6)) (tPart (tOp rAddI (tOp rAddI (tVar 6) (tOp (rIx K) (tOp (rIx K) (tVar 5) (tVar 6)) (tC (.int 1)))) (tC (.int 1))))) tNil)) (tOp rAddI (tOp (rIx K) (tVar 2) (tVar 6)) (tVar 3)))) (tRet (tC (.bl false))) tNext)))
    (tRet (tC (.bl true)))))
abbrev N_right_least : List Str := ["base", "rows", "thing", "take", "put", "script", "distances"]
def t_right_least (K : PySem.W.Frag) : TS := (tSeq (tIfS (tOr (tNot (tB (tCall (sp_is_pairT K) [] E0 (tCons (tVar 2) tNil)))) (tOr (tNot (tB (tCall (sp_is_right_over K) [] E0 (tCons (tVar 0) (tCons (tOp (rIx K) (tVar 2) (tC (.int 0))) tNil))))) (tTest (tOp (rNeD K) (tCall (sp_made K) [] E0 (tCons (tVar 0) (tCons (tOp (rIx K) (tVar 2) (tC (.int 0))) tNil))) (tVar 1))))) (tRet (tC (.bl false))) tNext)
    (tSeq (tAsg (tVar 2) (gTup K 2 (gCons (gName 5) (gCons (gName 6) gNil))))
    (tSeq (tIfS (tOr (tNot (tB (tCall (sp_is_ints K) [] E0 (tCons (tVar 6) tNil)))) (tTest (tOp rNe (tCB (fLen K) (tCons (tVar 6) tNil)) (tOp rAddI (tCB (fLen K) (tCons (tVar 1) tNil)) (tC (.int 1)))))) (tRet (tC (.bl false))) tNext)
    (tSeq (tIfS (tOr (tTest (tOp rNe (tOp (rIx K) (tVar 6) (tC (.int 0))) (tC (.int 0)))) (tTest (tOp rNe (tOp (rIx K) (tVar 6) (tUn rNegI (tC (.int 1)))) (tCallN 1 (List.length (α := Str) ["take", "put"]) (sp_price K) (fun us ws => (fun mv : List V => us ++ ((ws.drop 0).take 1 ++ (ws.drop 1).take 1)) []) E0 (tCons (tVar 5) tNil) (tCons (tVar 3) (tCons (tVar 4) tNil)))))) (tRet (tC (.bl false))) tNext)
    (tRet (tCall (sp_are_bounds K) [] E0 (tCons (tVar 0) (tCons (tVar 1) (tCons (tVar 6) (tCons (tVar 3) (tCons (tVar 4) tNil)))))))))))
section
variable {K : PySem.W.Frag} {vs : List V} {H : Hp} {Q : VK} {E : XK}
theorem pure_is_ints (h : sp_is_ints K vs H Q E) : t_is_ints K { nx := fun _ H' => Q .non H', rt := Q } (start N_is_ints vs) H := by
  obtain ⟨a, d, rfl, ha, hz, k⟩ := h
  refine ⟨_, rfl, isi (.base (.tup ha)) k_tt ⟨_, rfl, iteT ⟨_, rfl, a, rfl, ⟨_, sqT ha⟩, fun L nL => ?_⟩⟩⟩
  refine lc_grow (walk_tup (xs := d.map V.int)) yAt (ys := List.replicate (d.map V.int).length (.bl true)) nL List.length_replicate (by rw [List.length_map]; omega) (fun H' s => sqT (s _ _ ha)) ?_ ?_
  · rintro i x y H' R hi ⟨_, hx⟩ hy s r
    obtain ⟨z, rfl, hz⟩ := int_get hx
    rw [rep_get hy] at r
    exact ⟨rfl, ⟨_, rfl, z, rfl, r _ (Same.refl _)⟩⟩
  · intro H' s hL
    refine ⟨L, List.replicate (d.map V.int).length true, rfl, sqL (by rw [hL, List.map_replicate]), ?_⟩
    rw [all_rep]
    exact k _ s
/-- a stretch of a tuple of ints, as a slice tells it -/
theorem slI {B : Addr} {d : List Int} {b e : Nat} (hB : H B = some (.tup (d.map V.int))) (h1 : b ≤ e) (h2 : e ≤ d.length) (q : ∀ (r : Addr) (H' : Hp), Same H H' → H' r = some (.tup (((d.drop b).take (e - b)).map V.int)) → Q (.ref r) H') : rSlA K (.ref B) (some (b : Int)) (some (e : Int)) H Q := by
  have e1 : HT.sIx (d.map V.int).length 0 (some (b : Int)) = b := by rw [HT.sIx_nat, List.length_map]; omega
  have e2 : HT.sIx (d.map V.int).length (d.map V.int).length (some (e : Int)) = e := by rw [HT.sIx_nat, List.length_map]; omega
  refine ⟨B, _, rfl, sqT hB, fun q1 => ?_, fun q1 r nr => ?_⟩
  · rw [e1, e2, List.length_map] at q1
    obtain ⟨rfl, q2⟩ := q1
    refine q B H (Same.refl _) ?_
    rw [hB, List.drop_zero, List.take_of_length_le (by omega)]
  · refine q r _ (Same.upd nr) ?_
    rw [updS]
    unfold cutV
    rw [e1, e2, ← List.map_drop, ← List.map_take]
theorem mem_slice {d : List Int} {b n : Nat} {x : Int} (h : x ∈ (d.drop b).take n) : ∃ j, b ≤ j ∧ j < b + n ∧ j < d.length ∧ x = dv d j := by
  obtain ⟨i, hi, e⟩ := List.getElem_of_mem h
  rw [List.length_take, List.length_drop] at hi
  rw [List.getElem_take, List.getElem_drop] at e
  refine ⟨b + i, by omega, by omega, by omega, ?_⟩
  unfold dv
  rw [List.getD_eq_getElem?_getD, List.getElem?_eq_getElem (by omega), ← e]
  rfl
theorem pure_are_bounds (h : sp_are_bounds K vs H Q E) : t_are_bounds K { nx := fun _ H' => Q .non H', rt := Q } (start N_are_bounds vs) H := by
  obtain ⟨B, R, dd, bs, rs, ps, d, t, p, rfl, hB, hR, hd, zb, zr, t0, lo, k⟩ := h
  have lr : (rs.map V.str).length = rs.length := List.length_map ..
  have dl := lo.len
  refine ⟨_, rfl, _, rfl, B, R, bs, rs, rfl, hB, hR, zb, by omega, fun U us runs H1 g1 hU hus hrl hro => ?_⟩
  refine ⟨_, rfl, lenT (g1 _ _ hR) ⟨_, rfl, by omega, by omega, ?_⟩⟩
  refine for_range (lo := 0) (fun i σ H' => Same H1 H' ∧ ∃ z, σ = [some (.ref B), some (.ref R), some (.ref dd), some (.int t), some (.int p), some (.ref U), z]) ⟨Same.refl _, none, rfl⟩ ?_ ?_
  · rintro i σ H' hi ⟨s, z, rfl⟩
    have hi : i < rs.length := by omega
    have hd' : H' dd = some (.tup (d.map V.int)) := s _ _ (g1 _ _ hd)
    have ei : atI (d.map V.int) (0 + (i : Int)) = some (.int (dv d i)) := by rw [Int.zero_add]; exact int_at (by omega)
    have ei1 : atI (d.map V.int) (0 + (i : Int) + 1) = some (.int (dv d (i + 1))) := by
      rw [show (0 + (i : Int) + 1) = ((i + 1 : Nat) : Int) by omega]
      exact int_at (by omega)
    obtain ⟨x, hx⟩ : ∃ x, runs[i]? = some x := ⟨_, List.getElem?_eq_getElem (by omega)⟩
    obtain ⟨u, hu, hux⟩ := hus.at hx
    have hux' : H' u = some (.tup [.int (x.1 : Int), .int (x.2 : Int)]) := s _ _ hux
    have eu : atI (us.map V.ref) (0 + (i : Int)) = some (.ref u) := by rw [Int.zero_add]; exact atI_ref hu
    have ro := hro i x hx
    have lx := lcp_le (bs.drop x.1) (rs.drop i)
    rw [← ro.eq, List.length_drop, List.length_drop] at lx
    refine ⟨_, rfl, _, rfl, _, _, rfl, rfl, ixT hd' ei1 ⟨_, rfl, _, rfl, ixT hd' ei ⟨_, rfl, _, _, rfl, rfl, _, _, rfl, rfl, _, rfl, ?_⟩⟩⟩
    rw [decide_eq_false (show ¬ dv d i + p < dv d (i + 1) by have := lo.put i hi; omega)]
    refine iteF ⟨_, rfl, _, rfl, _, rfl, _, rfl, _, rfl, _, rfl, ixL (s _ _ hU) eu (ixT hux' rfl ⟨_, _, rfl, rfl, _, _, rfl, rfl, _, rfl, ?_⟩)⟩
    show rSlA K (.ref dd) (some (0 + (i : Int))) (some (0 + (i : Int) + (x.2 : Int) + 1)) H' _
    rw [show (0 + (i : Int)) = (i : Int) by omega, show ((i : Int) + (x.2 : Int) + 1) = ((i + x.2 + 1 : Nat) : Int) by omega]
    refine slI hd' (by omega) (by omega) fun r H2 s2 hr => ?_
    refine ⟨r, _, rfl, sqT hr, fun e => ?_, fun m hm top => ?_⟩
    · have := congrArg List.length e
      rw [List.length_take, List.length_drop] at this
      simp at this
      omega
    obtain ⟨j, j1, j2, j3, rfl⟩ := mem_slice hm
    have le : dv d j ≤ dv d i + t := by
      by_cases q : j = i
      · rw [q]; omega
      · obtain ⟨r1, r2⟩ := run_part (e := j) ro (by omega)
        exact lo.take i j x.1 (by omega) (by omega) r1 r2
    refine ⟨_, rfl, _, rfl, ixT (s2 _ _ hd') (int_at (i := i) (by omega)) ⟨_, rfl, _, _, rfl, rfl, _, _, rfl, rfl, _, rfl, ?_⟩⟩
    rw [decide_eq_false (show ¬ dv d i + t < dv d j by omega)]
    exact iteF ⟨s.trans s2, _, rfl⟩
  · rintro σ H' ⟨s, z, rfl⟩
    exact k _ (g1.trans s)
theorem pure_right_least (h : sp_right_least K vs H Q E) : t_right_least K { nx := fun _ H' => Q .non H', rt := Q } (start N_right_least vs) H := by
  obtain ⟨B, R, T, s, dd, bs, rs, ps, d, d0, t, p, b, rfl, hB, hR, hT, hs, hd, zb, zr, okr, t0, t1, p0, p1, lo, dl, h0, hb, k⟩ := h
  have lr : (rs.map V.str).length = rs.length := List.length_map ..
  have ldd : (d.map V.int).length = d.length := List.length_map ..
  refine ⟨_, rfl, T, _, _, rfl, hT, _, rfl, iteF ⟨_, rfl, _, rfl, ixT hT rfl ⟨B, s, bs, ps, rfl, hB, hs, lo.sc, lo.fit, fun H1 g1 => ⟨_, rfl, iteF ?_⟩⟩⟩⟩
  refine ⟨_, rfl, _, rfl, ixT (g1 _ _ hT) rfl ⟨B, s, bs, ps, rfl, g1 _ _ hB, hs.mono (.of g1), lo.sc, lo.fit, fun X H2 s2 w2 => ⟨_, rfl, ?_⟩⟩⟩
  have g2 := g1.trans s2
  rw [lo.made] at w2
  refine rows_ne' w2 (g2 _ _ hR) okr ⟨_, rfl, iteF ?_⟩
  refine ⟨_, rfl, T, _, rfl, sqT (g2 _ _ hT), rfl, _, _, rfl, _, _, rfl, rfl, ?_⟩
  refine ⟨_, rfl, dd, d, rfl, g2 _ _ hd, by omega, fun H3 s3 => ⟨_, rfl, iteF ?_⟩⟩
  have g3 := g2.trans s3
  refine ⟨_, rfl, lenT (g3 _ _ hd) ⟨_, rfl, lenT (g3 _ _ hR) ⟨_, _, rfl, rfl, rfl, _, rfl, ?_⟩⟩⟩
  rw [decide_eq_true (show V.int ((d.map V.int).length : Int) = V.int (((rs.map V.str).length : Int) + 1) by rw [ldd, lr, dl]; rfl)]
  refine iteF ⟨_, rfl, ixT (g3 _ _ hd) (int_at (i := 0) (by omega)) ⟨rfl, _, rfl, ?_⟩⟩
  by_cases q0 : dv d 0 = 0
  · rw [decide_eq_true (show V.int (dv d 0) = V.int 0 by rw [q0])]
    refine iteF ⟨_, rfl, _, rfl, ixT (g3 _ _ hd) (dlast_at dl) ⟨_, rfl, _, rfl, _, rfl, rfl, rfl, s, ps, t, p, rfl, hs.mono (.of g3), lo.sc, t0, t1, p0, p1, fun H4 s4 => ⟨rfl, _, rfl, ?_⟩⟩⟩
    have g4 := g3.trans s4
    rcases hb with ⟨rfl, rfl⟩ | ⟨rfl, hne⟩
    · rw [decide_eq_true (show V.int (dv d rs.length) = V.int (cost t p ps) by rw [lo.last])]
      exact iteF ⟨_, rfl, _, rfl, _, rfl, _, rfl, _, rfl, B, R, dd, bs, rs, ps, d, t, p, rfl, g4 _ _ hB, g4 _ _ hR, g4 _ _ hd, zb, zr, t0, lo, fun H5 s5 => k _ (g4.trans s5)⟩
    · rw [decide_eq_false (show ¬ V.int (dv d rs.length) = V.int (cost t p ps) by intro e; injection e with e; exact hne e)]
      exact iteT (k _ g4)
  · rw [decide_eq_false (show ¬ V.int (dv d 0) = V.int 0 by intro e; injection e with e; exact q0 e)]
    have : b = false := h0.elim (fun h => absurd h q0) id
    subst this
    exact iteT (k _ g3)
end
end Fw

set_option Elab.async false
set_option linter.all false
set_option maxRecDepth 100000
set_option maxHeartbeats 4000000
namespace Fw
open PySem PySem.Spec PyProof.Rows L2
theorem str_eq_dict (b : Str) (u : Tok) (l : Addr) (c : Value) (es : Array DictEntry) (n : Nat) (dd : Option Addr) (sl : Array (Option Value)) :
    Meets (Builtin.«str.__eq__» ⟨[.str b u, .ref l], []⟩) (fun _ R s => s.heap.get? l = some { cls := c, dict := dd, data := .dict es n, slots := sl } ∧ R (.ok (.ret .notImplemented)) s) :=
  .of_wp fun prog w A R s h => by
    obtain ⟨hp, g, d, tk, os⟩ := s
    obtain ⟨hl, h⟩ := h
    wp_walk using AutoSeq1.wpAny_loadPart' hl, wpAny_load hl
    exact ⟨_, rfl, h⟩
section
variable {prog : Program} {w : World} {K : Type} [DecidableEq K] {knd : KeyKind prog w K} {A : Around} {E : Value → Shared → Prop} {s : Shared}
theorem rc_dict_str {a : Addr} {b : Str} {u : Tok} {ka : List (K × Value)} (da : s.heap.DictOf knd a ka) (hu : A.units < cLine) (Q : Value → Shared → Prop) (h : Q (.bool false) s) : wpAny (model prog w) A (richCompare .Eq (.ref a) (.str b u)) Q E s := by
  obtain ⟨⟨cls, dd, data, sl⟩, es, ep, ho, hx, hd, _⟩ := id da
  simp only at hd
  subst hd
  refine SeqAt.rc_eq_decline_or (k := false) da.typeIs (typeIs_str s b u) (by decide) PySem.F.sub_str_dict PySem.F.slot_dict_eq PySem.F.slot_str_eq_refl
    (fun Q' hq => ?_) (fun _ hq => call_meets PySem.F.slot_str_eq_refl (typeIs_str s b u) PySem.F.entry_str_eq (PySem.F.args_str_eq_2 _ _) (str_eq_dict b u a cls es ep dd sl) ⟨ho, hq⟩)
    (fun _ hq => wpAny_of_eq (rfl : isSame (.ref a) (.str b u) = pure false) hq) (.inr hu) h
  refine wpAny_call_entry PySem.F.slot_dict_eq da.typeIs PySem.F.entry_dict_eq ?_ (PySem.F.args_dict_eq_2 _ _)
  show wpAny _ _ (Builtin.Dict.dictSlotArgs "__eq__" ⟨[.ref a, .str b u], []⟩ >>= _) _ _ s
  refine wpAny_bind ?_
  unfold Builtin.Dict.dictSlotArgs
  refine wpAny_bind (wpAny_notOrdered_dict da.typeIs ?_)
  show wpAny _ _ (pure (Value.ref a, Value.str b u)) _ _ s
  refine wpAny_pure ?_
  refine wpAny_bind (wpAny_isInstance (T := "str") (typeIs_str s b u) PySem.F.sub_str_dict ?_)
  simp only [Bool.not_false, if_true]
  exact wpAny_bind (wpAny_rule (wpAny_pure ⟨_, rfl, hq⟩))
end
/-- x == a text, x any data -/
def rEqS (K : PySem.W.Frag) : R2 := fun x y H Q => ∃ z, y = .str z ∧ ((scal x y = true ∧ Q (.bl (decide (x = y))) H) ∨ ∃ a, x = .ref a ∧ ((∃ xs, SqT K H a xs) ∨ (∃ xs, SqL K H a xs) ∨ ∃ kvs, H a = some (.dK kvs)) ∧ Q (.bl false) H)
theorem op_eqS {X : Cx} (hu : X.A.units + 64 < cLine) : OpR X (compareOp .Eq) (rEqS X.K) := by
  intro pins s σ H x y v u Q I rx ry h
  obtain ⟨z, rfl, h⟩ := h
  rcases h with h | ⟨a, rfl, h, q⟩
  · exact op_eq pins s σ H _ _ v u Q I rx ry h
  · cases (show v = Value.ref a from rx)
    obtain ⟨t, rfl⟩ := ry
    have hu2 : X.A.units < cLine := by omega
    show wpAny _ _ (richCompare .Eq (.ref a) (.str z t)) _ _ s
    rcases h with ⟨xs, h⟩ | ⟨xs, h⟩ | ⟨kvs, h⟩
    · obtain ⟨its, rv, p, _⟩ := I.tuple h
      exact SeqAt.RcAt.tuple_str z t p hu2 _ _ _ _ ⟨.bl false, H, I, rfl, q⟩
    · obtain ⟨its, rv, p, _⟩ := I.list h
      exact SeqAt.RcAt.list_str z t p.isList hu2 _ _ _ _ ⟨.bl false, H, I, rfl, q⟩
    · obtain ⟨_, ya, va, ra, da⟩ := (show ObjOk X.prog X.w H s.heap a (.dK kvs) from I.hok a _ h)
      exact rc_dict_str da hu2 _ ⟨.bl false, H, I, rfl, q⟩
/-- a text times an int -/
def rRepS : R2 := fun x y H Q => ∃ (z : Str) (k : Nat), x = .str z ∧ y = .int (k : Int) ∧ 2 ≤ k ∧ k ≤ 1000 ∧ 1 ≤ z.length ∧ z.length ≤ 1000 ∧ (⟨(List.replicate k z.cps).foldl (· ++ ·) #[]⟩ : Str).length ≤ sizeLine ∧ Q (.str ⟨(List.replicate k z.cps).foldl (· ++ ·) #[]⟩) H
theorem op_repS {X : Cx} : OpR X (binaryOp .Mult) rRepS := by
  intro pins s σ H x y v u Q I rx ry h
  obtain ⟨z, k, rfl, rfl, k1, k2, z1, z2, z3, q⟩ := h
  obtain ⟨t, rfl⟩ := rx
  obtain ⟨t', rfl⟩ := ry
  have hm : z.length * k ≤ 1000 * 1000 := Nat.mul_le_mul z2 k2
  have e1 : ¬ ((k : Nat) : Int) < 1 := by omega
  have e2 : (((k : Nat) : Int) == 1 || z.length == 0) = false := by
    rw [Bool.or_eq_false_iff, beq_eq_false_iff_ne, beq_eq_false_iff_ne]
    omega
  refine PySem.P.mul_str ?_ (fun _ _ => ?_) (fun _ _ => ?_) ?_
  · rw [Bool.or_eq_false_iff, decide_eq_false_iff_not, decide_eq_false_iff_not]
    omega
  · have : (1000 : Int) ≤ (2 ^ 63 - 1) / (k : Int) := (Int.le_ediv_iff_mul_le (by omega)).mpr (by omega)
    omega
  · show decide (z.length * k > sizeLine) = false
    rw [decide_eq_false_iff_not, sizeLine_eq]
    omega
  · rw [if_neg e1, if_neg (by rw [e2]; exact Bool.false_ne_true)]
    exact ⟨z3, ⟨.str _, H, I.tok _, ⟨_, rfl⟩, q⟩⟩
end Fw

set_option Elab.async false
set_option linter.all false
set_option maxRecDepth 100000
set_option maxHeartbeats 4000000
namespace Fw
open PySem L2 RZ RT
/-! ### what is raised, what is caught -/
def tRaise (E : XK) (c : Value) : TS := fun _ _ H => E c none H
/-! ### yes or no -/
noncomputable def dc (p : Prop) : Bool := @decide p (Classical.propDecidable p)
theorem dcT {p : Prop} (h : p) : dc p = true := @decide_eq_true p (Classical.propDecidable p) h
theorem dcF {p : Prop} (h : ¬ p) : dc p = false := @decide_eq_false p (Classical.propDecidable p) h
theorem dc_congr {p q : Prop} (h : p ↔ q) : dc p = dc q := by rw [propext h]
theorem dc_of {p : Prop} (h : dc p = true) : p := by
  by_cases q : p
  · exact q
  · rw [dcF q] at h
    cases h
theorem dc_dec {p : Prop} [Decidable p] : decide p = dc p := by
  by_cases q : p
  · rw [decide_eq_true q, dcT q]
  · rw [decide_eq_false q, dcF q]
theorem dc_all {α : Type} (P : α → Prop) : ∀ xs : List α, (xs.map fun x => dc (P x)).all id = dc (∀ x ∈ xs, P x)
  | [] => (dcT (fun x hx => by cases hx)).symm
  | x :: xs => by
    rw [List.map_cons, List.all_cons, dc_all P xs]
    show (dc (P x) && _) = _
    by_cases h : P x
    · rw [dcT h, Bool.true_and]
      refine dc_congr ⟨fun k y hy => ?_, fun k y hy => k y (List.mem_cons_of_mem _ hy)⟩
      rcases List.mem_cons.mp hy with rfl | hy
      · exact h
      · exact k y hy
    · rw [dcF h, Bool.false_and, dcF fun k => h (k x List.mem_cons_self)]
def Yn (P : Prop) (H : Hp) (Q : VK) : Prop := (P → ∀ H', Same H H' → Q (.bl true) H') ∧ (¬ P → ∀ H', Same H H' → Q (.bl false) H')
def Yx (P : Prop) (H : Hp) (Q : VK) : Prop := (P → Q (.bl true) H) ∧ (¬ P → Q (.bl false) H)
theorem Yn.x {P : Prop} {H : Hp} {Q : VK} (y : Yn P H Q) : Yx P H Q := ⟨fun p => y.1 p H (Same.refl _), fun p => y.2 p H (Same.refl _)⟩
theorem Yn.of {P : Prop} {H : Hp} {Q : VK} (h : ∀ H', Same H H' → Q (.bl (dc P)) H') : Yn P H Q := ⟨fun p H' s => by have := h H' s; rw [dcT p] at this; exact this, fun p H' s => by have := h H' s; rw [dcF p] at this; exact this⟩
theorem Yn.run {P : Prop} {H H' : Hp} {Q : VK} (y : Yn P H Q) (s : Same H H') : Q (.bl (dc P)) H' := by
  by_cases p : P
  · rw [dcT p]
    exact y.1 p H' s
  · rw [dcF p]
    exact y.2 p H' s
theorem Yn.yes {P : Prop} {H : Hp} {Q : VK} (y : Yn P H Q) (p : P) : Q (.bl true) H := y.1 p H (Same.refl _)
theorem Yn.no {P : Prop} {H : Hp} {Q : VK} (y : Yn P H Q) (p : ¬ P) : Q (.bl false) H := y.2 p H (Same.refl _)
theorem Yn.dec {P : Prop} {H : Hp} {Q : VK} {p : Prop} [Decidable p] (y : Yn P H Q) (e : p ↔ P) : Q (.bl (decide p)) H := by
  rw [dc_dec, dc_congr e]
  exact y.run (Same.refl _)
/-! ### any data -/
def TxOk (B : Nat) (z : Str) : Prop := z.cps.size ≤ B ∧ ∀ c ∈ z.cps.toList, c ≠ 37
inductive Ad (D : Addr) (B : Nat) (H : Hp) : V → Prop where
  | non : Ad D B H .non
  | bl (b : Bool) : Ad D B H (.bl b)
  | int (i : Int) : Ad D B H (.int i)
  | str {z : Str} (h : TxOk B z) : Ad D B H (.str z)
  | tup {p : Addr} {xs : List V} (n : p ≠ D) (h : H p = some (.tup xs)) (hz : xs.length ≤ B) (ha : ∀ x ∈ xs, Ad D B H x) : Ad D B H (.ref p)
  | lst {p : Addr} {xs : List V} (n : p ≠ D) (h : H p = some (.lst xs)) (hz : xs.length ≤ B) (ha : ∀ x ∈ xs, Ad D B H x) : Ad D B H (.ref p)
  | dct {p : Addr} {kvs : List (Key × V)} (n : p ≠ D) (h : H p = some (.dK kvs)) : Ad D B H (.ref p)
theorem Ad.mono {D : Addr} {B B' : Nat} {H H' : Hp} (k : Kp D H H') (hb : B ≤ B') {x : V} (a : Ad D B H x) : Ad D B' H' x := by
  induction a with
  | non => exact .non
  | bl b => exact .bl b
  | int i => exact .int i
  | str h => exact .str ⟨Nat.le_trans h.1 hb, h.2⟩
  | tup n h hz _ ih => exact .tup n (k _ _ h n) (Nat.le_trans hz hb) ih
  | lst n h hz _ ih => exact .lst n (k _ _ h n) (Nat.le_trans hz hb) ih
  | dct n h => exact .dct n (k _ _ h n)
theorem Ad.same {D : Addr} {B : Nat} {H H' : Hp} {x : V} (a : Ad D B H x) (s : Same H H') : Ad D B H' x := a.mono (Kp.of_same s) (Nat.le_refl _)
theorem q_dt : kitB "dict" "tuple" = some false := by decide +kernel
theorem q_di : kitB "dict" "int" = some false := by decide +kernel
theorem q_ds : kitB "dict" "str" = some false := by decide +kernel
theorem q_ns : kitB "NoneType" "str" = some false := by decide +kernel
theorem q_bs : kitB "bool" "str" = some false := by decide +kernel
theorem q_is : kitB "int" "str" = some false := by decide +kernel
theorem q_ts : kitB "tuple" "str" = some false := by decide +kernel
theorem q_ls : kitB "list" "str" = some false := by decide +kernel
section
variable {K : PySem.W.Frag} {D : Addr} {B : Nat} {H : Hp} {x : V}
theorem Ad.tupC (K : PySem.W.Frag) (a : Ad D B H x) : (∃ p xs, x = .ref p ∧ p ≠ D ∧ H p = some (.tup xs) ∧ xs.length ≤ B ∧ ∀ y ∈ xs, Ad D B H y) ∨ ((∃ ty, TyX K H x (.type ty) ∧ kitB ty "tuple" = some false) ∧ ∀ p xs, x = .ref p → H p ≠ some (.tup xs)) := by
  cases a with
  | non => exact .inr ⟨⟨_, .base .non, k_nt⟩, fun p xs e => by cases e⟩
  | bl b => exact .inr ⟨⟨_, .base (.bl b), k_bt⟩, fun p xs e => by cases e⟩
  | int i => exact .inr ⟨⟨_, .base (.int i), k_it⟩, fun p xs e => by cases e⟩
  | str h => exact .inr ⟨⟨_, .base (.str _), k_st⟩, fun p xs e => by cases e⟩
  | tup n h hz ha => exact .inl ⟨_, _, rfl, n, h, hz, ha⟩
  | lst n h hz ha => exact .inr ⟨⟨_, .base (.lst h), k_lt⟩, fun p xs e => by cases e; rw [h]; intro z; cases z⟩
  | dct n h => exact .inr ⟨⟨_, .base (.dK h), q_dt⟩, fun p xs e => by cases e; rw [h]; intro z; cases z⟩
theorem Ad.strC (K : PySem.W.Frag) (a : Ad D B H x) : (∃ z, x = .str z ∧ TxOk B z) ∨ ((∃ ty, TyX K H x (.type ty) ∧ kitB ty "str" = some false) ∧ ∀ z, x ≠ .str z) := by
  cases a with
  | non => exact .inr ⟨⟨_, .base .non, q_ns⟩, fun z e => by cases e⟩
  | bl b => exact .inr ⟨⟨_, .base (.bl b), q_bs⟩, fun z e => by cases e⟩
  | int i => exact .inr ⟨⟨_, .base (.int i), q_is⟩, fun z e => by cases e⟩
  | str h => exact .inl ⟨_, rfl, h⟩
  | tup n h hz ha => exact .inr ⟨⟨_, .base (.tup h), q_ts⟩, fun z e => by cases e⟩
  | lst n h hz ha => exact .inr ⟨⟨_, .base (.lst h), q_ls⟩, fun z e => by cases e⟩
  | dct n h => exact .inr ⟨⟨_, .base (.dK h), q_ds⟩, fun z e => by cases e⟩
theorem Ad.intC (K : PySem.W.Frag) (a : Ad D B H x) : (∃ i, x = .int i) ∨ (∃ b, x = .bl b) ∨ ((∃ ty, TyX K H x (.type ty) ∧ kitB ty "int" = some false) ∧ ∀ i, x ≠ .int i) := by
  cases a with
  | non => exact .inr (.inr ⟨⟨_, .base .non, k_ni⟩, fun z e => by cases e⟩)
  | bl b => exact .inr (.inl ⟨b, rfl⟩)
  | int i => exact .inl ⟨i, rfl⟩
  | str h => exact .inr (.inr ⟨⟨_, .base (.str _), k_si⟩, fun z e => by cases e⟩)
  | tup n h hz ha => exact .inr (.inr ⟨⟨_, .base (.tup h), k_ti⟩, fun z e => by cases e⟩)
  | lst n h hz ha => exact .inr (.inr ⟨⟨_, .base (.lst h), k_li⟩, fun z e => by cases e⟩)
  | dct n h => exact .inr (.inr ⟨⟨_, .base (.dK h), q_di⟩, fun z e => by cases e⟩)
/-- x == a text -/
theorem Ad.eqS {w : Str} {Q : VK} {σ : L2.St} (a : Ad D B H x) (hy : x = .str w → Q (.bl true) H) (hn : x ≠ .str w → Q (.bl false) H) : tC (.str w) σ H fun y H2 => rEqS K x y H2 Q := by
  show rEqS K x (.str w) H Q
  refine ⟨w, rfl, ?_⟩
  have sc : scal x (.str w) = true → scal x (.str w) = true ∧ Q (.bl (decide (x = .str w))) H := fun h => by
    refine ⟨h, ?_⟩
    by_cases e : x = .str w
    · rw [decide_eq_true e]
      exact hy e
    · rw [decide_eq_false e]
      exact hn e
  cases a with
  | non => exact .inl (sc rfl)
  | bl b => exact .inl (sc rfl)
  | int i => exact .inl (sc rfl)
  | str h => exact .inl (sc rfl)
  | tup n h hz ha => exact .inr ⟨_, rfl, .inl ⟨_, sqT h⟩, hn fun e => by cases e⟩
  | lst n h hz ha => exact .inr ⟨_, rfl, .inr (.inl ⟨_, sqL h⟩), hn fun e => by cases e⟩
  | dct n h => exact .inr ⟨_, rfl, .inr (.inr ⟨_, h⟩), hn fun e => by cases e⟩
end
theorem at0 {x : V} {r : List V} : atI (x :: r) 0 = some x := atI_nat (xs := x :: r) (j := 0) rfl
/-! ### what is a script -/
def Row (x : V) : Prop := ∃ z, x = .str z ∧ OkS z
def Put (H : Hp) (x : V) : Prop := ∃ a rs, x = .ref a ∧ RwAt H a rs ∧ rs ≠ [] ∧ ∀ z ∈ rs, OkS z
def Pie (H : Hp) (x : V) : Prop := ∃ a p, x = .ref a ∧ PcAt H a p ∧ p.ok
def Scr (H : Hp) (x : V) : Prop := ∃ a ps, x = .ref a ∧ ScAt H a ps ∧ ScOk ps
def Fit (H : Hp) (x : V) (L : Nat) : Prop := ∃ a ps, x = .ref a ∧ ScAt H a ps ∧ ScOk ps ∧ ∀ p ∈ ps, p.fits L
theorem str_inj : ∀ {rs ss : List Str}, rs.map V.str = ss.map V.str → rs = ss
  | [], [], _ => rfl
  | [], _ :: _, h => by cases h
  | _ :: _, [], h => by cases h
  | r :: rs, s :: ss, h => by
    rw [List.map_cons, List.map_cons] at h
    injection h with h1 h2
    injection h1 with h1
    rw [h1, str_inj h2]
theorem ref_inj : ∀ {rs ss : List Addr}, rs.map V.ref = ss.map V.ref → rs = ss
  | [], [], _ => rfl
  | [], _ :: _, h => by cases h
  | _ :: _, [], h => by cases h
  | r :: rs, s :: ss, h => by
    rw [List.map_cons, List.map_cons] at h
    injection h with h1 h2
    injection h1 with h1
    rw [h1, ref_inj h2]
theorem tup_inj {H : Hp} {a : Addr} {xs ys : List V} (h1 : H a = some (.tup xs)) (h2 : H a = some (.tup ys)) : xs = ys := by
  rw [h1] at h2
  injection h2 with h2
  injection h2
theorem take_ne : ("take" : Str) ≠ "put" := by decide +kernel
theorem PcAt.inj {H : Hp} {a : Addr} {p q : Pc} (h1 : PcAt H a p) (h2 : PcAt H a q) : p = q := by
  cases p with
  | take b m =>
    cases q with
    | take b2 m2 =>
      have e := tup_inj h1 h2
      injection e with _ e
      injection e with e1 e
      injection e with e2 _
      injection e1 with e1
      injection e2 with e2
      rw [Int.ofNat.inj e1, Int.ofNat.inj e2]
    | put rs =>
      obtain ⟨r, h3, _⟩ := h2
      have e := tup_inj h1 h3
      injection e with e _
      injection e with e
      exact absurd e take_ne
  | put rs =>
    obtain ⟨r, h3, h4⟩ := h1
    cases q with
    | take b m =>
      have e := tup_inj h2 h3
      injection e with e _
      injection e with e
      exact absurd e take_ne
    | put ss =>
      obtain ⟨r2, h5, h6⟩ := h2
      have e := tup_inj h3 h5
      injection e with _ e
      injection e with e _
      injection e with e
      subst e
      rw [str_inj (tup_inj h4 h6)]
theorem ScAt.inj {H : Hp} {a : Addr} {ps qs : List Pc} (h1 : ScAt H a ps) (h2 : ScAt H a qs) : ps = qs := by
  obtain ⟨as, h3, l1, h4⟩ := h1
  obtain ⟨bs, h5, l2, h6⟩ := h2
  have e := ref_inj (tup_inj h3 h5)
  subst e
  refine List.ext_getElem? fun i => ?_
  by_cases hi : i < as.length
  · have i1 : i < ps.length := by omega
    have i2 : i < qs.length := by omega
    rw [List.getElem?_eq_getElem i1, List.getElem?_eq_getElem i2]
    exact congrArg some (PcAt.inj (h4 i _ _ (List.getElem?_eq_getElem hi) (List.getElem?_eq_getElem i1)) (h6 i _ _ (List.getElem?_eq_getElem hi) (List.getElem?_eq_getElem i2)))
  · rw [List.getElem?_eq_none (by omega), List.getElem?_eq_none (by omega)]
theorem rows_of : ∀ {xs : List V}, (∀ x ∈ xs, Row x) → ∃ rs : List Str, xs = rs.map V.str ∧ ∀ z ∈ rs, OkS z
  | [], _ => ⟨[], rfl, fun z hz => by cases hz⟩
  | x :: xs, h => by
    obtain ⟨z, rfl, oz⟩ := h x List.mem_cons_self
    obtain ⟨rs, rfl, os⟩ := rows_of (xs := xs) fun y hy => h y (List.mem_cons_of_mem _ hy)
    refine ⟨z :: rs, rfl, fun w hw => ?_⟩
    rcases List.mem_cons.mp hw with rfl | hw
    · exact oz
    · exact os w hw
theorem put_iff {H : Hp} {p : Addr} {xs : List V} (h : H p = some (.tup xs)) (h0 : 0 < xs.length) : Put H (.ref p) ↔ ∀ x ∈ xs, Row x := by
  constructor
  · rintro ⟨a, rs, e, hr, _, ok⟩ x hx
    injection e with e
    subst e
    rw [tup_inj h hr] at hx
    obtain ⟨z, hz, rfl⟩ := List.mem_map.mp hx
    exact ⟨z, rfl, ok z hz⟩
  · intro k
    obtain ⟨rs, rfl, ok⟩ := rows_of k
    refine ⟨p, rs, rfl, h, ?_, ok⟩
    rintro rfl
    exact Nat.lt_irrefl 0 h0
theorem pies {H : Hp} : ∀ {xs : List V}, (∀ x ∈ xs, Pie H x) → ∃ as ps, xs = as.map V.ref ∧ PsAt H as ps ∧ ∀ p ∈ ps, p.ok
  | [], _ => ⟨[], [], rfl, .nil, fun p hp => by cases hp⟩
  | x :: xs, h => by
    obtain ⟨a, p, rfl, hp, okp⟩ := h x List.mem_cons_self
    obtain ⟨as, ps, rfl, hps, ok⟩ := pies (xs := xs) fun y hy => h y (List.mem_cons_of_mem _ hy)
    refine ⟨a :: as, p :: ps, rfl, ⟨by rw [List.length_cons, List.length_cons, hps.1], fun i b q h1 h2 => ?_⟩, fun q hq => ?_⟩
    · cases i with
      | zero =>
        cases Option.some.inj h1
        cases Option.some.inj h2
        exact hp
      | succ i => exact hps.2 i b q h1 h2
    · rcases List.mem_cons.mp hq with rfl | hq
      · exact okp
      · exact ok q hq
theorem scr_pies {H : Hp} {p : Addr} {xs : List V} (h : H p = some (.tup xs)) (s : Scr H (.ref p)) : ∀ x ∈ xs, Pie H x := by
  obtain ⟨a, ps, e, ⟨as, ha, hp⟩, ok⟩ := s
  injection e with e
  subst e
  intro x hx
  rw [tup_inj h ha] at hx
  obtain ⟨i, hi, e⟩ := List.getElem_of_mem hx
  obtain ⟨b, q, rfl, h1, h2, h3⟩ := sc_get hp (List.getElem?_eq_some_iff.mpr ⟨hi, e⟩)
  exact ⟨b, q, rfl, h3, ok.ok q (List.mem_of_getElem? h2)⟩
theorem Fit.scr {H : Hp} {x : V} {L : Nat} (f : Fit H x L) : Scr H x := by
  obtain ⟨a, ps, e, sc, ok, _⟩ := f
  exact ⟨a, ps, e, sc, ok⟩
theorem Pie.mono {H H' : Hp} {x : V} (h : Pie H x) (s : Same H H') : Pie H' x := by
  obtain ⟨a, p, e, hp, ok⟩ := h
  exact ⟨a, p, e, hp.mono (.of s), ok⟩
theorem Fit.mono {H H' : Hp} {x : V} {L : Nat} (h : Fit H x L) (s : Same H H') : Fit H' x L := by
  obtain ⟨a, ps, e, hp, r⟩ := h
  exact ⟨a, ps, e, hp.mono (.of s), r⟩
theorem Scr.mono {H H' : Hp} {x : V} (h : Scr H x) (s : Same H H') : Scr H' x := by
  obtain ⟨a, ps, e, hp, r⟩ := h
  exact ⟨a, ps, e, hp.mono (.of s), r⟩
/-- a tuple of any data that stands later stood before -/
theorem Ad.back {D a : Addr} {B : Nat} {H H' : Hp} {xs : List V} (ad : Ad D B H (.ref a)) (s : Same H H') (h : H' a = some (.tup xs)) : H a = some (.tup xs) ∧ ∀ x ∈ xs, Ad D B H x := by
  cases ad with
  | tup n h2 hz ha =>
    have := tup_inj (s _ _ h2) h
    subst this
    exact ⟨h2, ha⟩
  | lst n h2 =>
    have h1 := s _ _ h2
    rw [h] at h1
    cases h1
  | dct n h2 =>
    have h1 := s _ _ h2
    rw [h] at h1
    cases h1
theorem PcAt.back {D a : Addr} {B : Nat} {H H' : Hp} {p : Pc} (ad : Ad D B H (.ref a)) (s : Same H H') (h : PcAt H' a p) : PcAt H a p := by
  cases p with
  | take b m => exact (ad.back s h).1
  | put rs =>
    obtain ⟨q, h1, h2⟩ := h
    obtain ⟨h3, h4⟩ := ad.back s h1
    exact ⟨q, h3, ((h4 (.ref q) (by simp)).back s h2).1⟩
theorem ScAt.back {D a : Addr} {B : Nat} {H H' : Hp} {ps : List Pc} (ad : Ad D B H (.ref a)) (s : Same H H') (h : ScAt H' a ps) : ScAt H a ps := by
  obtain ⟨as, h1, h2, h3⟩ := h
  obtain ⟨h4, h5⟩ := ad.back s h1
  exact ⟨as, h4, h2, fun i b p e1 e2 => (h3 i b p e1 e2).back (h5 _ (List.mem_map.mpr ⟨b, List.mem_of_getElem? e1, rfl⟩)) s⟩
theorem fit_back {D : Addr} {B : Nat} {H H' : Hp} {x : V} {L : Nat} (ad : Ad D B H x) (s : Same H H') (h : Fit H' x L) : Fit H x L := by
  obtain ⟨a, ps, rfl, hp, r⟩ := h
  exact ⟨a, ps, rfl, hp.back ad s, r⟩
theorem scr_back {D : Addr} {B : Nat} {H H' : Hp} {x : V} (ad : Ad D B H x) (s : Same H H') (h : Scr H' x) : Scr H x := by
  obtain ⟨a, ps, rfl, hp, r⟩ := h
  exact ⟨a, ps, rfl, hp.back ad s, r⟩
theorem pie_same {D : Addr} {B : Nat} {H H' : Hp} {x : V} (ad : Ad D B H x) (s : Same H H') : Pie H' x ↔ Pie H x := by
  constructor
  · rintro ⟨a, p, rfl, hp, ok⟩
    exact ⟨a, p, rfl, hp.back ad s, ok⟩
  · exact fun h => h.mono s
/-! ### promises -/
def sp_is_intA (_ : PySem.W.Frag) : Sp := fun vs H Q _ => ∃ (x : V) (D : Addr) (B : Nat), vs = [x] ∧ Ad D B H x ∧ Yx (∃ i, x = .int i) H Q
abbrev sp_l_intA (K : PySem.W.Frag) : Sp := sp_is_intA K
def sp_is_pairA (_ : PySem.W.Frag) : Sp := fun vs H Q _ => ∃ (a : Addr) (xs : List V), vs = [.ref a] ∧ H a = some (.tup xs) ∧ Yn (xs.length = 2) H Q
def sp_is_signA (_ : PySem.W.Frag) : Sp := fun vs H Q _ => ∃ c : Nat, vs = [.str ⟨#[c]⟩] ∧ Yn (OkC c) H Q
def sp_is_textA (_ : PySem.W.Frag) : Sp := fun vs H Q _ => ∃ (x : V) (D : Addr) (B : Nat), vs = [x] ∧ Ad D B H x ∧ B ≤ 1000 ∧ Yn (∃ z, x = .str z ∧ ∀ c ∈ z.cps.toList, OkC c) H Q
def sp_is_rowA (_ : PySem.W.Frag) : Sp := fun vs H Q _ => ∃ (x : V) (D : Addr) (B : Nat), vs = [x] ∧ Ad D B H x ∧ B ≤ 1000 ∧ Yn (Row x) H Q
def sp_are_putA (_ : PySem.W.Frag) : Sp := fun vs H Q _ => ∃ (x : V) (D : Addr) (B : Nat), vs = [x] ∧ Ad D B H x ∧ B ≤ 1000 ∧ Yn (Put H x) H Q
def sp_is_pieceA (_ : PySem.W.Frag) : Sp := fun vs H Q _ => ∃ (x : V) (D : Addr) (B : Nat), vs = [x] ∧ Ad D B H x ∧ B ≤ 1000 ∧ Yn (Pie H x) H Q
def sp_is_scriptA (_ : PySem.W.Frag) : Sp := fun vs H Q _ => ∃ (x : V) (D : Addr) (B : Nat), vs = [x] ∧ Ad D B H x ∧ B ≤ 1000 ∧ Yn (Scr H x) H Q
def sp_is_right_overA (_ : PySem.W.Frag) : Sp := fun vs H Q _ => ∃ (M : Addr) (bs : List Str) (x : V) (D : Addr) (B : Nat), vs = [.ref M, x] ∧ RwAt H M bs ∧ Ad D B H x ∧ B ≤ 1000 ∧ Yn (Fit H x bs.length) H Q
def sp_refuse_wrongA (K : PySem.W.Frag) : Sp := fun vs H Q E => ∃ (M : Addr) (bs : List Str) (x : V) (D : Addr) (B : Nat), vs = [.ref M, x] ∧ RwAt H M bs ∧ Ad D B H x ∧ B ≤ 1000 ∧ (Fit H x bs.length → ∀ H', Same H H' → Q .non H') ∧ (¬ Fit H x bs.length → ∀ H', Same H H' → E (.ref (He.ga K "NoScript")) none H')
def sp_doneA (K : PySem.W.Frag) : Sp := fun vs H Q E => ∃ (M : Addr) (bs : List Str) (x : V) (D : Addr) (B : Nat), vs = [.ref M, x] ∧ RwAt H M bs ∧ Ad D B H x ∧ B ≤ 1000 ∧
  (∀ a ps, x = .ref a → ScAt H a ps → ScOk ps → (∀ p ∈ ps, p.fits bs.length) → ∀ r H', Same H H' → RwAt H' r (makes bs ps) → Q (.ref r) H') ∧ (¬ Fit H x bs.length → ∀ H', Same H H' → E (.ref (He.ga K "NoScript")) none H')
def sp_priceA (K : PySem.W.Frag) : Sp := fun vs H Q E => ∃ (x : V) (D : Addr) (B : Nat) (t p : Int), vs = [x, .int t, .int p] ∧ Ad D B H x ∧ B ≤ 1000 ∧ 0 ≤ t ∧ t ≤ 10000000 ∧ 0 ≤ p ∧ p ≤ 10000000 ∧
  (∀ a ps, x = .ref a → ScAt H a ps → ScOk ps → ∀ H', Same H H' → Q (.int (cost t p ps)) H') ∧ (¬ Scr H x → ∀ H', Same H H' → E (.ref (He.ga K "NoScript")) none H')
def sp_joinedA (K : PySem.W.Frag) : Sp := fun vs H Q E => ∃ (M : Addr) (bs : List Str) (x y : V) (D : Addr) (B : Nat), vs = [.ref M, x, y] ∧ RwAt H M bs ∧ Ad D B H x ∧ Ad D B H y ∧ B ≤ 1000 ∧
  (∀ a ps, x = .ref a → ScAt H a ps → ScOk ps → (∀ p ∈ ps, p.fits bs.length) → Fit H y (total ps) → ∀ r H', Same H H' → Q (.ref r) H') ∧
  (∀ a ps, x = .ref a → ScAt H a ps → ScOk ps → (∀ p ∈ ps, p.fits bs.length) → ¬ Fit H y (total ps) → ∀ H', Same H H' → E (.ref (He.ga K "NoScript")) none H') ∧
  (¬ Fit H x bs.length → ∀ H', Same H H' → E (.ref (He.ga K "NoScript")) none H')
section
variable {K : PySem.W.Frag} {vs : List V} {H : Hp} {Q : VK} {E : XK}
theorem len_is_intA (h : sp_is_intA K vs H Q E) : vs.length = 1 := by obtain ⟨_, _, _, rfl, _⟩ := h; rfl
theorem len_l_intA (h : sp_l_intA K vs H Q E) : vs.length = 1 := len_is_intA h
theorem len_is_pairA (h : sp_is_pairA K vs H Q E) : vs.length = 1 := by obtain ⟨_, _, rfl, _⟩ := h; rfl
theorem len_is_signA (h : sp_is_signA K vs H Q E) : vs.length = 1 := by obtain ⟨_, rfl, _⟩ := h; rfl
theorem len_is_textA (h : sp_is_textA K vs H Q E) : vs.length = 1 := by obtain ⟨_, _, _, rfl, _⟩ := h; rfl
theorem len_is_rowA (h : sp_is_rowA K vs H Q E) : vs.length = 1 := by obtain ⟨_, _, _, rfl, _⟩ := h; rfl
theorem len_are_putA (h : sp_are_putA K vs H Q E) : vs.length = 1 := by obtain ⟨_, _, _, rfl, _⟩ := h; rfl
theorem len_is_pieceA (h : sp_is_pieceA K vs H Q E) : vs.length = 1 := by obtain ⟨_, _, _, rfl, _⟩ := h; rfl
theorem len_is_scriptA (h : sp_is_scriptA K vs H Q E) : vs.length = 1 := by obtain ⟨_, _, _, rfl, _⟩ := h; rfl
theorem len_is_right_overA (h : sp_is_right_overA K vs H Q E) : vs.length = 2 := by obtain ⟨_, _, _, _, _, rfl, _⟩ := h; rfl
theorem len_refuse_wrongA (h : sp_refuse_wrongA K vs H Q E) : vs.length = 2 := by obtain ⟨_, _, _, _, _, rfl, _⟩ := h; rfl
theorem len_doneA (h : sp_doneA K vs H Q E) : vs.length = 2 := by obtain ⟨_, _, _, _, _, rfl, _⟩ := h; rfl
theorem len_priceA (h : sp_priceA K vs H Q E) : vs.length = 3 := by obtain ⟨_, _, _, _, _, rfl, _⟩ := h; rfl
theorem len_joinedA (h : sp_joinedA K vs H Q E) : vs.length = 3 := by obtain ⟨_, _, _, _, _, _, rfl, _⟩ := h; rfl
end
abbrev N_is_intA : List Str := ["thing"]
def t_is_intA (K : PySem.W.Frag) : TS := (tRet (tAndV (tCB (rIsi K) (tCons (tVar 0) (tCons (tC (.ty "int")) tNil))) (tNotV (tCB (rIsi K) (tCons (tVar 0) (tCons (tC (.ty "bool")) tNil))))))
abbrev N_is_textA : List Str := ["thing", "sign"]
def t_is_textA (K : PySem.W.Frag) : TS := (tRet (tAndV (tCB (rIsi K) (tCons (tVar 0) (tCons (tC (.ty "str")) tNil))) (tCB (rAll K) (tCons (tLc (iStr (tVar 0)) (gName 1) tYes (tCall (sp_is_signA K) [] E0 (tCons (tVar 1) tNil)) [1]) tNil))))
abbrev N_is_signA : List Str := ["sign"]
def t_is_signA (K : PySem.W.Frag) : TS := (tRet (tAndV (tChain rLeS rLeS (tC (.str " ")) (tVar 0) (tC (.str "~"))) (tOp rNe (tCB fOrd (tCons (tVar 0) tNil)) (tC (.int 37)))))
abbrev N_is_pairA : List Str := ["thing"]
def t_is_pairA (K : PySem.W.Frag) : TS := (tRet (tAndV (tCB (rIsi K) (tCons (tVar 0) (tCons (tC (.ty "tuple")) tNil))) (tOp rEq (tCB (fLen K) (tCons (tVar 0) tNil)) (tC (.int 2)))))
abbrev N_is_rowA : List Str := ["thing"]
def t_is_rowA (K : PySem.W.Frag) : TS := (tRet (tAndV (tCall (sp_is_textA K) [] E0 (tCons (tVar 0) tNil)) (tOp rLeI (tCB (fLen K) (tCons (tVar 0) tNil)) (tC (.int 40)))))
abbrev N_is_scriptA : List Str := ["thing", "piece"]
def t_is_scriptA_sum (K : PySem.W.Frag) : TS := (tRet (tOp rLeI (tCB (rSum K) (tCons (tLc (iTup K (tVar 0)) (gName 1) tYes (tCall (sp_rows_in K) [] E0 (tCons (tVar 1) tNil)) [1]) tNil)) (tC (.int 40))))
def t_is_scriptA (K : PySem.W.Frag) : TS := (tSeq (tIfS (tOr (tNot (tB (tCB (rIsi K) (tCons (tVar 0) (tCons (tC (.ty "tuple")) tNil))))) (tNot (tB (tCB (rAll K) (tCons (tLc (iTup K (tVar 0)) (gName 1) tYes (tCall (sp_is_pieceA K) [] E0 (tCons (tVar 1) tNil)) [1]) tNil))))) (tRet (tC (.bl false))) tNext)
    (t_is_scriptA_sum K))
abbrev N_is_pieceA : List Str := ["thing"]
def t_is_pieceA_put (K : PySem.W.Frag) : TS := (tRet (tAndV (tOp (rEqS K) (tOp (rIx K) (tVar 0) (tC (.int 0))) (tC (.str "put"))) (tAndV (tCall (sp_is_pairA K) [] E0 (tCons (tVar 0) tNil)) (tCall (sp_are_putA K) [] E0 (tCons (tOp (rIx K) (tVar 0) (tC (.int 1))) tNil)))))
def t_is_pieceA_word (K : PySem.W.Frag) : TS := (tSeq (tIfS (tTest (tOp (rEqS K) (tOp (rIx K) (tVar 0) (tC (.int 0))) (tC (.str "take")))) (tRet (tAndV (tOp rEq (tCB (fLen K) (tCons (tVar 0) tNil)) (tC (.int 3))) (tAndV (tCall (sp_is_intA K) [] E0 (tCons (tOp (rIx K) (tVar 0) (tC (.int 1))) tNil)) (tAndV (tCall (sp_is_intA K) [] E0 (tCons (tOp (rIx K) (tVar 0) (tC (.int 2))) tNil)) (tAndV (tOp rGeI (tOp (rIx K) (tVar 0) (tC (.int 1))) (tC (.int 0))) (tOp rGeI (tOp (rIx K) (tVar 0) (tC (.int 2))) (tC (.int 1)))))))) tNext)
    (t_is_pieceA_put K))
def t_is_pieceA (K : PySem.W.Frag) : TS := (tSeq (tIfS (tOr (tNot (tB (tCB (rIsi K) (tCons (tVar 0) (tCons (tC (.ty "tuple")) tNil))))) (tTest (tOp rEq (tCB (fLen K) (tCons (tVar 0) tNil)) (tC (.int 0))))) (tRet (tC (.bl false))) tNext)
    (t_is_pieceA_word K))
abbrev N_are_putA : List Str := ["thing", "row"]
def t_are_putA (K : PySem.W.Frag) : TS := (tRet (tAndV (tCB (rIsi K) (tCons (tVar 0) (tCons (tC (.ty "tuple")) tNil))) (tAndV (tOp rGtI (tCB (fLen K) (tCons (tVar 0) tNil)) (tC (.int 0))) (tCB (rAll K) (tCons (tLc (iTup K (tVar 0)) (gName 1) tYes (tCall (sp_is_rowA K) [] E0 (tCons (tVar 1) tNil)) [1]) tNil)))))
abbrev N_is_right_overA : List Str := ["base", "thing", "piece"]
def t_is_right_overA (K : PySem.W.Frag) : TS := (tSeq (tIfS (tNot (tB (tCall (sp_is_scriptA K) [] E0 (tCons (tVar 1) tNil)))) (tRet (tC (.bl false))) tNext)
    (tRet (tCB (rAll K) (tCons (tLc (iTup K (tVar 1)) (gName 2) tYes (tOrV (tOp rEq (tOp (rIx K) (tVar 2) (tC (.int 0))) (tC (.str "put"))) (tOp rLeI (tOp rAddI (tOp (rIx K) (tVar 2) (tC (.int 1))) (tOp (rIx K) (tVar 2) (tC (.int 2)))) (tCB (fLen K) (tCons (tVar 0) tNil)))) [2]) tNil))))
abbrev N_refuse_wrongA : List Str := ["base", "thing"]
def t_refuse_wrongA (K : PySem.W.Frag) (E : XK) : TS := (tIfS (tNot (tB (tCall (sp_is_right_overA K) [] E0 (tCons (tVar 0) (tCons (tVar 1) tNil))))) (tRaise E (.ref (He.ga K "NoScript"))) tNext)
abbrev N_doneA : List Str := ["base", "script"]
def t_doneA (K : PySem.W.Frag) (E : XK) : TS := (tSeq (tDrop (tCallS (sp_refuse_wrongA K) (fun _ => E) (tCons (tVar 0) (tCons (tVar 1) tNil))))
    (tRet (tCall (sp_made K) [] E0 (tCons (tVar 0) (tCons (tVar 1) tNil)))))
abbrev N_priceA : List Str := ["script", "take", "put", "piece"]
def t_priceA (K : PySem.W.Frag) (E : XK) : TS := (tSeq (tIfS (tNot (tB (tCall (sp_is_scriptA K) [] E0 (tCons (tVar 0) tNil)))) (tRaise E (.ref (He.ga K "NoScript"))) tNext)
    (tRet (tCB (rSum K) (tCons (tLc (iTup K (tVar 0)) (gName 3) tYes (tIf (tTest (tOp rEq (tOp (rIx K) (tVar 3) (tC (.int 0))) (tC (.str "put")))) (tOp rMulI (tVar 2) (tCall (sp_rows_in K) [] E0 (tCons (tVar 3) tNil))) (tVar 1)) [3]) tNil))))
abbrev N_joinedA : List Str := ["base", "one", "other", "pieces", "piece"]
def t_joinedA (K : PySem.W.Frag) (E : XK) : TS := (tSeq (tDrop (tCallS (sp_refuse_wrongA K) (fun _ => E) (tCons (tVar 0) (tCons (tVar 1) tNil))))
    (tSeq (tDrop (tCallS (sp_refuse_wrongA K) (fun _ => E) (tCons (tCall (sp_made K) [] E0 (tCons (tVar 0) (tCons (tVar 1) tNil))) (tCons (tVar 2) tNil))))
    (tSeq (tAsg (tLst tNil) (gName 3))
    (tSeq (tFor (iTup K (tVar 2)) (gName 4) (tIfS (tTest (tOp rEq (tOp (rIx K) (tVar 4) (tC (.int 0))) (tC (.str "put")))) (tDrop (tBM K "list" rAppend (tVar 3) (tCons (tVar 4) tNil))) (tDrop (tBM K "list" (rExtendA K) (tVar 3) (tCons (tCall (sp_part_of K) [] E0 (tCons (tVar 1) (tCons (tOp (rIx K) (tVar 4) (tC (.int 1))) (tCons (tOp rAddI (tOp (rIx K) (tVar 4) (tC (.int 1))) (tOp (rIx K) (tVar 4) (tC (.int 2)))) tNil)))) tNil)))))
    (tRet (tCB (fTupleOf K) (tCons (tVar 3) tNil)))))))
theorem le_blank (c : Nat) : (!decide ((⟨#[c]⟩ : Str).cps.toList < (" " : Str).cps.toList)) = decide (32 ≤ c) := by
  by_cases h : 32 ≤ c
  · rw [blank_le h, decide_eq_true h]
  · have e : (" " : Str).cps.toList = [32] := by decide +kernel
    rw [e, decide_eq_false h]
    show (!decide ([c] < [32])) = false
    rw [decide_eq_true (List.cons_lt_cons_iff.mpr (.inl (by omega)))]
    rfl
theorem le_til (c : Nat) : (!decide (("~" : Str).cps.toList < (⟨#[c]⟩ : Str).cps.toList)) = decide (c ≤ 126) := by
  by_cases h : c ≤ 126
  · rw [le_tilde h, decide_eq_true h]
  · have e : ("~" : Str).cps.toList = [126] := by decide +kernel
    rw [e, decide_eq_false h]
    show (!decide ([126] < [c])) = false
    rw [decide_eq_true (List.cons_lt_cons_iff.mpr (.inl (by omega)))]
    rfl
section
variable {K : PySem.W.Frag} {vs : List V} {H : Hp} {Q : VK} {E : XK}
theorem pure_is_intA (h : sp_is_intA K vs H Q E) : t_is_intA K { nx := fun _ H' => Q .non H', rt := Q } (start N_is_intA vs) H := by
  obtain ⟨x, D, B, rfl, a, y⟩ := h
  rcases a.intC K with ⟨i, rfl⟩ | ⟨b, rfl⟩ | ⟨⟨ty, t1, t2⟩, hn⟩
  · exact ⟨_, rfl, isi (.base (.int i)) k_ii ⟨_, rfl, iteT ⟨_, rfl, isi (.base (.int i)) k_ib ⟨_, rfl, y.1 ⟨i, rfl⟩⟩⟩⟩⟩
  · exact ⟨_, rfl, isi (.base (.bl b)) k_bi ⟨_, rfl, iteT ⟨_, rfl, isi (.base (.bl b)) k_bb ⟨_, rfl, y.2 (by rintro ⟨i, e⟩; cases e)⟩⟩⟩⟩
  · exact ⟨_, rfl, isi t1 t2 ⟨_, rfl, iteF (y.2 (by rintro ⟨i, e⟩; exact hn i e))⟩⟩
theorem pure_l_intA (h : sp_l_intA K vs H Q E) : t_l_int K { nx := fun _ H' => Q .non H', rt := Q } (start N_l_int vs) H := pure_is_intA h
theorem int_weak {i : Int} (q : Q (.bl true) H) : sp_l_intA K [.int i] H Q E := ⟨.int i, 0, 0, rfl, .int i, fun _ => q, fun n => absurd ⟨i, rfl⟩ n⟩
theorem pure_is_pairA (h : sp_is_pairA K vs H Q E) : t_is_pairA K { nx := fun _ H' => Q .non H', rt := Q } (start N_is_pairA vs) H := by
  obtain ⟨a, xs, rfl, ha, y⟩ := h
  refine ⟨_, rfl, isi (.base (.tup ha)) k_tt ⟨_, rfl, iteT ⟨_, rfl, lenT ha ⟨rfl, y.dec ⟨fun e => ?_, fun e => ?_⟩⟩⟩⟩⟩
  · injection e with e
    omega
  · rw [e]
    rfl
theorem pure_is_signA (h : sp_is_signA K vs H Q E) : t_is_signA K { nx := fun _ H' => Q .non H', rt := Q } (start N_is_signA vs) H := by
  obtain ⟨c, rfl, y⟩ := h
  refine ⟨_, rfl, _, _, rfl, rfl, _, rfl, ?_⟩
  rw [le_blank c]
  by_cases h1 : 32 ≤ c
  · rw [decide_eq_true h1]
    refine iteT ⟨_, _, rfl, rfl, _, rfl, ?_⟩
    rw [le_til c]
    by_cases h2 : c ≤ 126
    · rw [decide_eq_true h2]
      refine iteT ⟨_, rfl, _, rfl, rfl, rfl, ?_⟩
      by_cases h3 : c = 37
      · subst h3
        exact y.no fun o => o.2.2 rfl
      · have e : decide (V.int (((⟨#[c]⟩ : Str).cps.getD 0 0 : Nat) : Int) = V.int 37) = false := decide_eq_false (by
          intro h
          injection h with h
          have h : (c : Int) = 37 := h
          omega)
        rw [e]
        exact y.yes ⟨h1, h2, h3⟩
    · rw [decide_eq_false h2]
      exact iteF (y.no fun o => h2 o.2.1)
  · rw [decide_eq_false h1]
    exact iteF ⟨_, rfl, iteF (y.no fun o => h1 o.1)⟩
theorem pure_is_textA (h : sp_is_textA K vs H Q E) : t_is_textA K { nx := fun _ H' => Q .non H', rt := Q } (start N_is_textA vs) H := by
  obtain ⟨x, D, B, rfl, a, hB, y⟩ := h
  rcases a.strC K with ⟨z, rfl, tz⟩ | ⟨⟨ty, t1, t2⟩, hn⟩
  · have l1 := tz.1
    refine ⟨_, rfl, isi (.base (.str z)) k_ss ⟨_, rfl, iteT ⟨_, rfl, z, rfl, fun L nL => ?_⟩⟩⟩
    refine lc_grow walk_str yStr (ys := z.cps.toList.map fun c => V.bl (dc (OkC c))) nL (by rw [List.length_map, Array.length_toList]) (by omega) (fun _ _ => True.intro) ?_ ?_
    · rintro i x y' H' R hi ⟨_, c, hc, rfl⟩ hy s r
      rw [List.getElem?_map, Array.getElem?_toList, hc] at hy
      cases Option.some.inj hy
      exact ⟨rfl, ⟨_, rfl, c, rfl, Yn.of fun H'' s2 => r _ s2⟩⟩
    · intro H' s hL
      refine ⟨L, z.cps.toList.map fun c => dc (OkC c), rfl, sqL (by rw [hL, List.map_map]; rfl), ?_⟩
      rw [dc_all, dc_congr (show (∀ c ∈ z.cps.toList, OkC c) ↔ ∃ w, V.str z = .str w ∧ ∀ c ∈ w.cps.toList, OkC c from ⟨fun k => ⟨z, rfl, k⟩, by rintro ⟨w, e, k⟩; injection e with e; subst e; exact k⟩)]
      exact y.run s
  · exact ⟨_, rfl, isi t1 t2 ⟨_, rfl, iteF (y.no (by rintro ⟨z, e, _⟩; exact hn z e))⟩⟩
theorem pure_is_rowA (h : sp_is_rowA K vs H Q E) : t_is_rowA K { nx := fun _ H' => Q .non H', rt := Q } (start N_is_rowA vs) H := by
  obtain ⟨x, D, B, rfl, a, hB, y⟩ := h
  refine ⟨_, rfl, x, D, B, rfl, a, hB, fun p H' s => ?_, fun p H' s => ⟨_, rfl, iteF (y.2 ?_ _ s)⟩⟩
  · obtain ⟨z, rfl, oc⟩ := p
    have l1 : z.cps.size ≤ B := by
      cases a with
      | str h => exact h.1
    refine ⟨_, rfl, iteT ⟨_, rfl, lenS (show z.cps.size ≤ 1000 by omega) ⟨_, _, rfl, rfl, ?_⟩⟩⟩
    have e : ((z.length : Nat) : Int) ≤ 40 ↔ Row (.str z) := by
      constructor
      · intro k
        have k : ((z.cps.size : Nat) : Int) ≤ 40 := k
        exact ⟨z, rfl, by omega, oc⟩
      · rintro ⟨w, e, o⟩
        injection e with e
        subst e
        have := o.1
        show ((z.cps.size : Nat) : Int) ≤ 40
        omega
    show Q (.bl (decide (((z.length : Nat) : Int) ≤ 40))) H'
    rw [dc_dec, dc_congr e]
    exact y.run s
  · rintro ⟨z, e, o⟩
    exact p ⟨z, e, o.2⟩
theorem pure_are_putA (h : sp_are_putA K vs H Q E) : t_are_putA K { nx := fun _ H' => Q .non H', rt := Q } (start N_are_putA vs) H := by
  obtain ⟨x, D, B, rfl, a, hB, y⟩ := h
  rcases a.tupC K with ⟨p, xs, rfl, n, hp, hz, ha⟩ | ⟨⟨ty, t1, t2⟩, hn⟩
  · refine ⟨_, rfl, isi (.base (.tup hp)) k_tt ⟨_, rfl, iteT ⟨_, rfl, lenT hp ⟨_, _, rfl, rfl, _, rfl, ?_⟩⟩⟩⟩
    by_cases h0 : (0 : Int) < (xs.length : Int)
    · rw [decide_eq_true h0]
      refine iteT ⟨_, rfl, p, rfl, ⟨_, sqT hp⟩, fun L nL => ?_⟩
      refine lc_grow (walk_tup (xs := xs)) yAt (ys := xs.map fun x => V.bl (dc (Row x))) nL (by rw [List.length_map]) (by omega) (fun H' s => sqT (s _ _ hp)) ?_ ?_
      · rintro i x y' H' R hi ⟨_, hx⟩ hy s r
        rw [List.getElem?_map, hx] at hy
        cases Option.some.inj hy
        exact ⟨rfl, ⟨_, rfl, x, D, B, rfl, (ha x (List.mem_of_getElem? hx)).same s, hB, Yn.of fun H'' s2 => r _ s2⟩⟩
      · intro H' s hL
        refine ⟨L, xs.map fun x => dc (Row x), rfl, sqL (by rw [hL, List.map_map]; rfl), ?_⟩
        rw [dc_all, ← dc_congr (put_iff hp (by omega))]
        exact y.run s
    · rw [decide_eq_false h0]
      refine iteF (y.no ?_)
      rintro ⟨q, rs, e, hr, hne, _⟩
      injection e with e
      subst e
      rw [tup_inj hp hr, List.length_map] at h0
      have := List.length_pos_iff.mpr hne
      omega
  · refine ⟨_, rfl, isi t1 t2 ⟨_, rfl, iteF (y.no ?_)⟩⟩
    rintro ⟨q, rs, e, hr, _, _⟩
    exact hn q _ e hr
theorem is_piece_put {a : Addr} {x0 : V} {r : List V} {D : Addr} {B : Nat} (ha : H a = some (.tup (x0 :: r))) (hB : B ≤ 1000) (hx : ∀ y ∈ x0 :: r, Ad D B H y) (ht : x0 ≠ .str "take") (y : Yn (Pie H (.ref a)) H Q) : t_is_pieceA_put K { nx := fun _ H' => Q .non H', rt := Q } [some (.ref a)] H := by
  have noP : (∀ q rs, x0 = .str "put" → r = [.ref q] → ¬ (RwAt H q rs ∧ rs ≠ [] ∧ ∀ z ∈ rs, OkS z)) → ¬ Pie H (.ref a) := by
    rintro k ⟨b, p, e, hp, ok⟩
    injection e with e
    subst e
    cases p with
    | take b m =>
      have e := tup_inj ha hp
      injection e with e _
      exact ht e
    | put rs =>
      obtain ⟨q, h3, h4⟩ := hp
      have e := tup_inj ha h3
      injection e with e1 e2
      exact k q rs e1 e2 ⟨h4, ok.1, ok.2⟩
  refine ⟨_, rfl, ixT ha at0 ((hx x0 List.mem_cons_self).eqS (fun e => ?_) fun e => ?_)⟩
  · refine ⟨_, rfl, iteT ⟨_, rfl, a, _, rfl, ha, fun l2 H1 s1 => ?_, fun l2 H1 s1 => ?_⟩⟩
    · match r, l2 with
      | [d], _ =>
        refine ⟨_, rfl, iteT ⟨_, rfl, ixT (s1 _ _ ha) rfl ⟨d, D, B, rfl, (hx d (List.mem_cons_of_mem _ List.mem_cons_self)).same s1, hB, fun p H2 s2 => ?_, fun p H2 s2 => ?_⟩⟩⟩
        · obtain ⟨q, rs, e2, hr, hne, ok⟩ := p
          refine y.1 ⟨a, .put rs, rfl, ⟨q, ?_, ?_⟩, hne, ok⟩ _ (s1.trans s2)
          · rw [ha, e, e2]
          · -- the rows stood there before
            have aq := hx d (List.mem_cons_of_mem _ List.mem_cons_self)
            rw [e2] at aq
            rcases aq.tupC K with ⟨q2, xs, e3, _, hq, _, _⟩ | ⟨_, hn⟩
            · injection e3 with e3
              subst e3
              have := tup_inj (s1 _ _ hq) hr
              show H q = _
              rw [hq, this]
            · cases aq with
              | tup n h => exact absurd h (hn _ _ rfl)
              | lst n h =>
                have h1 := s1 _ _ h
                rw [show H1 q = some (.tup (rs.map V.str)) from hr] at h1
                cases h1
              | dct n h =>
                have h1 := s1 _ _ h
                rw [show H1 q = some (.tup (rs.map V.str)) from hr] at h1
                cases h1
        · refine y.2 (noP fun q rs _ e2 k => ?_) _ (s1.trans s2)
          injection e2 with e2
          exact p ⟨q, rs, e2, s1 _ _ k.1, k.2.1, k.2.2⟩
    · refine ⟨_, rfl, iteF (y.2 (noP fun q rs _ e2 => ?_) _ s1)⟩
      rw [e2] at l2
      exact absurd rfl l2
  · exact ⟨_, rfl, iteF (y.no (noP fun q rs e2 => absurd e2 e))⟩
theorem pure_is_pieceA (h : sp_is_pieceA K vs H Q E) : t_is_pieceA K { nx := fun _ H' => Q .non H', rt := Q } (start N_is_pieceA vs) H := by
  obtain ⟨x, D, B, rfl, a, hB, y⟩ := h
  rcases a.tupC K with ⟨p, xs, rfl, n, hp, hz, ha⟩ | ⟨⟨ty, t1, t2⟩, hn⟩
  · refine ⟨_, rfl, isi (.base (.tup hp)) k_tt ⟨_, rfl, iteF ⟨_, rfl, lenT hp ⟨rfl, _, rfl, ?_⟩⟩⟩⟩
    cases xs with
    | nil =>
      refine iteT (y.no ?_)
      rintro ⟨b, q, e, hq, ok⟩
      injection e with e
      subst e
      cases q with
      | take b m => have e := tup_inj hp hq; cases e
      | put rs => obtain ⟨q, h3, h4⟩ := hq; have e := tup_inj hp h3; cases e
    | cons x0 r =>
      rw [decide_eq_false (show ¬ V.int (((x0 :: r).length : Nat) : Int) = V.int 0 by intro e; injection e with e; rw [List.length_cons] at e; omega)]
      refine iteF ?_
      refine ⟨_, rfl, ixT hp at0 ((ha x0 List.mem_cons_self).eqS (fun e => ?_) fun e => ?_)⟩
      · subst e
        have noT : (∀ i j, r = [.int i, .int j] → ¬ (0 ≤ i ∧ 1 ≤ j)) → ¬ Pie H (.ref p) := by
          rintro k ⟨b, q, e, hq, ok⟩
          injection e with e
          subst e
          cases q with
          | take b m =>
            have e := tup_inj hp hq
            injection e with _ e
            have ok : 1 ≤ m := ok
            exact k _ _ e ⟨by omega, by omega⟩
          | put rs =>
            obtain ⟨q, h3, h4⟩ := hq
            have e := tup_inj hp h3
            injection e with e _
            injection e with e
            exact take_ne e
        refine ⟨_, rfl, iteT ⟨_, rfl, lenT hp ⟨rfl, _, rfl, ?_⟩⟩⟩
        by_cases l3 : (V.str "take" :: r).length = 3
        · rw [decide_eq_true (show V.int (((V.str "take" :: r).length : Nat) : Int) = V.int 3 by rw [l3]; rfl)]
          match r, l3 with
          | [u, v], _ =>
            refine iteT ⟨_, rfl, ixT hp rfl ⟨u, D, B, rfl, ha u (by simp), Yn.x ⟨fun q H1 s1 => ?_, fun q H1 s1 => ?_⟩⟩⟩
            · obtain ⟨i, rfl⟩ := q
              refine ⟨_, rfl, iteT ⟨_, rfl, ixT (s1 _ _ hp) rfl ⟨v, D, B, rfl, (ha v (by simp)).same s1, Yn.x ⟨fun q H2 s2 => ?_, fun q H2 s2 => ?_⟩⟩⟩⟩
              · obtain ⟨j, rfl⟩ := q
                have s12 := s1.trans s2
                refine ⟨_, rfl, iteT ⟨_, rfl, ixT (s12 _ _ hp) rfl ⟨_, _, rfl, rfl, _, rfl, ?_⟩⟩⟩
                by_cases i0 : 0 ≤ i
                · rw [decide_eq_true i0]
                  refine iteT ⟨_, rfl, ixT (s12 _ _ hp) rfl ⟨_, _, rfl, rfl, ?_⟩⟩
                  show Q (.bl (decide ((1 : Int) ≤ j))) H2
                  rw [dc_dec]
                  rw [dc_congr (show (1 : Int) ≤ j ↔ Pie H (.ref p) from ⟨fun j1 => ?_, fun k => ?_⟩)]
                  · exact y.run s12
                  · obtain ⟨b, rfl⟩ := Int.eq_ofNat_of_zero_le i0
                    obtain ⟨m, rfl⟩ := Int.eq_ofNat_of_zero_le (show (0 : Int) ≤ j by omega)
                    exact ⟨p, .take b m, rfl, hp, show 1 ≤ m by omega⟩
                  · by_cases j1 : 1 ≤ j
                    · exact j1
                    · exact absurd k (noT fun i' j' e => by
                        injection e with _ e
                        injection e with e _
                        injection e with e
                        omega)
                · rw [decide_eq_false i0]
                  refine iteF (y.2 (noT fun i' j' e => ?_) _ s12)
                  injection e with e _
                  injection e with e
                  omega
              · refine ⟨_, rfl, iteF (y.2 (noT fun i' j' e => ?_) _ (s1.trans s2))⟩
                injection e with _ e
                injection e with e _
                exact absurd ⟨j', e⟩ q
            · refine ⟨_, rfl, iteF (y.2 (noT fun i' j' e => ?_) _ s1)⟩
              injection e with e _
              exact absurd ⟨i', e⟩ q
        · rw [decide_eq_false (show ¬ V.int (((V.str "take" :: r).length : Nat) : Int) = V.int 3 by intro e; injection e with e; omega)]
          refine iteF (y.no (noT fun i j e => ?_))
          rw [e] at l3
          exact absurd rfl l3
      · exact ⟨_, rfl, iteF (is_piece_put hp hB ha e y)⟩
  · refine ⟨_, rfl, isi t1 t2 ⟨_, rfl, iteT (iteT (y.no ?_))⟩⟩
    rintro ⟨b, q, e, hq, ok⟩
    cases q with
    | take b m => exact hn _ _ e hq
    | put rs => obtain ⟨q, h3, h4⟩ := hq; exact hn _ _ e h3
end
end Fw

set_option Elab.async false
set_option linter.all false
set_option maxRecDepth 100000
set_option maxHeartbeats 4000000
namespace Fw
open PySem L2 RZ RT
theorem sum_n : ∀ ps : List Pc, (ps.map fun p => (p.n : Int)).sum = ((total ps : Nat) : Int)
  | [] => rfl
  | p :: ps => by
    rw [List.map_cons, List.sum_cons, sum_n ps]
    show _ = ((p.n + total ps : Nat) : Int)
    omega
theorem scr_iff {H : Hp} {a : Addr} {ps : List Pc} (sc : ScAt H a ps) (ok : ∀ p ∈ ps, p.ok) : Scr H (.ref a) ↔ ((total ps : Nat) : Int) ≤ 40 := by
  constructor
  · rintro ⟨b, qs, e, sq, oq⟩
    injection e with e
    subst e
    rw [ScAt.inj sc sq]
    have := oq.few
    omega
  · intro h
    exact ⟨a, ps, rfl, sc, ok, by omega⟩
theorem fit_iff {H : Hp} {a : Addr} {ps : List Pc} {L : Nat} (sc : ScAt H a ps) (ok : ScOk ps) : Fit H (.ref a) L ↔ ∀ p ∈ ps, p.fits L := by
  constructor
  · rintro ⟨b, qs, e, sq, _, f⟩
    injection e with e
    subst e
    rw [ScAt.inj sc sq]
    exact f
  · intro h
    exact ⟨a, ps, rfl, sc, ok, h⟩
section
variable {K : PySem.W.Frag} {vs : List V} {H : Hp} {Q : VK} {E : XK}
theorem pure_is_scriptA (h : sp_is_scriptA K vs H Q E) : t_is_scriptA K { nx := fun _ H' => Q .non H', rt := Q } (start N_is_scriptA vs) H := by
  obtain ⟨x, D, B, rfl, a, hB, y⟩ := h
  rcases a.tupC K with ⟨p, xs, rfl, n, hp, hz, ha⟩ | ⟨⟨ty, t1, t2⟩, hn⟩
  · refine ⟨_, rfl, isi (.base (.tup hp)) k_tt ⟨_, rfl, iteF ⟨_, rfl, p, rfl, ⟨_, sqT hp⟩, fun L nL => ?_⟩⟩⟩
    refine lc_grow (walk_tup (xs := xs)) yAt (ys := xs.map fun x => V.bl (dc (Pie H x))) nL (by rw [List.length_map]) (by omega) (fun H' s => sqT (s _ _ hp)) ?_ ?_
    · rintro i x y' H' R hi ⟨_, hx⟩ hy s r
      rw [List.getElem?_map, hx] at hy
      cases Option.some.inj hy
      have ax := ha x (List.mem_of_getElem? hx)
      refine ⟨rfl, ⟨_, rfl, x, D, B, rfl, ax.same s, hB, Yn.of fun H'' s2 => ?_⟩⟩
      rw [dc_congr (pie_same ax s)]
      exact r _ s2
    · intro H1 s1 hL
      refine ⟨L, xs.map fun x => dc (Pie H x), rfl, sqL (by rw [hL, List.map_map]; rfl), ?_⟩
      rw [dc_all]
      by_cases k : ∀ x ∈ xs, Pie H x
      · rw [dcT k]
        obtain ⟨as, ps, rfl, hps, ok⟩ := pies k
        have hps1 := hps.mono (.of s1)
        have hl : (as.map V.ref).length = ps.length := by rw [List.length_map, hps.1]
        refine ⟨_, rfl, iteF ⟨_, rfl, p, rfl, ⟨_, sqT (s1 _ _ hp)⟩, fun L2 nL2 => ?_⟩⟩
        refine lc_grow (walk_tup (xs := as.map V.ref)) yAt (ys := (ps.map fun p => (p.n : Int)).map V.int) nL2 (by rw [List.length_map, List.length_map, hl]) (by omega) (fun H' s => sqT (s _ _ (s1 _ _ hp))) ?_ ?_
        · rintro i x y' H' R hi ⟨_, hx⟩ hy s r
          obtain ⟨b, q, rfl, h1, h2, h3⟩ := sc_get (hps1.mono (.of s)) hx
          rw [List.getElem?_map, List.getElem?_map, h2] at hy
          cases Option.some.inj hy
          exact ⟨rfl, ⟨_, rfl, b, q, rfl, h3, r _ (Same.refl _)⟩⟩
        · intro H2 s2 hL2
          refine ⟨L2, _, rfl, sqL hL2, _, _, rfl, rfl, ?_⟩
          rw [sum_n]
          show Q (.bl (decide (((total ps : Nat) : Int) ≤ 40))) H2
          rw [dc_dec, ← dc_congr (scr_iff ⟨as, hp, hps⟩ ok)]
          exact y.run (s1.trans s2)
      · rw [dcF k]
        exact ⟨_, rfl, iteT (y.2 (fun sc => k (scr_pies hp sc)) _ s1)⟩
  · refine ⟨_, rfl, isi t1 t2 ⟨_, rfl, iteT (iteT (y.no ?_))⟩⟩
    rintro ⟨b, ps, e, ⟨as, hq, _⟩, _⟩
    exact hn _ _ e hq
theorem pure_is_right_overA (h : sp_is_right_overA K vs H Q E) : t_is_right_overA K { nx := fun _ H' => Q .non H', rt := Q } (start N_is_right_overA vs) H := by
  obtain ⟨M, bs, x, D, B, rfl, hM, a, hB, y⟩ := h
  refine ⟨_, rfl, x, D, B, rfl, a, hB, fun p H1 s1 => ?_, fun p H1 s1 => ?_⟩
  · obtain ⟨c, ps, rfl, sc, ok⟩ := p
    have sc1 := sc.mono (.of s1)
    obtain ⟨as, ha, hp⟩ := sc1
    have hM1 : H1 M = some (.tup (bs.map V.str)) := s1 _ _ hM
    have hl : (as.map V.ref).length = ps.length := by rw [List.length_map, hp.1]
    have hz := ok.len
    refine ⟨_, rfl, iteF ⟨_, rfl, c, rfl, ⟨_, sqT ha⟩, fun L nL => ?_⟩⟩
    refine lc_grow (walk_tup (xs := as.map V.ref)) yAt (ys := ps.map fun p => V.bl (dc (p.fits bs.length))) nL (by rw [List.length_map, hl]) (by omega) (fun H' s => sqT (s _ _ ha)) ?_ ?_
    · rintro i x y' H' R hi ⟨_, hx⟩ hy s r
      obtain ⟨b, p, rfl, h1, h2, h3⟩ := sc_get (hp.mono (.of s)) hx
      rw [List.getElem?_map, h2] at hy
      cases Option.some.inj hy
      refine ⟨rfl, ?_⟩
      cases p with
      | take c m =>
        refine ⟨_, rfl, ixT h3 rfl ⟨rfl, _, rfl, ?_⟩⟩
        rw [take_put]
        refine iteF ⟨_, rfl, ixT h3 rfl ⟨_, rfl, ixT h3 rfl ⟨_, _, rfl, rfl, _, rfl, lenT (s _ _ hM1) ⟨_, _, rfl, rfl, ?_⟩⟩⟩⟩
        show R (.bl (decide ((c : Int) + (m : Int) ≤ ((bs.map V.str).length : Int)))) _
        rw [dc_dec, dc_congr (show (c : Int) + (m : Int) ≤ ((bs.map V.str).length : Int) ↔ (Pc.take c m).fits bs.length from ⟨fun k => ?_, fun k => ?_⟩)]
        · exact r _ (Same.refl _)
        · rw [List.length_map] at k
          show c + m ≤ bs.length
          omega
        · rw [List.length_map]
          have k : c + m ≤ bs.length := k
          omega
      | put rs =>
        obtain ⟨q, h4, h5⟩ := h3
        refine ⟨_, rfl, ixT h4 rfl ⟨rfl, _, rfl, ?_⟩⟩
        rw [decide_eq_true rfl]
        have e : R (.bl (dc ((Pc.put rs).fits bs.length))) H' := r _ (Same.refl _)
        rw [dcT (show (Pc.put rs).fits bs.length from True.intro)] at e
        exact iteT e
    · intro H2 s2 hL
      refine ⟨L, ps.map fun p => dc (p.fits bs.length), rfl, sqL (by rw [hL, List.map_map]; rfl), ?_⟩
      rw [dc_all, ← dc_congr (fit_iff sc ok)]
      exact y.run (s1.trans s2)
  · exact ⟨_, rfl, iteT (y.2 (fun f => p f.scr) _ s1)⟩
theorem pure_refuse_wrongA (h : sp_refuse_wrongA K vs H Q E) : t_refuse_wrongA K E { nx := fun _ H' => Q .non H', rt := Q } (start N_refuse_wrongA vs) H := by
  obtain ⟨M, bs, x, D, B, rfl, hM, a, hB, ky, kn⟩ := h
  exact ⟨_, rfl, _, rfl, M, bs, x, D, B, rfl, hM, a, hB, fun p H1 s1 => ⟨_, rfl, iteF (ky p _ s1)⟩, fun p H1 s1 => ⟨_, rfl, iteT (kn p _ s1)⟩⟩
theorem pure_doneA (h : sp_doneA K vs H Q E) : t_doneA K E { nx := fun _ H' => Q .non H', rt := Q } (start N_doneA vs) H := by
  obtain ⟨M, bs, x, D, B, rfl, hM, a, hB, ky, kn⟩ := h
  refine ⟨_, rfl, _, rfl, M, bs, x, D, B, rfl, hM, a, hB, fun p H1 s1 => ?_, kn⟩
  obtain ⟨c, ps, rfl, sc, ok, fit⟩ := p
  exact ⟨_, rfl, _, rfl, M, c, bs, ps, rfl, s1 _ _ hM, sc.mono (.of s1), ok, fit, fun r H2 s2 hr => ky c ps rfl sc ok fit r H2 (s1.trans s2) hr⟩
theorem pure_priceA (h : sp_priceA K vs H Q E) : t_priceA K E { nx := fun _ H' => Q .non H', rt := Q } (start N_priceA vs) H := by
  obtain ⟨x, D, B, t, p, rfl, a, hB, t0, t1, p0, p1, ky, kn⟩ := h
  refine ⟨_, rfl, x, D, B, rfl, a, hB, fun q H1 s1 => ⟨_, rfl, iteF ?_⟩, fun q H1 s1 => ⟨_, rfl, iteT (kn q _ s1)⟩⟩
  obtain ⟨c, ps, rfl, sc, ok⟩ := q
  obtain ⟨as, ha, hp⟩ := sc.mono (.of s1)
  have hl : (as.map V.ref).length = ps.length := by rw [List.length_map, hp.1]
  have hz := ok.len
  refine ⟨_, rfl, c, rfl, ⟨_, sqT ha⟩, fun L nL => ?_⟩
  refine lc_grow (walk_tup (xs := as.map V.ref)) yAt (ys := (ps.map (Pc.cost t p)).map V.int) nL (by rw [List.length_map, List.length_map, hl]) (by omega) (fun H' s => sqT (s _ _ ha)) ?_ ?_
  · rintro i x y H' R hi ⟨_, hx⟩ hy s r
    obtain ⟨b, q, rfl, h1, h2, h3⟩ := sc_get (hp.mono (.of s)) hx
    rw [List.getElem?_map, List.getElem?_map, h2] at hy
    cases Option.some.inj hy
    refine ⟨rfl, ?_⟩
    cases q with
    | take c m =>
      refine ⟨_, rfl, ixT h3 rfl ⟨rfl, _, rfl, ?_⟩⟩
      rw [take_put]
      exact iteF ⟨_, rfl, r _ (Same.refl _)⟩
    | put rs =>
      have h30 := h3
      obtain ⟨q, h4, h5⟩ := h3
      refine ⟨_, rfl, ixT h4 rfl ⟨rfl, _, rfl, ?_⟩⟩
      rw [decide_eq_true rfl]
      exact iteT ⟨_, rfl, _, rfl, b, .put rs, rfl, h30, _, _, rfl, rfl, .inl ⟨by omega, by omega⟩, r _ (Same.refl _)⟩
  · intro H2 s2 hL
    exact ⟨L, _, rfl, sqL hL, ky c ps rfl sc ok _ (s1.trans s2)⟩
theorem pure_joinedA (h : sp_joinedA K vs H Q E) : t_joinedA K E { nx := fun _ H' => Q .non H', rt := Q } (start N_joinedA vs) H := by
  obtain ⟨M0, bs, x, y, D, B, rfl, hB, ax, ay, hz, ky, km, kn⟩ := h
  refine ⟨_, rfl, _, rfl, M0, bs, x, D, B, rfl, hB, ax, hz, fun p H1 g1 => ?_, kn⟩
  obtain ⟨s1, one, rfl, sc1, ok1, fit1⟩ := p
  have lm := makes_len fit1
  refine ⟨_, rfl, _, rfl, M0, s1, bs, one, rfl, g1 _ _ hB, sc1.mono (.of g1), ok1, fit1, fun M H2 g2 hM => ⟨_, rfl, M, makes bs one, y, D, B, rfl, hM, ay.same (g1.trans g2), hz, fun p H3 g3 => ?_, fun p H3 g3 => ?_⟩⟩
  · rw [lm] at p
    have g0 := g1.trans g2
    have p0 : Fit H y (total one) := fit_back ay g0 p
    obtain ⟨s2, other, rfl, sc2, ok2, fit2⟩ := id p0
    have k := ky s1 one rfl sc1 ok1 fit1 p0
    have g : Same H H3 := g0.trans g3
    have c1 := sc1.mono (.of g)
    obtain ⟨as, ha, hp⟩ := sc2.mono (.of g)
    clear g1 g2 g3 hM sc1 sc2 p p0 g0 ky km kn
    refine ⟨Nat.zero_le _, fun L nL => ⟨_, rfl, s2, rfl, ⟨_, sqT (updN (ne_of_none ha nL) ha)⟩, ?_⟩⟩
    refine for_tup (K := K) (a := s2) (xs := as.map V.ref) (fun i σ H' => Same H3 H' ∧ ∃ (cs : List Addr) (z4 : Option V), H' L = some (.lst (cs.map V.ref)) ∧ LsAt (PcAt H') cs (join one (other.take i)) ∧ σ = [some (.ref M0), some (.ref s1), some (.ref s2), some (.ref L), z4]) ⟨Same.upd nL, [], none, updS, .nil, rfl⟩ (fun i σ H' _ p => sqT (p.1 _ _ ha)) ?_ ?_
    · rintro i x σ H' hx ⟨q1, cs, z4, hL, hc, rfl⟩
      obtain ⟨c, p, rfl, h1, h2, h3⟩ := sc_get (hp.mono (.of q1)) hx
      have lc : cs.length ≤ 40 := by rw [hc.1]; exact join_len ok1 ok2 fit2 i
      have f := fit2 p (List.mem_of_getElem? h2)
      have ej := join_snoc (f := one) h2
      have l1 := join_len ok1 ok2 fit2 (i + 1)
      cases p with
      | take b m =>
        refine ⟨_, rfl, ixT h3 rfl ⟨rfl, _, rfl, ?_⟩⟩
        rw [take_put]
        refine iteF ⟨_, rfl, .inl ⟨rfl, _, sqL hL⟩, _, rfl, _, rfl, ixT h3 rfl ⟨_, rfl, ixT h3 rfl ⟨_, rfl, ixT h3 rfl ⟨_, _, rfl, rfl, s1, one, b, b + m, _, _, rfl, rfl, by omega, c1.mono (.of q1), Nat.le_trans ok1.len (by decide), fun M ds H4 g4 hM hd => ?_⟩⟩⟩⟩
        rw [part_eq (Pos.of_ok ok1.ok)] at hd
        have ld : ds.length ≤ 40 := by
          rw [hd.1]
          rw [ej, List.length_append] at l1
          have : (sub one (.take b m)).length = (tk m (dr b one)).length := rfl
          omega
        have tm : TM H4 (upd H4 L (.lst (cs.map V.ref ++ ds.map V.ref))) := fun a xs h => updN (ne_of h (g4 _ _ hL) (by intro z; cases z)) h
        refine ⟨L, M, _, _, rfl, rfl, g4 _ _ hL, .inl hM, by rw [List.length_map, List.length_map]; omega, Same.updI (q1.trans g4) nL, cs ++ ds, _, ?_, ?_, rfl⟩
        · rw [updS, List.map_append]
        · rw [ej]
          exact ((hc.mono (PcAt.mono' (.of g4))).append hd).mono (PcAt.mono' tm)
      | put rs =>
        have h30 := h3
        obtain ⟨q, h4, h5⟩ := h3
        refine ⟨_, rfl, ixT h4 rfl ⟨rfl, _, rfl, ?_⟩⟩
        rw [decide_eq_true rfl]
        have tm : TM H' (upd H' L (.lst (cs.map V.ref ++ [.ref c]))) := fun a xs h => updN (ne_of h hL (by intro z; cases z)) h
        refine iteT ⟨_, rfl, .inl ⟨rfl, _, sqL hL⟩, _, rfl, L, _, _, rfl, rfl, hL, by rw [List.length_map]; exact Nat.lt_of_le_of_lt lc (by decide), Same.updI q1 nL, cs ++ [c], _, ?_, ?_, rfl⟩
        · rw [updS, List.map_append]
          rfl
        · rw [ej]
          exact (hc.snoc h30).mono (PcAt.mono' tm)
    · rintro σ H' ⟨q1, cs, z4, hL, hc, rfl⟩
      exact ⟨_, rfl, L, _, rfl, .inl ⟨sqL hL, fun r nr => k r _ ((g.trans q1).trans (Same.upd nr))⟩⟩
  · rw [lm] at p
    have g0 := g1.trans g2
    exact km s1 one rfl sc1 ok1 fit1 (fun f => p (f.mono g0)) _ (g0.trans g3)
end
end Fw

set_option Elab.async false
set_option linter.all false
set_option maxRecDepth 100000
set_option maxHeartbeats 4000000
namespace Fw
open PySem L2 RZ RT
theorem samNw {H : Hp} {q : Addr} {o : HO} (n : H q = none) : Same H (upd H q o) := fun b u e => updN (ne_of_none e n) e
theorem samFr {H H' : Hp} {q : Addr} (s : Same H H') (h : H' q = none) : H q = none := by
  cases e : H q with
  | none => rfl
  | some o => rw [s _ _ e] at h; cases h
theorem ne_same {D : Addr} {H H' : Hp} (s : Same H H') (h : H D ≠ none) : H' D ≠ none := fun e => by
  cases q : H D with
  | none => exact h q
  | some o => rw [s _ _ q] at e; cases e
theorem ne_new {D p : Addr} {H : Hp} (h : H D ≠ none) (n : H p = none) : p ≠ D := fun e => h (by rw [← e]; exact n)
theorem dk_some {c D : Addr} {ns : List Int} {t : Nat} {H : Hp} (d : Dk c D ns t H) : H D ≠ none := fun e => by
  obtain ⟨xs, h⟩ := d.someD
  rw [h] at e
  cases e
/-! ### literals -/
def txB (z : Str) : Bool := decide (z.cps.size ≤ 41) && z.cps.toList.all fun c => !decide (c = 37)
theorem txB_ok {z : Str} (h : txB z = true) : TxOk 41 z := by
  unfold txB at h
  rw [Bool.and_eq_true, decide_eq_true_eq, List.all_eq_true] at h
  exact ⟨h.1, fun c hc e => by have := h.2 c hc; rw [decide_eq_true e] at this; cases this⟩
def EvX (D : Addr) (te : TE) : Prop := ∀ (σ : L2.St) (H : Hp) (Q : VK), H D ≠ none → (∀ x H', Same H H' → Ad D 41 H' x → Q x H') → te σ H Q
def EvXs (D : Addr) (ta : TA) (n : Nat) : Prop := ∀ (σ : L2.St) (H : Hp) (Q : List V → Hp → Prop), H D ≠ none → (∀ xs H', Same H H' → xs.length = n → (∀ x ∈ xs, Ad D 41 H' x) → Q xs H') → ta σ H Q
section
variable {D : Addr} {K : PySem.W.Frag}
theorem EvX.non : EvX D (tC .non) := fun σ H Q _ k => k _ _ (Same.refl H) .non
theorem EvX.bl {b : Bool} : EvX D (tC (.bl b)) := fun σ H Q _ k => k _ _ (Same.refl H) (.bl b)
theorem EvX.int {i : Int} : EvX D (tC (.int i)) := fun σ H Q _ k => k _ _ (Same.refl H) (.int i)
theorem EvX.neg {i : Int} : EvX D (tUn rNegI (tC (.int i))) := fun σ H Q _ k => ⟨_, rfl, k _ _ (Same.refl H) (.int _)⟩
theorem EvX.str {z : Str} (h : txB z = true) : EvX D (tC (.str z)) := fun σ H Q _ k => k _ _ (Same.refl H) (.str (txB_ok h))
theorem EvX.pow : EvX D (tOp rPowI (tC (.int 10)) (tC (.int 30))) := fun σ H Q _ k => ⟨_, _, rfl, rfl, ⟨by decide, by decide, by decide⟩, k _ _ (Same.refl H) (.int _)⟩
theorem EvX.dnew : EvX D tDNewK := fun σ H Q h k p hp => k _ _ (samNw hp) (.dct (ne_new h hp) updS)
theorem EvX.disp : EvX D (tDisp ((tC (.int 0), tC (.int 1)) :: [])) := fun σ H Q h k p hp => by
  refine ⟨updS, [(.inl 0, .int 1)], rfl, by decide, ?_⟩
  rw [upd_upd]
  exact k _ _ (samNw hp) (.dct (ne_new h hp) updS)
theorem EvX.mulS : EvX D (tOp rRepS (tC (.str "a")) (tC (.int 41))) := fun σ H Q h k => by
  refine ⟨("a" : Str), 41, rfl, rfl, by decide, by decide, by decide +kernel, by decide +kernel, by decide +kernel, ?_⟩
  exact k _ _ (Same.refl H) (.str (txB_ok (by decide +kernel)))
theorem EvX.mulT : EvX D (tOp (rRepT K) (tTup (tCons (tC (.str "a")) tNil)) (tC (.int 41))) := fun σ H Q h k => by
  refine ⟨by show (1 : Nat) ≤ sizeLine; decide, fun p np => ?_⟩
  refine ⟨p, 41, [.str "a"], rfl, rfl, sqT updS, (by intro e; cases e), by decide, by decide, by decide, fun q nq => ?_⟩
  have s1 := samNw (o := .tup [V.str "a"]) np
  refine k _ _ (s1.trans (samNw nq)) (.tup (ne_new (ne_same s1 h) nq) updS (by decide) fun x hx => ?_)
  have e : x = V.str "a" := by
    rw [show (List.replicate (41 : Int).toNat [V.str "a"]).flatten = List.replicate 41 (V.str "a") from rfl] at hx
    exact List.eq_of_mem_replicate hx
  rw [e]
  exact .str (txB_ok (by decide +kernel))
theorem EvXs.nil : EvXs D tNil 0 := fun σ H Q _ k => k _ _ (Same.refl H) rfl fun x hx => by cases hx
theorem EvXs.cons {te : TE} {ta : TA} {n : Nat} (h : EvX D te) (r : EvXs D ta n) : EvXs D (tCons te ta) (n + 1) := fun σ H Q hD k => by
  refine h σ H _ hD fun x H1 s1 o1 => r σ H1 _ (ne_same s1 hD) fun xs H2 s2 hl ho => k _ _ (s1.trans s2) (by rw [List.length_cons, hl]) fun y hy => ?_
  rcases List.mem_cons.mp hy with rfl | hy
  · exact o1.same s2
  · exact ho y hy
theorem EvX.tup {ta : TA} {n : Nat} (h : EvXs D ta n) (hn : n ≤ 41) : EvX D (tTup ta) := fun σ H Q hD k => by
  refine h σ H _ hD fun xs H1 s1 hl ho => ⟨Nat.le_trans (by omega : xs.length ≤ 41) (by decide), fun p hp => ?_⟩
  have s2 := samNw (o := .tup xs) hp
  exact k _ _ (s1.trans s2) (.tup (ne_new (ne_same s1 hD) hp) updS (by omega) fun x hx => (ho x hx).same s2)
theorem EvX.lst {ta : TA} {n : Nat} (h : EvXs D ta n) (hn : n ≤ 41) : EvX D (tLst ta) := fun σ H Q hD k => by
  refine h σ H _ hD fun xs H1 s1 hl ho => ⟨Nat.le_trans (by omega : xs.length ≤ 41) (by decide), fun p hp => ?_⟩
  have s2 := samNw (o := .lst xs) hp
  exact k _ _ (s1.trans s2) (.lst (ne_new (ne_same s1 hD) hp) updS (by omega) fun x hx => (ho x hx).same s2)
/-- a list of literals -/
theorem lit_list {ta : TA} {n : Nat} {σ : L2.St} {H : Hp} {R : VK} (h : EvXs D ta n) (hn : n ≤ 41) (hD : H D ≠ none) (k : ∀ p xs H', Same H H' → H p = none → H' p = some (.lst xs) → xs.length = n → (∀ x ∈ xs, Ad D 41 H' x) → R (.ref p) H') : tLst ta σ H R := by
  refine h σ H _ hD fun xs H1 s1 hl ho => ⟨Nat.le_trans (by omega : xs.length ≤ 41) (by decide), fun p hp => ?_⟩
  have s2 := samNw (o := .lst xs) hp
  exact k p xs _ (s1.trans s2) (samFr s1 hp) updS hl fun x hx => (ho x hx).same s2
theorem lit_set {ta : TA} {n : Nat} {g : TG} {E : Ends} {σ : L2.St} {H : Hp} (h : EvXs D ta n) (hn : n ≤ 41) (hD : H D ≠ none) (k : ∀ p xs H', Same H H' → H p = none → H' p = some (.lst xs) → xs.length = n → (∀ x ∈ xs, Ad D 41 H' x) → g (.ref p) σ H' E.nx) : tAsg (tLst ta) g E σ H := lit_list h hn hD k
/-- a list and a list of literals behind it -/
theorem lit_cat {ta : TA} {n m : Nat} {σ : L2.St} {H : Hp} {R : VK} {p : Addr} {xs : List V} (hp : H p = some (.lst xs)) (hm : xs.length = m) (hm2 : m ≤ 1000) (ho : ∀ x ∈ xs, Ad D 41 H x) (h : EvXs D ta n) (hn : n ≤ 41) (hD : H D ≠ none)
    (k : ∀ r ys H', Same H H' → H r = none → H' r = some (.lst ys) → ys.length = m + n → (∀ x ∈ ys, Ad D 41 H' x) → R (.ref r) H') : tLst ta σ H fun y H1 => rCat (.ref p) y H1 R := by
  refine lit_list h hn hD fun q ys H1 s1 nq hq hl oy => ⟨p, q, xs, ys, rfl, rfl, s1 _ _ hp, hq, Nat.le_trans (by omega : xs.length + ys.length ≤ 2000) (by decide), fun r nr => ?_⟩
  have s2 := samNw (o := .lst (xs ++ ys)) nr
  refine k r _ _ (s1.trans s2) (samFr s1 nr) updS (by rw [List.length_append]; omega) fun x hx => ?_
  rcases List.mem_append.mp hx with hx | hx
  · exact (ho x hx).same (s1.trans s2)
  · exact (oy x hx).same s2
end
/-! ### _law_odd -/
def sp_l_odd (_ : PySem.W.Frag) : Sp := fun vs H Q _ => ∃ (c D : Addr) (ns : List Int) (t : Nat), vs = [.ref D] ∧ Dk c D ns t H ∧ t < 1000000 ∧ ∀ x H', Kp D H H' → Dk c D ns (t + 1) H' → Ad D 41 H' x → Q x H'
abbrev N_l_odd : List Str := ["_law_deck_here", "_law_some"]
def t_l_odd_f (K : PySem.W.Frag) : TS := (tRet (tOp (rIx K) (tVar 1) (tCall (sp_l_draw K) [] E0 (tCons (tVar 0) (tCons (tCB (fLen K) (tCons (tVar 1) tNil)) tNil)))))
def t_l_odd_e (K : PySem.W.Frag) : TS := (tSeq (tAsg (tOp rCat (tVar 1) (tLst (tCons (tTup (tCons (tC (.str "apart")) (tCons (tTup tNil) (tCons (tTup tNil) tNil)))) (tCons (tTup (tCons (tC (.str "apart")) (tCons (tTup (tCons (tC (.int 0)) tNil)) (tCons (tTup tNil) tNil)))) (tCons (tTup (tCons (tC (.int 0)) (tCons (tC (.int 0)) (tCons (tC .non) tNil)))) (tCons (tTup (tCons (tC (.int 0)) (tCons (tC .non) (tCons (tC (.int 0)) tNil)))) (tCons (tTup (tCons (tTup (tCons (tTup (tCons (tTup (tCons (tTup (tCons (tTup (tCons (tTup (tCons (tTup (tCons (tTup (tCons (tTup (tCons (tC (.int 0)) tNil)) tNil)) tNil)) tNil)) tNil)) tNil)) tNil)) tNil)) tNil)) tNil)) tNil))))))) (gName 1))
    (t_l_odd_f K))
def t_l_odd_d (K : PySem.W.Frag) : TS := (tSeq (tAsg (tOp rCat (tVar 1) (tLst (tCons (tTup (tCons (tC (.str "put")) (tCons (tTup tNil) tNil))) (tCons (tTup (tCons (tC (.str "put")) (tCons (tTup (tCons (tC (.str "")) tNil)) tNil))) (tCons (tTup (tCons (tC (.str "put")) (tCons (tC (.str "a")) tNil))) (tCons (tTup (tCons (tC (.str "put")) tNil)) (tCons (tTup (tCons (tC (.str "put")) (tCons (tTup (tCons (tC (.int 1)) tNil)) tNil))) (tCons (tTup (tCons (tC (.str "cut")) (tCons (tC (.int 0)) (tCons (tC (.int 1)) tNil)))) (tCons (tTup (tCons (tC (.str "ahead")) (tCons (tTup (tCons (tC (.int 0)) tNil)) tNil))) tNil))))))))) (gName 1))
    (t_l_odd_e K))
def t_l_odd_c (K : PySem.W.Frag) : TS := (tSeq (tAsg (tOp rCat (tVar 1) (tLst (tCons (tTup (tCons (tC (.str "take")) (tCons (tC (.int 0)) (tCons (tC (.int 1)) tNil)))) (tCons (tTup (tCons (tC (.str "take")) (tCons (tC (.int 0)) (tCons (tC (.int 0)) tNil)))) (tCons (tTup (tCons (tC (.str "take")) (tCons (tUn rNegI (tC (.int 1))) (tCons (tC (.int 1)) tNil)))) (tCons (tTup (tCons (tC (.str "take")) (tCons (tC (.bl true)) (tCons (tC (.int 1)) tNil)))) (tCons (tTup (tCons (tC (.str "take")) (tCons (tC (.int 0)) (tCons (tC (.int 1)) (tCons (tC (.int 0)) tNil))))) (tCons (tTup (tCons (tC (.str "take")) (tCons (tC (.int 0)) tNil))) tNil)))))))) (gName 1))
    (t_l_odd_d K))
def t_l_odd_b (K : PySem.W.Frag) : TS := (tSeq (tAsg (tOp rCat (tVar 1) (tLst (tCons (tTup (tCons (tTup tNil) tNil)) (tCons (tTup (tCons (tTup tNil) (tCons (tTup tNil) tNil))) (tCons (tTup (tCons (tC (.str "a")) tNil)) (tCons (tLst (tCons (tC (.str "a")) tNil)) (tCons (tTup (tCons (tOp rRepS (tC (.str "a")) (tC (.int 41))) tNil)) (tCons (tTup (tCons (tC (.str "a
b")) tNil)) (tCons (tOp (rRepT K) (tTup (tCons (tC (.str "a")) tNil)) (tC (.int 41))) (tCons (tTup (tCons (tC (.int 1)) tNil)) (tCons (tTup (tCons (tC .non) tNil)) (tCons (tDisp (((tC (.int 0)), (tC (.int 1))) :: [])) tNil)))))))))))) (gName 1))
    (t_l_odd_c K))
def t_l_odd (K : PySem.W.Frag) : TS := (tSeq (tAsg (tLst (tCons (tC .non) (tCons (tC (.bl true)) (tCons (tC (.bl false)) (tCons (tUn rNegI (tC (.int 1))) (tCons (tC (.int 0)) (tCons (tC (.int 1)) (tCons (tC (.int 2)) (tCons (tC (.int 3)) (tCons (tC (.int 40)) (tCons (tC (.int 41)) (tCons (tOp rPowI (tC (.int 10)) (tC (.int 30))) (tCons (tC (.str "")) (tCons (tC (.str "a")) (tCons (tC (.str "take")) (tCons (tC (.str "put")) (tCons (tTup tNil) (tCons (tLst tNil) (tCons tDNewK (tCons (tTup (tCons (tC (.int 0)) tNil)) (tCons (tTup (tCons (tC (.int 0)) (tCons (tC (.int 1)) tNil))) (tCons (tLst (tCons (tC (.int 0)) tNil)) tNil)))))))))))))))))))))) (gName 1))
    (t_l_odd_b K))
theorem len_l_odd {K : PySem.W.Frag} {vs : List V} {H : Hp} {Q : VK} {E : XK} (h : sp_l_odd K vs H Q E) : vs.length = 1 := by
  obtain ⟨_, _, _, _, rfl, _⟩ := h
  rfl
theorem pure_l_odd {K : PySem.W.Frag} {vs : List V} {H : Hp} {Q : VK} {E : XK} (h : sp_l_odd K vs H Q E) : t_l_odd K { nx := fun _ H' => Q .non H', rt := Q } (start N_l_odd vs) H := by
  obtain ⟨c, D, ns, t, rfl, dk, ht, k⟩ := h
  have hD := dk_some dk
  unfold t_l_odd
  refine lit_set (D := D) (n := 21) (by repeat' (first | exact EvX.non | exact EvX.bl | exact EvX.int | exact EvX.neg | exact EvX.str (by decide +kernel) | exact EvX.pow | exact EvX.dnew | exact EvX.disp | exact EvXs.nil | apply EvXs.cons | apply EvX.tup | apply EvX.lst | decide)) (by decide) hD fun p1 xs1 H1 s1 n1 hp1 hl1 ho1 => ?_
  show t_l_odd_b K { nx := fun _ H' => Q .non H', rt := Q } [some (.ref D), some (.ref p1)] H1
  unfold t_l_odd_b
  refine ⟨_, rfl, lit_cat (D := D) (n := 10) hp1 hl1 (by decide) ho1 (by repeat' (first | exact EvX.non | exact EvX.bl | exact EvX.int | exact EvX.neg | exact EvX.mulS | exact EvX.mulT | exact EvX.str (by decide +kernel) | exact EvX.pow | exact EvX.dnew | exact EvX.disp | exact EvXs.nil | apply EvXs.cons | apply EvX.tup | apply EvX.lst | decide)) (by decide) (ne_same s1 hD) fun p2 xs2 H2 s2 n2 hp2 hl2 ho2 => ?_⟩
  have w2 := s1.trans s2
  clear hp1 hl1 ho1 n1 n2
  show t_l_odd_c K { nx := fun _ H' => Q .non H', rt := Q } [some (.ref D), some (.ref p2)] H2
  unfold t_l_odd_c
  refine ⟨_, rfl, lit_cat (D := D) (n := 6) hp2 hl2 (by decide) ho2 (by repeat' (first | exact EvX.non | exact EvX.bl | exact EvX.int | exact EvX.neg | exact EvX.str (by decide +kernel) | exact EvXs.nil | apply EvXs.cons | apply EvX.tup | apply EvX.lst | decide)) (by decide) (ne_same w2 hD) fun p3 xs3 H3 s3 n3 hp3 hl3 ho3 => ?_⟩
  have w3 := w2.trans s3
  clear hp2 hl2 ho2 n3
  show t_l_odd_d K { nx := fun _ H' => Q .non H', rt := Q } [some (.ref D), some (.ref p3)] H3
  unfold t_l_odd_d
  refine ⟨_, rfl, lit_cat (D := D) (n := 7) hp3 hl3 (by decide) ho3 (by repeat' (first | exact EvX.non | exact EvX.bl | exact EvX.int | exact EvX.neg | exact EvX.str (by decide +kernel) | exact EvXs.nil | apply EvXs.cons | apply EvX.tup | apply EvX.lst | decide)) (by decide) (ne_same w3 hD) fun p4 xs4 H4 s4 n4 hp4 hl4 ho4 => ?_⟩
  have w4 := w3.trans s4
  clear hp3 hl3 ho3 n4
  show t_l_odd_e K { nx := fun _ H' => Q .non H', rt := Q } [some (.ref D), some (.ref p4)] H4
  unfold t_l_odd_e
  refine ⟨_, rfl, lit_cat (D := D) (n := 5) hp4 hl4 (by decide) ho4 (by repeat' (first | exact EvX.non | exact EvX.bl | exact EvX.int | exact EvX.neg | exact EvX.str (by decide +kernel) | exact EvXs.nil | apply EvXs.cons | apply EvX.tup | apply EvX.lst | decide)) (by decide) (ne_same w4 hD) fun p5 xs5 H5 s5 n5 hp5 hl5 ho5 => ?_⟩
  have w5 := w4.trans s5
  show t_l_odd_f K { nx := fun _ H' => Q .non H', rt := Q } [some (.ref D), some (.ref p5)] H5
  have d5 := dk.same w5
  have hpD : p5 ≠ D := (dk.same w4).neD n5
  have hlen : xs5.length = 49 := hl5
  refine ⟨_, rfl, _, rfl, _, rfl, lenL hp5 ⟨c, D, ns, t, _, rfl, d5, by omega, ?_, small100 ?_, fun v H6 v0 v1 d6 fr6 => ?_⟩⟩
  · rw [hlen]; decide
  · rw [hlen]; decide
  · rw [hlen] at v1
    obtain ⟨m, rfl⟩ := Int.eq_ofNat_of_zero_le v0
    have hm : m < xs5.length := by omega
    refine ixL (by rw [fr6 _ hpD]; exact hp5) (atI_nat (List.getElem?_eq_getElem hm)) ?_
    exact k _ _ ((Kp.of_same w5).trans (Kp.fr fr6)) d6 ((ho5 _ (List.getElem_mem hm)).mono (Kp.fr fr6) (Nat.le_refl _))
end Fw

set_option Elab.async false
set_option linter.all false
set_option maxRecDepth 100000
set_option maxHeartbeats 4000000
namespace Fw
open PySem L2 RZ RT
/-! ### slices and sums of tuples beside the deck -/
section
variable {K : PySem.W.Frag} {D a b : Addr} {H : Hp} {xs ys : List V} {Q : VK}
theorem sl_step {lo hi : Option Int} (na : a ≠ D) (hD : H D ≠ none) (h : H a = some (.tup xs)) (k : ∀ q zs H', Same H H' → q ≠ D → H' q = some (.tup zs) → zs.length ≤ HT.sIx xs.length xs.length hi - HT.sIx xs.length 0 lo → (∀ y ∈ zs, y ∈ xs) → Q (.ref q) H') : rSlA K (.ref a) lo hi H Q := by
  refine ⟨a, xs, rfl, sqT h, fun e => k a xs H (Same.refl H) na h (by rw [e.1, e.2]; exact Nat.le_refl _) fun y hy => hy, fun _ p np => k p _ _ (samNw np) (ne_new hD np) updS ?_ fun y hy => ?_⟩
  · unfold cutV
    rw [List.length_take]
    exact Nat.min_le_left _ _
  · unfold cutV at hy
    exact List.mem_of_mem_drop (List.mem_of_mem_take hy)
theorem sl_stepN {lo : Option Int} {σ : L2.St} (na : a ≠ D) (hD : H D ≠ none) (h : H a = some (.tup xs)) (k : ∀ q zs H', Same H H' → q ≠ D → H' q = some (.tup zs) → zs.length ≤ HT.sIx xs.length xs.length none - HT.sIx xs.length 0 lo → (∀ y ∈ zs, y ∈ xs) → Q (.ref q) H') : tNoPart σ H fun u H3 => rSlA K (.ref a) lo u H3 Q := sl_step na hD h k
theorem cat_step (na : a ≠ D) (nb : b ≠ D) (hD : H D ≠ none) (ha : H a = some (.tup xs)) (hb : H b = some (.tup ys)) (hz : xs.length + ys.length ≤ 1000) (k : ∀ q H', Same H H' → q ≠ D → H' q = some (.tup (xs ++ ys)) → Q (.ref q) H') : rCatA K (.ref a) (.ref b) H Q := by
  refine ⟨a, b, xs, ys, rfl, rfl, sqT ha, sqT hb, Nat.le_trans hz (by decide), fun e => k b H (Same.refl H) nb (by rw [e]; exact hb), fun _ e => k a H (Same.refl H) na (by rw [e, List.append_nil]; exact ha), fun _ _ p np => k p _ (samNw np) (ne_new hD np) updS⟩
end
/-! ### _law_bent -/
def sp_bentN (_ : PySem.W.Frag) (n : Nat) : Sp := fun vs H Q _ => ∃ (c D : Addr) (ns : List Int) (t : Nat) (x : V) (B : Nat), vs = [.ref D, x, .int ((n : Int) - 1)] ∧ 0 < n ∧ Dk c D ns t H ∧ t + 3 * n < 1000000 ∧ Ad D B H x ∧ 41 ≤ B ∧ B ≤ 100 ∧
  ∀ x' H', Kp D H H' → Dk c D ns (t + 3 * n) H' → Ad D (B + 1) H' x' → Q x' H'
abbrev sp_l_bent (K : PySem.W.Frag) : Sp := sp_bentN K 5
def sp_l_spoiled (_ : PySem.W.Frag) : Sp := fun vs H Q _ => ∃ (c D : Addr) (ns : List Int) (t : Nat) (x : V) (i : Int), vs = [.ref D, x, .int i] ∧ Dk c D ns t H ∧ t + 50 < 1000000 ∧ Ad D 41 H x ∧ 0 ≤ i ∧ i ≤ 2 ∧
  ∀ x' H', Kp D H H' → Dk c D ns (t + 50) H' → Ad D 43 H' x' → Q x' H'
theorem len_bentN {K : PySem.W.Frag} {n : Nat} {vs : List V} {H : Hp} {Q : VK} {E : XK} (h : sp_bentN K n vs H Q E) : vs.length = 3 := by
  obtain ⟨_, _, _, _, _, _, rfl, _⟩ := h
  rfl
theorem len_l_spoiled {K : PySem.W.Frag} {vs : List V} {H : Hp} {Q : VK} {E : XK} (h : sp_l_spoiled K vs H Q E) : vs.length = 3 := by
  obtain ⟨_, _, _, _, _, _, rfl, _⟩ := h
  rfl
abbrev N_l_bent : List Str := ["_law_deck_here", "_law_thing", "_law_deep_in", "_law_turn", "_law_place"]
def t_l_bent_odd (K : PySem.W.Frag) (n : Nat) : TS := (tRet (tCall (sp_l_odd K) [] E0 (tCons (tVar 0) tNil)))
def t_l_bent_txt (K : PySem.W.Frag) (n : Nat) : TS := (tSeq (tIfS (tAnd (tB (tCB (rIsi K) (tCons (tVar 1) (tCons (tC (.ty "str")) tNil)))) (tTest (tOp rGtI (tVar 3) (tC (.int 4))))) (tRet (tOp rAddS (tOp rAddS (tSl rSlS (tVar 1) tNoPart (tPart (tC (.int 1)))) (tOp (rIx K) (tC (.str "abcdefghijklmnopqrstuvwxyz")) (tCall (sp_l_draw K) [] E0 (tCons (tVar 0) (tCons (tC (.int 26)) tNil))))) (tSl rSlS (tVar 1) (tPart (tC (.int 1))) tNoPart))) tNext)
    (t_l_bent_odd K n))
def t_l_bent_fst (K : PySem.W.Frag) (n : Nat) : TS := (tSeq (tIfS (tAnd (tB (tCall (sp_l_intA K) [] E0 (tCons (tVar 1) tNil))) (tTest (tOp rGtI (tVar 3) (tC (.int 1))))) (tRet (tOp rAddI (tVar 1) (tOp (rIx K) (tLst (tCons (tUn rNegI (tC (.int 1))) (tCons (tC (.int 1)) (tCons (tC (.int 2)) (tCons (tUn rNegI (tC (.int 2))) (tCons (tOp rSubI (tUn rNegI (tVar 1)) (tC (.int 1))) (tCons (tC (.int 40)) tNil))))))) (tCall (sp_l_draw K) [] E0 (tCons (tVar 0) (tCons (tC (.int 6)) tNil)))))) tNext)
    (t_l_bent_txt K n))
def t_l_bent_last (K : PySem.W.Frag) (n : Nat) : TS := (tRet (tOp (rCatA K) (tOp (rCatA K) (tSl (rSlA K) (tVar 1) tNoPart (tPart (tVar 4))) (tTup (tCons (tCall (sp_bentN K n) [] E0 (tCons (tVar 0) (tCons (tOp (rIx K) (tVar 1) (tVar 4)) (tCons (tOp rSubI (tVar 2) (tC (.int 1))) tNil)))) tNil))) (tSl (rSlA K) (tVar 1) (tPart (tOp rAddI (tVar 4) (tC (.int 1)))) tNoPart)))
def t_l_bent_four (K : PySem.W.Frag) (n : Nat) : TS := (tSeq (tIfS (tTest (tOp rEq (tVar 3) (tC (.int 4)))) (tRet (tOp (rCatA K) (tOp (rCatA K) (tOp (rCatA K) (tSl (rSlA K) (tVar 1) tNoPart (tPart (tVar 4))) (tSl (rSlA K) (tVar 1) (tPart (tOp rAddI (tVar 4) (tC (.int 1)))) (tPart (tOp rAddI (tVar 4) (tC (.int 2)))))) (tTup (tCons (tOp (rIx K) (tVar 1) (tVar 4)) tNil))) (tSl (rSlA K) (tVar 1) (tPart (tOp rAddI (tVar 4) (tC (.int 2)))) tNoPart))) tNext)
    (t_l_bent_last K n))
def t_l_bent_three (K : PySem.W.Frag) (n : Nat) : TS := (tSeq (tIfS (tTest (tOp rEq (tVar 3) (tC (.int 3)))) (tRet (tOp (rCatA K) (tSl (rSlA K) (tVar 1) tNoPart (tPart (tOp rAddI (tVar 4) (tC (.int 1))))) (tSl (rSlA K) (tVar 1) (tPart (tVar 4)) tNoPart))) tNext)
    (t_l_bent_four K n))
def t_l_bent_two (K : PySem.W.Frag) (n : Nat) : TS := (tSeq (tIfS (tTest (tOp rEq (tVar 3) (tC (.int 2)))) (tRet (tOp (rCatA K) (tSl (rSlA K) (tVar 1) tNoPart (tPart (tVar 4))) (tSl (rSlA K) (tVar 1) (tPart (tOp rAddI (tVar 4) (tC (.int 1)))) tNoPart))) tNext)
    (t_l_bent_three K n))
def t_l_bent_at (K : PySem.W.Frag) (n : Nat) : TS := (tSeq (tAsg (tCall (sp_l_draw K) [] E0 (tCons (tVar 0) (tCons (tCB (fLen K) (tCons (tVar 1) tNil)) tNil))) (gName 4))
    (t_l_bent_two K n))
def t_l_bent_len (K : PySem.W.Frag) (n : Nat) : TS := (tSeq (tIfS (tTest (tOp rEq (tCB (fLen K) (tCons (tVar 1) tNil)) (tC (.int 0)))) (tRet (tTup (tCons (tCall (sp_l_odd K) [] E0 (tCons (tVar 0) tNil)) tNil))) tNext)
    (t_l_bent_at K n))
def t_l_bent_one (K : PySem.W.Frag) (n : Nat) : TS := (tSeq (tIfS (tTest (tOp rEq (tVar 3) (tC (.int 1)))) (tRet (tCB (fListOf K) (tCons (tVar 1) tNil))) tNext)
    (t_l_bent_len K n))
def t_l_bent (K : PySem.W.Frag) (n : Nat) : TS := (tSeq (tAsg (tCall (sp_l_draw K) [] E0 (tCons (tVar 0) (tCons (tC (.int 8)) tNil))) (gName 3))
    (tSeq (tIfS (tOr (tTest (tOp rEq (tVar 2) (tC (.int 0)))) (tOr (tTest (tOp rEq (tVar 3) (tC (.int 0)))) (tNot (tB (tCB (rIsi K) (tCons (tVar 1) (tCons (tC (.ty "tuple")) tNil))))))) (t_l_bent_fst K n) tNext)
    (t_l_bent_one K n)))
abbrev N_l_spoiled : List Str := ["_law_deck_here", "_law_thing", "_law_times", "_law_k"]
def t_l_spoiled (K : PySem.W.Frag) : TS := (tSeq (tFor (iRng1 (tCons (tVar 2) tNil)) (gName 3) (tAsg (tCall (sp_l_bent K) [] E0 (tCons (tVar 0) (tCons (tVar 1) (tCons (tC (.int 4)) tNil)))) (gName 1)))
    (tRet (tVar 1)))
theorem pick6 {w a b c d e f : Int} (h0 : 0 ≤ w) (h1 : w < 6) : ∃ m : Int, atI [V.int a, .int b, .int c, .int d, .int e, .int f] w = some (.int m) := by
  have : w = 0 ∨ w = 1 ∨ w = 2 ∨ w = 3 ∨ w = 4 ∨ w = 5 := by omega
  rcases this with rfl | rfl | rfl | rfl | rfl | rfl
  · exact ⟨_, rfl⟩
  · exact ⟨_, rfl⟩
  · exact ⟨_, rfl⟩
  · exact ⟨_, rfl⟩
  · exact ⟨_, rfl⟩
  · exact ⟨_, rfl⟩
theorem letters : ∀ c ∈ ("abcdefghijklmnopqrstuvwxyz" : Str).cps.toList, c ≠ 37 := by
  have h : (("abcdefghijklmnopqrstuvwxyz" : Str).cps.toList.all fun x => !decide (x = 37)) = true := by decide +kernel
  intro c hc e
  have := List.all_eq_true.mp h c hc
  rw [decide_eq_true e] at this
  cases this
theorem letters_len : ("abcdefghijklmnopqrstuvwxyz" : Str).cps.toList.length = 26 := by decide +kernel
theorem cutS_len (z : Str) (lo hi : Option Int) : (cutS z lo hi).length ≤ z.length := by
  show (List.take _ (z.cps.toList.drop _)).toArray.size ≤ z.cps.size
  rw [List.size_toArray, List.length_take, List.length_drop, Array.length_toList]
  omega
theorem str_app_len (a b : Str) : (a ++ b).length = a.length + b.length := by
  show (a.cps ++ b.cps).size = a.cps.size + b.cps.size
  exact Array.size_append
/-- a text with a sign more -/
theorem txt_more {B : Nat} {z : Str} {c : Nat} (h : TxOk B z) (hc : c ≠ 37) : TxOk (B + 1) (cutS z none (some 1) ++ (⟨#[c]⟩ : Str) ++ cutS z (some 1) none) := by
  have e1 : HT.sIx z.length z.length (some 1) = min 1 z.length := HT.sIx_nat z.length z.length 1
  have e2 : HT.sIx z.length 0 (some 1) = min 1 z.length := HT.sIx_nat z.length 0 1
  have e : (cutS z none (some 1) ++ (⟨#[c]⟩ : Str) ++ cutS z (some 1) none).cps.toList = z.cps.toList.take (min 1 z.length) ++ [c] ++ (z.cps.toList.drop (min 1 z.length)).take (z.length - min 1 z.length) := by
    unfold cutS
    rw [e1, e2, HT.sIx_none, HT.sIx_none]
    show (((List.take (min 1 z.length - 0) (z.cps.toList.drop 0)).toArray ++ #[c]) ++ (List.take (z.length - min 1 z.length) (z.cps.toList.drop (min 1 z.length))).toArray).toList = _
    simp
  have lz : z.length = z.cps.size := rfl
  have h1 := h.1
  refine ⟨?_, fun d hd => ?_⟩
  · rw [← Array.length_toList, e, List.length_append, List.length_append, List.length_take, List.length_take, List.length_drop, Array.length_toList, List.length_singleton]
    omega
  · rw [e] at hd
    rcases List.mem_append.mp hd with hd | hd
    · rcases List.mem_append.mp hd with hd | hd
      · exact h.2 d (List.mem_of_mem_take hd)
      · rw [List.mem_singleton.mp hd]
        exact hc
    · exact h.2 d (List.mem_of_mem_drop (List.mem_of_mem_take hd))
theorem pure_l_bent {K : PySem.W.Frag} {n : Nat} {vs : List V} {H : Hp} {Q : VK} {E : XK} (h : sp_bentN K (n + 1) vs H Q E) : t_l_bent K n { nx := fun _ H' => Q .non H', rt := Q } (start N_l_bent vs) H := by
  obtain ⟨c, D, ns, t, x, B, rfl, _, dk, ht, o, hB0, hB1, k⟩ := h
  refine ⟨_, rfl, c, D, ns, t, 8, rfl, dk, by omega, by decide, by decide, fun road H1 r0 r1 d1 fr1 => ?_⟩
  have k1 : Kp D H H1 := Kp.fr fr1
  have a1 := o.mono k1 (Nat.le_refl _)
  have hD1 := dk_some d1
  have odd : ∀ (X : L2.St → Hp → Prop) (H1' : Hp), Same H1 H1' → t_l_bent_odd K n { nx := X, rt := Q } [some (.ref D), some x, some (.int (((n + 1 : Nat) : Int) - 1)), some (.int road), none] H1' := fun X H1' sm =>
    ⟨_, rfl, c, D, ns, t + 1, rfl, d1.same sm, by omega, fun y H2 k2 d2 oy => k y H2 ((k1.trans (Kp.of_same sm)).trans k2) (d2.le (by omega)) (oy.mono (Kp.refl _ _) (by omega))⟩
  have txt : ∀ (X : L2.St → Hp → Prop) (H1' : Hp), Same H1 H1' → t_l_bent_txt K n { nx := X, rt := Q } [some (.ref D), some x, some (.int (((n + 1 : Nat) : Int) - 1)), some (.int road), none] H1' := by
    intro X H1' sm
    rcases (a1.same sm).strC K with ⟨z, rfl, tz⟩ | ⟨⟨ty, t1, t2⟩, hn⟩
    · have l1 := tz.1
      refine ⟨_, rfl, isi (.base (.str z)) k_ss ⟨_, rfl, iteT ⟨_, rfl, _, _, rfl, rfl, _, rfl, ite2 (fun e => ?_) (fun e => odd X H1' sm)⟩⟩⟩
      have zl : z.length ≤ 100 := by
        show z.cps.size ≤ 100
        omega
      refine ⟨_, rfl, _, rfl, z, rfl, Nat.le_trans zl (by decide), ?_⟩
      refine ⟨_, rfl, c, D, ns, t + 1, 26, rfl, d1.same sm, by omega, by decide, by decide, fun v H2 v0 v1 d2 fr2 => ?_⟩
      obtain ⟨m, rfl⟩ := Int.eq_ofNat_of_zero_le v0
      have hm : m < ("abcdefghijklmnopqrstuvwxyz" : Str).cps.toList.length := by rw [letters_len]; omega
      have c1 := cutS_len z none (some 1)
      have c2 := cutS_len z (some 1) none
      refine ixS (by decide +kernel) (atI_nat (List.getElem?_eq_getElem hm)) ⟨_, _, rfl, rfl, ?_, ?_⟩
      · exact Nat.le_trans (show _ + 1 ≤ 1000 by omega) (by decide)
      refine ⟨_, rfl, _, rfl, z, rfl, Nat.le_trans zl (by decide), _, _, rfl, rfl, ?_, ?_⟩
      · rw [str_app_len]
        exact Nat.le_trans (show _ + 1 + _ ≤ 1000 by omega) (by decide)
      exact k _ _ ((k1.trans (Kp.of_same sm)).trans (Kp.fr fr2)) (d2.le (by omega)) (.str (txt_more tz (letters _ (List.getElem_mem hm))))
    · exact ⟨_, rfl, isi t1 t2 ⟨_, rfl, iteF (odd X H1' sm)⟩⟩
  have fst : ∀ X : L2.St → Hp → Prop, t_l_bent_fst K n { nx := X, rt := Q } [some (.ref D), some x, some (.int (((n + 1 : Nat) : Int) - 1)), some (.int road), none] H1 := by
    intro X
    refine ⟨_, rfl, x, D, B, rfl, a1, Yn.x ⟨fun q H1' sm => ?_, fun q H1' sm => ⟨_, rfl, iteF (txt X H1' sm)⟩⟩⟩
    obtain ⟨i, rfl⟩ := q
    have d1' := d1.same sm
    refine ⟨_, rfl, iteT ⟨_, rfl, _, _, rfl, rfl, _, rfl, ite2 (fun e => ?_) (fun e => txt X H1' sm)⟩⟩
    refine ⟨_, rfl, _, rfl, _, rfl, _, rfl, _, rfl, _, _, rfl, rfl, (by show (6 : Nat) ≤ sizeLine; decide), fun L nL => ?_⟩
    have nLD := d1'.neD nL
    refine ⟨_, rfl, c, D, ns, t + 1, 6, rfl, d1'.upd (d1'.neC nL) nLD, by omega, by decide, by decide, fun v H2 v0 v1 d2 fr2 => ?_⟩
    obtain ⟨m, hm⟩ := pick6 (a := -1) (b := 1) (c := 2) (d := -2) (e := -i - 1) (f := 40) v0 v1
    refine ixL (by rw [fr2 _ nLD]; exact updS) hm ⟨_, _, rfl, rfl, ?_⟩
    exact k _ _ ((k1.trans (Kp.of_same sm)).trans ((Kp.new nL).trans (Kp.fr fr2))) (d2.le (by omega)) (.int _)
  rcases a1.tupC K with ⟨p, xs, rfl, np, hp, hz, hall⟩ | ⟨⟨ty, t1, t2⟩, hn⟩
  · -- a tuple zs made of these and others
    have fin : ∀ (q : Addr) (zs : List V) (H' : Hp) (t' : Nat), Kp D H1 H' → q ≠ D → H' q = some (.tup zs) → zs.length ≤ B + 1 → (∀ y ∈ zs, y ∈ xs ∨ Ad D (B + 1) H' y) → Dk c D ns t' H' → t' ≤ t + 3 * (n + 1) → Q (.ref q) H' := by
      intro q zs H' t' kk nq hq hz' hy dd ht'
      refine k _ _ (k1.trans kk) (dd.le ht') (.tup nq hq hz' fun y my => ?_)
      rcases hy y my with h | h
      · exact (hall y h).mono kk (by omega)
      · exact h
    have body : 0 < n → t_l_bent_one K n { nx := fun _ H' => Q .non H', rt := Q } [some (.ref D), some (.ref p), some (.int (((n + 1 : Nat) : Int) - 1)), some (.int road), none] H1 := by
      intro hn
      -- list(thing)
      refine ⟨_, rfl, rfl, _, rfl, ite2 (fun e => ?_) (fun e => ?_)⟩
      · refine ⟨_, rfl, p, xs, rfl, .inr (sqT hp), fun l nl => ?_⟩
        have nlD := d1.neD nl
        exact k _ _ (k1.trans (Kp.new nl)) ((d1.upd (d1.neC nl) nlD).le (by omega)) (.lst nlD updS (by omega) fun y hy => (hall y hy).mono (Kp.new nl) (by omega))
      -- an empty one
      refine ⟨_, rfl, lenT hp ⟨rfl, _, rfl, ite2 (fun e => ?_) (fun e => ?_)⟩⟩
      · refine ⟨_, rfl, c, D, ns, t + 1, rfl, d1, by omega, fun y H2 k2 d2 oy => ⟨by show (1 : Nat) ≤ sizeLine; decide, fun q nq => ?_⟩⟩
        have nqD := d2.neD nq
        refine fin q [y] _ (t + 1 + 1) (k2.trans (Kp.new nq)) nqD updS (by show (1 : Nat) ≤ B + 1; omega) (fun z hz => .inr ?_) (d2.upd (d2.neC nq) nqD) (by omega)
        rw [List.mem_singleton.mp hz]
        exact oy.mono (Kp.new nq) (by omega)
      have hpos : 0 < xs.length := by
        cases xs with
        | nil => exact absurd rfl e
        | cons _ _ => exact Nat.succ_pos _
      -- a place
      refine ⟨_, rfl, _, rfl, lenT hp ⟨c, D, ns, t + 1, _, rfl, d1, by omega, by omega, small100 (by omega), fun v H2 v0 v1 d2 fr2 => ?_⟩⟩
      obtain ⟨m, rfl⟩ := Int.eq_ofNat_of_zero_le v0
      have hm : m < xs.length := by omega
      have k2 : Kp D H1 H2 := Kp.fr fr2
      have hp2 : H2 p = some (.tup xs) := k2 _ _ hp np
      have hD2 := dk_some d2
      have s1 : ∀ d : Nat, HT.sIx xs.length d (some ((m : Int) + 1)) = min (m + 1) xs.length := fun d => HT.sIx_nat xs.length d (m + 1)
      have s2 : ∀ d : Nat, HT.sIx xs.length d (some ((m : Int) + 2)) = min (m + 2) xs.length := fun d => HT.sIx_nat xs.length d (m + 2)
      have s0 : ∀ d : Nat, HT.sIx xs.length d (some (m : Int)) = min m xs.length := fun d => HT.sIx_nat xs.length d m
      have sn : ∀ d : Nat, HT.sIx xs.length d none = d := fun d => HT.sIx_none xs.length d
      have dkp : ∀ {H' : Hp}, Same H2 H' → Dk c D ns (t + 1 + 1) H' := fun s => d2.same s
      -- one left out
      refine ⟨_, rfl, rfl, _, rfl, ite2 (fun e => ?_) (fun e => ?_)⟩
      · refine ⟨_, rfl, _, rfl, _, rfl, sl_step np hD2 hp2 fun q zs H3 w3 nq hq hlq mq => ?_⟩
        refine ⟨_, rfl, _, rfl, _, _, rfl, rfl, _, rfl, sl_stepN np (ne_same w3 hD2) (w3 _ _ hp2) fun q2 zs2 H4 w4 nq2 hq2 hlq2 mq2 => ?_⟩
        rw [s0, sn] at hlq
        rw [s1, sn] at hlq2
        refine cat_step nq nq2 (ne_same (w3.trans w4) hD2) (w4 _ _ hq) hq2 (by omega) fun r H5 w5 nr hr => ?_
        refine fin r _ H5 _ (k2.trans (Kp.of_same ((w3.trans w4).trans w5))) nr hr ?_ (fun y hy => .inl ?_) (dkp ((w3.trans w4).trans w5)) (by omega)
        · rw [List.length_append]
          omega
        · rcases List.mem_append.mp hy with hy | hy
          · exact mq y hy
          · exact mq2 y hy
      -- one twice
      refine ⟨_, rfl, rfl, _, rfl, ite2 (fun e => ?_) (fun e => ?_)⟩
      · refine ⟨_, rfl, _, rfl, _, _, rfl, rfl, _, rfl, sl_step np hD2 hp2 fun q zs H3 w3 nq hq hlq mq => ?_⟩
        refine ⟨_, rfl, _, rfl, _, rfl, sl_stepN np (ne_same w3 hD2) (w3 _ _ hp2) fun q2 zs2 H4 w4 nq2 hq2 hlq2 mq2 => ?_⟩
        rw [s1, sn] at hlq
        rw [s0, sn] at hlq2
        refine cat_step nq nq2 (ne_same (w3.trans w4) hD2) (w4 _ _ hq) hq2 (by omega) fun r H5 w5 nr hr => ?_
        refine fin r _ H5 _ (k2.trans (Kp.of_same ((w3.trans w4).trans w5))) nr hr ?_ (fun y hy => .inl ?_) (dkp ((w3.trans w4).trans w5)) (by omega)
        · rw [List.length_append]
          omega
        · rcases List.mem_append.mp hy with hy | hy
          · exact mq y hy
          · exact mq2 y hy
      have hat : atI xs (m : Int) = some xs[m] := atI_nat (List.getElem?_eq_getElem hm)
      -- two turned about
      refine ⟨_, rfl, rfl, _, rfl, ite2 (fun e => ?_) (fun e => ?_)⟩
      · refine ⟨_, rfl, _, rfl, _, rfl, sl_step np hD2 hp2 fun q zs H3 w3 nq hq hlq mq => ?_⟩
        refine ⟨_, rfl, _, rfl, _, _, rfl, rfl, _, rfl, _, rfl, _, _, rfl, rfl, _, rfl, sl_step np (ne_same w3 hD2) (w3 _ _ hp2) fun q2 zs2 H4 w4 nq2 hq2 hlq2 mq2 => ?_⟩
        rw [s0, sn] at hlq
        rw [s1, s2] at hlq2
        refine cat_step nq nq2 (ne_same (w3.trans w4) hD2) (w4 _ _ hq) hq2 (by omega) fun r H5 w5 nr hr => ?_
        have w25 := (w3.trans w4).trans w5
        refine ⟨_, rfl, _, rfl, ixT (w25 _ _ hp2) hat ⟨by show (1 : Nat) ≤ sizeLine; decide, fun u nu => ?_⟩⟩
        have w6 := samNw (o := .tup [xs[m]]) nu
        have nuD := ne_new (ne_same w25 hD2) nu
        have w26 := w25.trans w6
        refine cat_step nr nuD (ne_same w26 hD2) (w6 _ _ hr) updS (by rw [List.length_append]; show _ + 1 ≤ _; omega) fun v H7 w7 nv hv => ?_
        have w27 := w26.trans w7
        refine ⟨_, rfl, _, rfl, _, _, rfl, rfl, _, rfl, sl_stepN np (ne_same w27 hD2) (w27 _ _ hp2) fun q3 zs3 H8 w8 nq3 hq3 hlq3 mq3 => ?_⟩
        rw [s2, sn] at hlq3
        have w28 := w27.trans w8
        refine cat_step nv nq3 (ne_same w28 hD2) (w8 _ _ hv) hq3 (by rw [List.length_append, List.length_append]; show _ + 1 + _ ≤ _; omega) fun g H9 w9 ng hg => ?_
        refine fin g _ H9 _ (k2.trans (Kp.of_same (w28.trans w9))) ng hg ?_ (fun y hy => .inl ?_) (dkp (w28.trans w9)) (by omega)
        · rw [List.length_append, List.length_append, List.length_append]
          show _ + 1 + _ ≤ _
          omega
        · rcases List.mem_append.mp hy with hy | hy
          · rcases List.mem_append.mp hy with hy | hy
            · rcases List.mem_append.mp hy with hy | hy
              · exact mq y hy
              · exact mq2 y hy
            · rw [List.mem_singleton.mp hy]
              exact List.getElem_mem hm
          · exact mq3 y hy
      -- one bent
      refine ⟨_, rfl, _, rfl, _, rfl, sl_step np hD2 hp2 fun q zs H3 w3 nq hq hlq mq => ?_⟩
      rw [s0, sn] at hlq
      have k3 : Kp D H1 H3 := k2.trans (Kp.of_same w3)
      refine ⟨_, rfl, _, rfl, _, rfl, ixT (w3 _ _ hp2) hat ⟨_, rfl, _, _, rfl, rfl, c, D, ns, t + 1 + 1, xs[m], B, ?_, hn, dkp w3, by omega, (hall _ (List.getElem_mem hm)).mono k3 (Nat.le_refl _), hB0, hB1, fun y H4 k4 d4 oy => ?_⟩⟩
      · show [V.ref D, xs[m], V.int (((n + 1 : Nat) : Int) - 1 - 1)] = _
        rw [show (((n + 1 : Nat) : Int) - 1 - 1) = (n : Int) - 1 by omega]
      have hD4 := dk_some d4
      refine ⟨by show (1 : Nat) ≤ sizeLine; decide, fun u nu => ?_⟩
      have nuD := d4.neD nu
      have w5 := samNw (o := .tup [y]) nu
      refine cat_step nq nuD (ne_same w5 hD4) (w5 _ _ (k4 _ _ hq nq)) updS (by show _ + 1 ≤ _; omega) fun v H6 w6 nv hv => ?_
      have w46 := w5.trans w6
      refine ⟨_, rfl, _, rfl, _, _, rfl, rfl, _, rfl, sl_stepN np (ne_same w46 hD4) (w46 _ _ (k4 _ _ (w3 _ _ hp2) np)) fun q3 zs3 H7 w7 nq3 hq3 hlq3 mq3 => ?_⟩
      rw [s1, sn] at hlq3
      have w47 := w46.trans w7
      refine cat_step nv nq3 (ne_same w47 hD4) (w7 _ _ hv) hq3 (by rw [List.length_append]; show _ + 1 + _ ≤ _; omega) fun g H8 w8 ng hg => ?_
      have w48 := w47.trans w8
      refine fin g _ H8 _ (k3.trans (k4.trans (Kp.of_same w48))) ng hg ?_ (fun y' hy => ?_) (d4.same w48) (by omega)
      · rw [List.length_append, List.length_append]
        show _ + 1 + _ ≤ _
        omega
      · rcases List.mem_append.mp hy with hy | hy
        · rcases List.mem_append.mp hy with hy | hy
          · exact .inl (mq y' hy)
          · rw [List.mem_singleton.mp hy]
            exact .inr (oy.mono (Kp.of_same w48) (Nat.le_refl _))
        · exact .inl (mq3 y' hy)
    refine ⟨_, rfl, rfl, _, rfl, ite2 (fun e => fst _) (fun e => ?_)⟩
    refine ⟨_, rfl, rfl, _, rfl, ite2 (fun e2 => fst _) (fun e2 => ?_)⟩
    refine ⟨_, rfl, isi (.base (.tup hp)) k_tt ⟨_, rfl, ?_⟩⟩
    refine iteF (body ?_)
    cases n with
    | zero => exact absurd rfl e
    | succ n => exact Nat.succ_pos _
  · refine ⟨_, rfl, rfl, _, rfl, ite2 (fun e => fst _) (fun e => ?_)⟩
    refine ⟨_, rfl, rfl, _, rfl, ite2 (fun e => fst _) (fun e => ?_)⟩
    refine ⟨_, rfl, isi t1 t2 ⟨_, rfl, iteT (fst _)⟩⟩
theorem pure_l_spoiled {K : PySem.W.Frag} {vs : List V} {H : Hp} {Q : VK} {E : XK} (h : sp_l_spoiled K vs H Q E) : t_l_spoiled K { nx := fun _ H' => Q .non H', rt := Q } (start N_l_spoiled vs) H := by
  obtain ⟨c, D, ns, t, x, i, rfl, dk, ht, o, i0, i1, k⟩ := h
  refine ⟨_, rfl, _, rfl, by omega, by omega, ?_⟩
  refine for_range (lo := 0) (n := i.toNat) (fun j σ H' => ∃ x z3, σ = [some (.ref D), some x, some (.int i), z3] ∧ Kp D H H' ∧ Dk c D ns (t + 15 * j) H' ∧ Ad D (41 + j) H' x) ⟨x, none, rfl, Kp.refl _ _, dk, o⟩ ?_ ?_
  · rintro j σ H1 hj ⟨x, z3, rfl, k1, d1, o1⟩
    refine ⟨_, rfl, _, rfl, c, D, ns, _, x, 41 + j, rfl, by decide, d1, by omega, o1, by omega, by omega, fun x' H2 k2 d2 o2 => ⟨x', _, rfl, k1.trans k2, d2.le (by omega), o2⟩⟩
  · rintro σ H1 ⟨x, z3, rfl, k1, d1, o1⟩
    exact ⟨_, rfl, k x H1 k1 (d1.le (by omega)) (o1.mono (Kp.refl _ _) (by omega))⟩
end Fw

set_option Elab.async false
set_option linter.all false
set_option maxRecDepth 100000
set_option maxHeartbeats 4000000
namespace Fw
open PySem L2 RZ RT
def sp_l_is_lineA (_ : PySem.W.Frag) : Sp := fun vs H Q _ => ∃ (x : V) (D : Addr) (B : Nat), vs = [x] ∧ Ad D B H x ∧ B ≤ 1000 ∧ Yn (Row x) H Q
def sp_l_sizeA (_ : PySem.W.Frag) : Sp := fun vs H Q _ => ∃ (x : V) (D : Addr) (B : Nat), vs = [x] ∧ Ad D B H x ∧ B ≤ 1000 ∧ (∀ a p, x = .ref a → PcAt H a p → p.ok → ∀ H', Same H H' → Q (.int (p.n : Int)) H') ∧ (¬ Pie H x → ∀ H', Same H H' → Q (.int 0) H')
def sp_l_is_scriptA (_ : PySem.W.Frag) : Sp := fun vs H Q _ => ∃ (x : V) (D : Addr) (B : Nat), vs = [x] ∧ Ad D B H x ∧ B ≤ 1000 ∧ Yn (Scr H x) H Q
def sp_l_fitsA (_ : PySem.W.Frag) : Sp := fun vs H Q _ => ∃ (M : Addr) (bs : List Str) (x : V) (D : Addr) (B : Nat), vs = [.ref M, x] ∧ RwAt H M bs ∧ Ad D B H x ∧ B ≤ 1000 ∧ Yn (Fit H x bs.length) H Q
section
variable {K : PySem.W.Frag} {vs : List V} {H : Hp} {Q : VK} {E : XK}
theorem len_l_is_lineA (h : sp_l_is_lineA K vs H Q E) : vs.length = 1 := by obtain ⟨_, _, _, rfl, _⟩ := h; rfl
theorem len_l_sizeA (h : sp_l_sizeA K vs H Q E) : vs.length = 1 := by obtain ⟨_, _, _, rfl, _⟩ := h; rfl
theorem len_l_is_scriptA (h : sp_l_is_scriptA K vs H Q E) : vs.length = 1 := by obtain ⟨_, _, _, rfl, _⟩ := h; rfl
theorem len_l_fitsA (h : sp_l_fitsA K vs H Q E) : vs.length = 2 := by obtain ⟨_, _, _, _, _, rfl, _⟩ := h; rfl
end
abbrev N_l_is_lineA : List Str := ["_law_thing", "_law_sign"]
def t_l_is_lineA (K : PySem.W.Frag) : TS := (tSeq (tIfS (tOr (tNot (tB (tCB (rIsi K) (tCons (tVar 0) (tCons (tC (.ty "str")) tNil))))) (tTest (tOp rGtI (tCB (fLen K) (tCons (tVar 0) tNil)) (tC (.int 40))))) (tRet (tC (.bl false))) tNext)
    (tSeq (tFor (iStr (tVar 0)) (gName 1) (tIfS (tOr (tTest (tOp rLtS (tVar 1) (tC (.str " ")))) (tTest (tOp rGtS (tVar 1) (tC (.str "~"))))) (tRet (tC (.bl false))) tNext))
    (tRet (tC (.bl true)))))
abbrev N_l_sizeA : List Str := ["_law_piece", "_law_line"]
def t_l_sizeA_rows (K : PySem.W.Frag) : TS := (tSeq (tFor (iTup K (tOp (rIx K) (tVar 0) (tC (.int 1)))) (gName 1) (tIfS (tNot (tB (tCall (sp_l_is_lineA K) [] E0 (tCons (tVar 1) tNil)))) (tRet (tC (.int 0))) tNext))
    (tRet (tCB (fLen K) (tCons (tOp (rIx K) (tVar 0) (tC (.int 1))) tNil))))
def t_l_sizeA_put (K : PySem.W.Frag) : TS := (tSeq (tIfS (tOr (tTest (tOp rNe (tOp (rIx K) (tVar 0) (tC (.int 0))) (tC (.str "put")))) (tOr (tTest (tOp rNe (tCB (fLen K) (tCons (tVar 0) tNil)) (tC (.int 2)))) (tNot (tB (tCB (rIsi K) (tCons (tOp (rIx K) (tVar 0) (tC (.int 1))) (tCons (tC (.ty "tuple")) tNil))))))) (tRet (tC (.int 0))) tNext)
    (t_l_sizeA_rows K))
def t_l_sizeA_take (K : PySem.W.Frag) : TS := (tSeq (tIfS (tAnd (tTest (tOp rEq (tOp (rIx K) (tVar 0) (tC (.int 0))) (tC (.str "take")))) (tAnd (tTest (tOp rEq (tCB (fLen K) (tCons (tVar 0) tNil)) (tC (.int 3)))) (tAnd (tB (tCall (sp_l_intA K) [] E0 (tCons (tOp (rIx K) (tVar 0) (tC (.int 1))) tNil))) (tB (tCall (sp_l_intA K) [] E0 (tCons (tOp (rIx K) (tVar 0) (tC (.int 2))) tNil)))))) (tSeq (tIfS (tAnd (tTest (tOp rGeI (tOp (rIx K) (tVar 0) (tC (.int 1))) (tC (.int 0)))) (tTest (tOp rGeI (tOp (rIx K) (tVar 0) (tC (.int 2))) (tC (.int 1))))) (tRet (tOp (rIx K) (tVar 0) (tC (.int 2)))) tNext)
    (tRet (tC (.int 0)))) tNext)
    (t_l_sizeA_put K))
def t_l_sizeA (K : PySem.W.Frag) : TS := (tSeq (tIfS (tOr (tNot (tB (tCB (rIsi K) (tCons (tVar 0) (tCons (tC (.ty "tuple")) tNil))))) (tOr (tTest (tOp rLtI (tCB (fLen K) (tCons (tVar 0) tNil)) (tC (.int 2)))) (tNot (tB (tCB (rIsi K) (tCons (tOp (rIx K) (tVar 0) (tC (.int 0))) (tCons (tC (.ty "str")) tNil))))))) (tRet (tC (.int 0))) tNext)
    (t_l_sizeA_take K))
abbrev N_l_is_scriptA : List Str := ["_law_thing", "_law_total", "_law_piece"]
def t_l_is_scriptA (K : PySem.W.Frag) : TS := (tSeq (tIfS (tNot (tB (tCB (rIsi K) (tCons (tVar 0) (tCons (tC (.ty "tuple")) tNil))))) (tRet (tC (.bl false))) tNext)
    (tSeq (tAsg (tC (.int 0)) (gName 1))
    (tSeq (tFor (iTup K (tVar 0)) (gName 2) (tSeq (tIfS (tTest (tOp rEq (tCall (sp_l_sizeA K) [] E0 (tCons (tVar 2) tNil)) (tC (.int 0)))) (tRet (tC (.bl false))) tNext)
    (tAsg (tOp rAddI (tVar 1) (tCall (sp_l_sizeA K) [] E0 (tCons (tVar 2) tNil))) (gName 1))))
    (tRet (tOp rLeI (tVar 1) (tC (.int 40)))))))
abbrev N_l_fitsA : List Str := ["_law_base", "_law_thing", "_law_piece"]
def t_l_fitsA (K : PySem.W.Frag) : TS := (tSeq (tIfS (tNot (tB (tCall (sp_l_is_scriptA K) [] E0 (tCons (tVar 1) tNil)))) (tRet (tC (.bl false))) tNext)
    (tSeq (tFor (iTup K (tVar 1)) (gName 2) (tIfS (tAnd (tTest (tOp rEq (tOp (rIx K) (tVar 2) (tC (.int 0))) (tC (.str "take")))) (tTest (tOp rGtI (tOp rAddI (tOp (rIx K) (tVar 2) (tC (.int 1))) (tOp (rIx K) (tVar 2) (tC (.int 2)))) (tCB (fLen K) (tCons (tVar 0) tNil))))) (tRet (tC (.bl false))) tNext))
    (tRet (tC (.bl true)))))
theorem lt_blank (c : Nat) : decide ((⟨#[c]⟩ : Str).cps.toList < (" " : Str).cps.toList) = decide (c < 32) := by
  have h := le_blank c
  by_cases q : 32 ≤ c
  · rw [decide_eq_true q] at h
    rw [decide_eq_false (show ¬ c < 32 by omega)]
    cases e : decide ((⟨#[c]⟩ : Str).cps.toList < (" " : Str).cps.toList) with
    | false => rfl
    | true => rw [e] at h; cases h
  · rw [decide_eq_false q] at h
    rw [decide_eq_true (show c < 32 by omega)]
    cases e : decide ((⟨#[c]⟩ : Str).cps.toList < (" " : Str).cps.toList) with
    | true => rfl
    | false => rw [e] at h; cases h
theorem gt_til (c : Nat) : decide (("~" : Str).cps.toList < (⟨#[c]⟩ : Str).cps.toList) = decide (126 < c) := by
  have h := le_til c
  by_cases q : c ≤ 126
  · rw [decide_eq_true q] at h
    rw [decide_eq_false (show ¬ 126 < c by omega)]
    cases e : decide (("~" : Str).cps.toList < (⟨#[c]⟩ : Str).cps.toList) with
    | false => rfl
    | true => rw [e] at h; cases h
  · rw [decide_eq_false q] at h
    rw [decide_eq_true (show 126 < c by omega)]
    cases e : decide (("~" : Str).cps.toList < (⟨#[c]⟩ : Str).cps.toList) with
    | true => rfl
    | false => rw [e] at h; cases h
section
variable {K : PySem.W.Frag} {vs : List V} {H : Hp} {Q : VK} {E : XK}
theorem pure_l_is_lineA (h : sp_l_is_lineA K vs H Q E) : t_l_is_lineA K { nx := fun _ H' => Q .non H', rt := Q } (start N_l_is_lineA vs) H := by
  obtain ⟨x, D, B, rfl, a, hB, y⟩ := h
  rcases a.strC K with ⟨z, rfl, tz⟩ | ⟨⟨ty, t1, t2⟩, hn⟩
  · have l1 := tz.1
    refine ⟨_, rfl, isi (.base (.str z)) k_ss ⟨_, rfl, iteF ⟨_, rfl, lenS (show z.cps.size ≤ 1000 by omega) ⟨_, _, rfl, rfl, _, rfl, ?_⟩⟩⟩⟩
    have nr : (z.cps.size ≤ 40 → ¬ ∀ c ∈ z.cps.toList, OkC c) → ¬ Row (.str z) := by
      rintro k ⟨w, e, o⟩
      injection e with e
      subst e
      exact k o.1 o.2
    by_cases l40 : (40 : Int) < ((z.length : Nat) : Int)
    · rw [decide_eq_true l40]
      refine iteT (y.no (nr fun k => ?_))
      have l40 : (40 : Int) < ((z.cps.size : Nat) : Int) := l40
      omega
    · rw [decide_eq_false l40]
      have l40 : ¬ (40 : Int) < ((z.cps.size : Nat) : Int) := l40
      refine iteF ⟨_, rfl, z, rfl, for_it walk_str (fun i σ H' => (H' = H ∧ ∃ w, σ = [some (.str z), w]) ∧ ∀ c ∈ z.cps.toList.take i, OkC c) ⟨⟨rfl, none, rfl⟩, fun c hc => by rw [List.take_zero] at hc; cases hc⟩ (fun _ _ _ _ _ => True.intro) ?_ ?_⟩
      · rintro i x σ H' H'' hi ⟨⟨rfl, w, rfl⟩, ok⟩ ⟨rfl, c, hc, rfl⟩
        have hc2 : z.cps.toList[i]? = some c := by rw [Array.getElem?_toList]; exact hc
        have hm : c ∈ z.cps.toList := List.mem_of_getElem? hc2
        refine ⟨_, rfl, _, _, rfl, rfl, _, rfl, ?_⟩
        rw [lt_blank]
        by_cases h1 : c < 32
        · rw [decide_eq_true h1]
          exact iteT (iteT (y.no (nr fun _ k => by have := (k c hm).1; omega)))
        · rw [decide_eq_false h1]
          refine iteF ⟨_, rfl, _, _, rfl, rfl, _, rfl, ?_⟩
          rw [gt_til]
          by_cases h2 : 126 < c
          · rw [decide_eq_true h2]
            exact iteT (y.no (nr fun _ k => by have := (k c hm).2.1; omega))
          · rw [decide_eq_false h2]
            refine iteF ⟨⟨rfl, _, rfl⟩, fun d hd => ?_⟩
            rw [List.take_add_one, hc2] at hd
            rcases List.mem_append.mp hd with hd | hd
            · exact ok d hd
            · rw [List.mem_singleton.mp hd]
              exact ⟨by omega, by omega, tz.2 c hm⟩
      · rintro σ H' ⟨⟨rfl, w, rfl⟩, ok⟩
        rw [List.take_of_length_le (by rw [Array.length_toList]; exact Nat.le_refl _)] at ok
        exact y.yes ⟨z, rfl, by omega, ok⟩
  · exact ⟨_, rfl, isi t1 t2 ⟨_, rfl, iteT (iteT (y.no (by rintro ⟨z, e, _⟩; exact hn z e)))⟩⟩
/-- the put of _law_size -/
theorem size_put {a : Addr} {z0 : Str} {r : List V} {D : Addr} {B : Nat} {H1 : Hp} (s1 : Same H H1) (ha : H a = some (.tup (.str z0 :: r))) (hB : B ≤ 1000) (hx : ∀ y ∈ V.str z0 :: r, Ad D B H y)
    (hno : ∀ b m, z0 = "take" → r = [.int b, .int m] → False) (ky : ∀ p, PcAt H a p → p.ok → ∀ H', Same H H' → Q (.int (p.n : Int)) H') (kn : ¬ Pie H (.ref a) → ∀ H', Same H H' → Q (.int 0) H') :
    t_l_sizeA_put K { nx := fun _ H' => Q .non H', rt := Q } [some (.ref a), none] H1 := by
  have ha1 := s1 _ _ ha
  have noP : (∀ q rs, z0 = "put" → r = [.ref q] → ¬ (RwAt H q rs ∧ rs ≠ [] ∧ ∀ z ∈ rs, OkS z)) → ¬ Pie H (.ref a) := by
    rintro k ⟨b, p, e, hp, ok⟩
    injection e with e
    subst e
    cases p with
    | take b m =>
      have e := tup_inj ha hp
      injection e with e1 e2
      injection e1 with e1
      exact hno _ _ e1 e2
    | put rs =>
      obtain ⟨q, h3, h4⟩ := hp
      have e := tup_inj ha h3
      injection e with e1 e2
      injection e1 with e1
      exact k q rs e1 e2 ⟨h4, ok.1, ok.2⟩
  refine ⟨_, rfl, ixT ha1 at0 ⟨rfl, _, rfl, ?_⟩⟩
  by_cases e0 : z0 = "put"
  · subst e0
    rw [decide_eq_true rfl]
    refine iteF ⟨_, rfl, lenT ha1 ⟨rfl, _, rfl, ?_⟩⟩
    by_cases l2 : r.length = 1
    · match r, l2 with
      | [d], _ =>
        refine iteF ⟨_, rfl, ixT ha1 rfl ?_⟩
        have ad := hx d (by simp)
        rcases ad.tupC K with ⟨q, xs, rfl, nq, hq, hz, hall⟩ | ⟨⟨ty, t1, t2⟩, hn⟩
        · have hq1 := s1 _ _ hq
          refine isi (.base (.tup hq1)) k_tt ⟨_, rfl, iteF ?_⟩
          show t_l_sizeA_rows K { nx := fun _ H' => Q .non H', rt := Q } [some (.ref a), none] H1
          refine ⟨_, rfl, ixT ha1 rfl ⟨q, rfl, ⟨_, sqT hq1⟩, for_tup (K := K) (a := q) (xs := xs) (fun i σ H' => (Same H1 H' ∧ ∃ w, σ = [some (.ref a), w]) ∧ ∀ x ∈ xs.take i, Row x) ⟨⟨Same.refl _, none, rfl⟩, fun c hc => by rw [List.take_zero] at hc; cases hc⟩ (fun _ _ _ _ p => sqT (p.1.1 _ _ hq1)) ?_ ?_⟩⟩
          · rintro i x σ H' hxi ⟨⟨s2, w, rfl⟩, ok⟩
            have s12 := s1.trans s2
            have mx : x ∈ xs := List.mem_of_getElem? hxi
            refine ⟨_, rfl, x, D, B, rfl, (hall x mx).same s12, hB, fun p H3 s3 => ⟨_, rfl, iteF ⟨⟨s2.trans s3, _, rfl⟩, fun d hd => ?_⟩⟩, fun p H3 s3 => ⟨_, rfl, iteT (kn (noP ?_) _ (s12.trans s3))⟩⟩
            · rw [List.take_add_one, hxi] at hd
              rcases List.mem_append.mp hd with hd | hd
              · exact ok d hd
              · rw [List.mem_singleton.mp hd]
                exact p
            · rintro q2 rs _ e2 ⟨hr, _, okr⟩
              injection e2 with e2
              injection e2 with e2
              subst e2
              rw [tup_inj hq hr] at mx
              obtain ⟨z, hz2, rfl⟩ := List.mem_map.mp mx
              exact p ⟨z, rfl, okr z hz2⟩
          · rintro σ H' ⟨⟨s2, w, rfl⟩, ok⟩
            rw [List.take_of_length_le (Nat.le_refl _)] at ok
            obtain ⟨rs, rfl, okr⟩ := rows_of ok
            refine ⟨_, rfl, ixT (s2 _ _ ha1) rfl (lenT (s2 _ _ hq1) ?_)⟩
            rw [List.length_map]
            by_cases h0 : rs = []
            · subst h0
              refine kn (noP ?_) _ (s1.trans s2)
              rintro q2 rs _ e2 ⟨hr, hne, _⟩
              injection e2 with e2
              injection e2 with e2
              subst e2
              have := str_inj (tup_inj hq hr)
              exact hne this.symm
            · exact ky (.put rs) ⟨q, ha, hq⟩ ⟨h0, okr⟩ _ (s1.trans s2)
        · obtain ⟨ty', t1', t2'⟩ : ∃ ty, TyX K H1 d (.type ty) ∧ kitB ty "tuple" = some false := by
            rcases (ad.same s1).tupC K with ⟨q, xs, rfl, nq, hq, hz, hall⟩ | ⟨h, _⟩
            · exact absurd (ad.back s1 hq).1 (hn _ _ rfl)
            · exact h
          refine isi t1' t2' ⟨_, rfl, iteT (kn (noP ?_) _ s1)⟩
          rintro q2 rs _ e2 ⟨hr, _, _⟩
          injection e2 with e2
          exact hn _ _ e2 hr
    · rw [decide_eq_false (show ¬ V.int (((V.str "put" :: r).length : Nat) : Int) = V.int 2 by intro e; injection e with e; rw [List.length_cons] at e; omega)]
      refine iteT (iteT (kn (noP ?_) _ s1))
      rintro q2 rs _ e2
      rw [e2] at l2
      exact absurd rfl l2
  · rw [decide_eq_false (show ¬ V.str z0 = V.str "put" by intro e; injection e with e; exact e0 e)]
    refine iteT (iteT (kn (noP ?_) _ s1))
    rintro q2 rs e2
    exact absurd e2 e0
end
end Fw

set_option Elab.async false
set_option linter.all false
set_option maxRecDepth 100000
set_option maxHeartbeats 4000000
namespace Fw
open PySem L2 RZ RT
section
variable {K : PySem.W.Frag} {vs : List V} {H : Hp} {Q : VK} {E : XK}
theorem pure_l_sizeA (h : sp_l_sizeA K vs H Q E) : t_l_sizeA K { nx := fun _ H' => Q .non H', rt := Q } (start N_l_sizeA vs) H := by
  obtain ⟨x, D, B, rfl, a, hB, ky, kn⟩ := h
  rcases a.tupC K with ⟨p, xs, rfl, n, hp, hz, hall⟩ | ⟨⟨ty, t1, t2⟩, hn⟩
  · refine ⟨_, rfl, isi (.base (.tup hp)) k_tt ⟨_, rfl, iteF ⟨_, rfl, lenT hp ⟨_, _, rfl, rfl, _, rfl, ?_⟩⟩⟩⟩
    have noW : (∀ w r, xs = .str w :: r → 2 ≤ xs.length → False) → ¬ Pie H (.ref p) := by
      rintro k ⟨b, q, e, hq, ok⟩
      injection e with e
      subst e
      cases q with
      | take b m =>
        have e := tup_inj hp hq
        exact k _ _ e (by rw [e]; show (2 : Nat) ≤ 3; decide)
      | put rs =>
        obtain ⟨q, h3, h4⟩ := hq
        have e := tup_inj hp h3
        exact k _ _ e (by rw [e]; show (2 : Nat) ≤ 2; decide)
    by_cases l2 : ((xs.length : Nat) : Int) < 2
    · rw [decide_eq_true l2]
      exact iteT (iteT (kn (noW fun w r e h => by omega) _ (Same.refl _)))
    · rw [decide_eq_false l2]
      match xs with
      | [] => exact absurd (show ((([] : List V).length : Nat) : Int) < 2 by decide) l2
      | x0 :: r =>
        refine iteF ⟨_, rfl, ixT hp at0 ?_⟩
        rcases (hall x0 List.mem_cons_self).strC K with ⟨z0, rfl, tz⟩ | ⟨⟨ty, t1, t2⟩, hn⟩
        · refine isi (.base (.str z0)) k_ss ⟨_, rfl, iteF ?_⟩
          -- the take
          show t_l_sizeA_take K { nx := fun _ H' => Q .non H', rt := Q } [some (.ref p), none] H
          have put : ∀ H1, Same H H1 → (∀ b m, z0 = "take" → r = [.int b, .int m] → False) → t_l_sizeA_put K { nx := fun _ H' => Q .non H', rt := Q } [some (.ref p), none] H1 := fun H1 s1 hno =>
            size_put s1 hp hB hall hno (fun q hq ok => ky p q rfl hq ok) kn
          refine ⟨_, rfl, ixT hp at0 ⟨rfl, _, rfl, ?_⟩⟩
          by_cases e0 : z0 = "take"
          · subst e0
            rw [decide_eq_true rfl]
            refine iteT ⟨_, rfl, lenT hp ⟨rfl, _, rfl, ?_⟩⟩
            by_cases l3 : (V.str "take" :: r).length = 3
            · rw [decide_eq_true (show V.int (((V.str "take" :: r).length : Nat) : Int) = V.int 3 by rw [l3]; rfl)]
              match r, l3 with
              | [u, v], _ =>
                refine iteT ⟨_, rfl, ixT hp rfl ⟨u, D, B, rfl, hall u (by simp), Yn.x ⟨fun q H1 s1 => ?_, fun q H1 s1 => ?_⟩⟩⟩
                · obtain ⟨i, rfl⟩ := q
                  refine ⟨_, rfl, iteT ⟨_, rfl, ixT (s1 _ _ hp) rfl ⟨v, D, B, rfl, (hall v (by simp)).same s1, Yn.x ⟨fun q H2 s2 => ?_, fun q H2 s2 => ?_⟩⟩⟩⟩
                  · obtain ⟨j, rfl⟩ := q
                    have s12 := s1.trans s2
                    have noT : ¬ (0 ≤ i ∧ 1 ≤ j) → ¬ Pie H (.ref p) := by
                      rintro k ⟨b, q, e, hq, ok⟩
                      injection e with e
                      subst e
                      cases q with
                      | take b m =>
                        have e := tup_inj hp hq
                        injection e with _ e
                        injection e with e1 e
                        injection e with e2 _
                        injection e1 with e1
                        injection e2 with e2
                        have ok : 1 ≤ m := ok
                        exact k ⟨by omega, by omega⟩
                      | put rs =>
                        obtain ⟨q, h3, h4⟩ := hq
                        have e := tup_inj hp h3
                        injection e with e _
                        injection e with e
                        exact take_ne e
                    refine ⟨_, rfl, iteT ?_⟩
                    refine ⟨_, rfl, ixT (s12 _ _ hp) rfl ⟨_, _, rfl, rfl, _, rfl, ?_⟩⟩
                    by_cases i0 : 0 ≤ i
                    · rw [decide_eq_true i0]
                      refine iteT ⟨_, rfl, ixT (s12 _ _ hp) rfl ⟨_, _, rfl, rfl, _, rfl, ?_⟩⟩
                      by_cases j1 : 1 ≤ j
                      · rw [decide_eq_true j1]
                        obtain ⟨b, rfl⟩ := Int.eq_ofNat_of_zero_le i0
                        obtain ⟨m, rfl⟩ := Int.eq_ofNat_of_zero_le (show (0 : Int) ≤ j by omega)
                        exact iteT ⟨_, rfl, ixT (s12 _ _ hp) rfl (ky p (.take b m) rfl hp (show 1 ≤ m by omega) _ s12)⟩
                      · rw [decide_eq_false j1]
                        exact iteF (kn (noT fun k => j1 k.2) _ s12)
                    · rw [decide_eq_false i0]
                      exact iteF (iteF (kn (noT fun k => i0 k.1) _ s12))
                  · refine ⟨_, rfl, iteF (put H2 (s1.trans s2) fun b m _ e => ?_)⟩
                    injection e with _ e
                    injection e with e _
                    exact q ⟨m, e⟩
                · refine ⟨_, rfl, iteF (iteF (put H1 s1 fun b m _ e => ?_))⟩
                  injection e with e _
                  exact q ⟨b, e⟩
            · rw [decide_eq_false (show ¬ V.int (((V.str "take" :: r).length : Nat) : Int) = V.int 3 by intro e; injection e with e; omega)]
              refine iteF (iteF (put H (Same.refl _) fun b m _ e => ?_))
              rw [e] at l3
              exact l3 rfl
          · rw [decide_eq_false (show ¬ V.str z0 = V.str "take" by intro e; injection e with e; exact e0 e)]
            exact iteF (iteF (put H (Same.refl _) fun b m e _ => e0 e))
        · refine isi t1 t2 ⟨_, rfl, iteT (kn (noW fun w r2 e _ => ?_) _ (Same.refl _))⟩
          injection e with e _
          exact hn w e
  · refine ⟨_, rfl, isi t1 t2 ⟨_, rfl, iteT (iteT (kn ?_ _ (Same.refl _)))⟩⟩
    rintro ⟨b, q, e, hq, ok⟩
    cases q with
    | take b m => exact hn _ _ e hq
    | put rs => obtain ⟨q, h3, h4⟩ := hq; exact hn _ _ e h3
theorem pure_l_is_scriptA (h : sp_l_is_scriptA K vs H Q E) : t_l_is_scriptA K { nx := fun _ H' => Q .non H', rt := Q } (start N_l_is_scriptA vs) H := by
  obtain ⟨x, D, B, rfl, a, hB, y⟩ := h
  rcases a.tupC K with ⟨p, xs, rfl, n, hp, hz, hall⟩ | ⟨⟨ty, t1, t2⟩, hn⟩
  · refine ⟨_, rfl, isi (.base (.tup hp)) k_tt ⟨_, rfl, iteF ⟨_, rfl, p, rfl, ⟨_, sqT hp⟩, ?_⟩⟩⟩
    refine for_tup (K := K) (a := p) (xs := xs) (fun i σ H' => Same H H' ∧ ∃ z as ps, xs.take i = as.map V.ref ∧ PsAt H as ps ∧ (∀ p ∈ ps, p.ok) ∧ σ = [some (.ref p), some (.int ((total ps : Nat) : Int)), z]) ⟨Same.refl _, none, [], [], by rw [List.take_zero]; rfl, .nil, (fun p hp => by cases hp), rfl⟩ (fun i σ H' _ p => sqT (p.1 _ _ hp)) ?_ ?_
    · rintro i x σ H1 hx ⟨s1, z, as, ps, hxs, hps, ok, rfl⟩
      have mx := List.mem_of_getElem? hx
      have ax := hall x mx
      refine ⟨_, rfl, x, D, B, rfl, ax.same s1, hB, fun c q ex hq okq H2 s2 => ?_, fun nq H2 s2 => ?_⟩
      · subst ex
        have q1 := Pc.one okq
        have hq0 := hq.back ax s1
        refine ⟨rfl, _, rfl, ?_⟩
        rw [decide_eq_false (show ¬ V.int (q.n : Int) = V.int 0 by intro e; injection e with e; omega)]
        refine iteF ⟨_, rfl, _, rfl, .ref c, D, B, rfl, ax.same (s1.trans s2), hB, fun c2 q2 ec hq2 okq2 H3 s3 => ?_, fun nq H3 s3 => ?_⟩
        · injection ec with ec
          subst ec
          have e : q2 = q := PcAt.inj (hq2.back ax (s1.trans s2)) hq0
          subst e
          refine ⟨_, _, rfl, rfl, (s1.trans s2).trans s3, some (.ref c), as ++ [c], ps ++ [q2], ?_, hps.snoc hq0, fun p hp => ?_, ?_⟩
          · rw [List.take_add_one, hx, hxs, List.map_append]
            rfl
          · rcases List.mem_append.mp hp with hp | hp
            · exact ok p hp
            · rw [List.mem_singleton.mp hp]
              exact okq2
          · rw [total_snoc, show ((total ps + q2.n : Nat) : Int) = ((total ps : Nat) : Int) + (q2.n : Int) by omega]
            rfl
        · exact absurd ⟨c, q, rfl, hq.mono (.of s2), okq⟩ nq
      · refine ⟨rfl, _, rfl, iteT (y.2 (fun sc => nq ?_) _ (s1.trans s2))⟩
        exact (scr_pies hp sc x mx).mono s1
    · rintro σ H1 ⟨s1, z, as, ps, hxs, hps, ok, rfl⟩
      rw [List.take_of_length_le (Nat.le_refl _)] at hxs
      refine ⟨_, rfl, _, _, rfl, rfl, ?_⟩
      show Q (.bl (decide (((total ps : Nat) : Int) ≤ 40))) H1
      rw [dc_dec, ← dc_congr (scr_iff ⟨as, by rw [hp, hxs], hps⟩ ok)]
      exact y.run s1
  · refine ⟨_, rfl, isi t1 t2 ⟨_, rfl, iteT (y.no ?_)⟩⟩
    rintro ⟨b, ps, e, ⟨as, hq, _⟩, _⟩
    exact hn _ _ e hq
theorem pure_l_fitsA (h : sp_l_fitsA K vs H Q E) : t_l_fitsA K { nx := fun _ H' => Q .non H', rt := Q } (start N_l_fitsA vs) H := by
  obtain ⟨M, bs, x, D, B, rfl, hM, a, hB, y⟩ := h
  refine ⟨_, rfl, x, D, B, rfl, a, hB, fun p H1 s1 => ?_, fun p H1 s1 => ⟨_, rfl, iteT (y.2 (fun f => p f.scr) _ s1)⟩⟩
  obtain ⟨c, ps, rfl, sc, ok⟩ := p
  have fi := fit_iff (L := bs.length) sc ok
  obtain ⟨as, ha, hp⟩ := sc.mono (.of s1)
  refine ⟨_, rfl, iteF ⟨_, rfl, c, rfl, ⟨_, sqT ha⟩, ?_⟩⟩
  refine for_tup (K := K) (a := c) (xs := as.map V.ref) (fun i σ H' => H' = H1 ∧ (∀ p ∈ ps.take i, p.fits bs.length) ∧ ∃ z, σ = [some (.ref M), some (.ref c), z]) ⟨rfl, (fun p hp => by rw [List.take_zero] at hp; cases hp), none, rfl⟩ (fun i σ H' _ p => by rw [p.1]; exact sqT ha) ?_ ?_
  · rintro i x σ H' hx ⟨rfl, fit, z, rfl⟩
    obtain ⟨b, p, rfl, h1, h2, h3⟩ := sc_get hp hx
    have more : p.fits bs.length → ∀ q ∈ ps.take (i + 1), q.fits bs.length := fun f q hq => by
      rw [List.take_add_one, h2] at hq
      rcases List.mem_append.mp hq with hq | hq
      · exact fit q hq
      · rw [List.mem_singleton.mp hq]
        exact f
    cases p with
    | take b m =>
      refine ⟨_, rfl, ixT h3 rfl ⟨rfl, _, rfl, ?_⟩⟩
      rw [decide_eq_true rfl]
      refine iteT ⟨_, rfl, ixT h3 rfl ⟨_, rfl, ixT h3 rfl ⟨_, _, rfl, rfl, _, rfl, lenT (s1 _ _ hM) ⟨_, _, rfl, rfl, _, rfl, ?_⟩⟩⟩⟩
      by_cases q : (((bs.map V.str).length : Nat) : Int) < (b : Int) + (m : Int)
      · rw [decide_eq_true q]
        refine iteT (y.2 (fun f => ?_) _ s1)
        have f : b + m ≤ bs.length := fi.mp f _ (List.mem_of_getElem? h2)
        rw [List.length_map] at q
        omega
      · rw [decide_eq_false q]
        rw [List.length_map] at q
        exact iteF ⟨rfl, more (show b + m ≤ bs.length by omega), _, rfl⟩
    | put rs =>
      obtain ⟨q, h4, h5⟩ := h3
      refine ⟨_, rfl, ixT h4 rfl ⟨rfl, _, rfl, ?_⟩⟩
      rw [put_take]
      exact iteF (iteF ⟨rfl, more True.intro, _, rfl⟩)
  · rintro σ H' ⟨rfl, fit, z, rfl⟩
    rw [List.length_map, hp.1, List.take_of_length_le (Nat.le_refl _)] at fit
    exact y.1 (fi.mpr fit) _ s1
end
end Fw

set_option Elab.async false
set_option linter.all false
set_option maxRecDepth 100000
set_option maxHeartbeats 4000000
namespace Fw
open PySem L2 RZ RT
def Ints (H : Hp) (x : V) : Prop := ∃ a d, x = .ref a ∧ H a = some (.tup ((d : List Int).map V.int))
def Pr (H : Hp) (x : V) : Prop := ∃ p u v, x = .ref p ∧ H p = some (.tup [u, v])
def Bnd (bs rs : List Str) (t p : Int) (d : List Int) : Prop := (∀ j, j < rs.length → dv d (j + 1) ≤ dv d j + p) ∧
  ∀ i j a, i < j → j ≤ rs.length → a + (j - i) ≤ bs.length → (bs.drop a).take (j - i) = (rs.drop i).take (j - i) → dv d j ≤ dv d i + t
/-- a right paper -/
def Lst (H : Hp) (bs rs : List Str) (t p : Int) (x : V) : Prop := ∃ T s dd ps d, x = .ref T ∧ H T = some (.tup [.ref s, .ref dd]) ∧ ScAt H s ps ∧ ScOk ps ∧ (∀ q ∈ ps, q.fits bs.length) ∧ makes bs ps = rs ∧ H dd = some (.tup ((d : List Int).map V.int)) ∧ d.length = rs.length + 1 ∧ dv d 0 = 0 ∧ dv d rs.length = cost t p ps ∧ Bnd bs rs t p d
def Stands (bs part : List Str) : Prop := ∃ a, a + part.length ≤ bs.length ∧ (bs.drop a).take part.length = part
def sp_l_stands (_ : PySem.W.Frag) : Sp := fun vs H Q _ => ∃ (B P : Addr) (bs part : List Str), vs = [.ref B, .ref P] ∧ RwAt H B bs ∧ RwAt H P part ∧ bs.length ≤ 1000 ∧ part.length ≤ 1000 ∧ (∀ z ∈ bs, OkS z) ∧ (∀ z ∈ part, OkS z) ∧ ∀ (b : Bool) (H' : Hp), (b = true ↔ Stands bs part) → Same H H' → Q (.bl b) H'
def sp_is_pairB (_ : PySem.W.Frag) : Sp := fun vs H Q _ => ∃ (x : V), vs = [x] ∧ ((∃ a xs, x = .ref a ∧ H a = some (.tup xs)) ∨ ∃ D B, Ad D B H x) ∧ Yx (Pr H x) H Q
def sp_is_intsA (_ : PySem.W.Frag) : Sp := fun vs H Q _ => ∃ (x : V) (D : Addr) (B : Nat), vs = [x] ∧ Ad D B H x ∧ B ≤ 1000 ∧ Yn (Ints H x) H Q
def sp_are_boundsA (_ : PySem.W.Frag) : Sp := fun vs H Q _ => ∃ (B R dd : Addr) (bs rs : List Str) (d : List Int) (t p : Int), vs = [.ref B, .ref R, .ref dd, .int t, .int p] ∧ RwAt H B bs ∧ RwAt H R rs ∧ H dd = some (.tup (d.map V.int)) ∧ bs.length ≤ 1000 ∧ rs.length ≤ 40 ∧ d.length = rs.length + 1 ∧ 0 ≤ t ∧ Yn (Bnd bs rs t p d) H Q
def sp_right_leastA (_ : PySem.W.Frag) : Sp := fun vs H Q _ => ∃ (M R : Addr) (bs rs : List Str) (x : V) (D : Addr) (B : Nat) (t p : Int), vs = [.ref M, .ref R, x, .int t, .int p] ∧ RwAt H M bs ∧ RwAt H R rs ∧ bs.length ≤ 40 ∧ rs.length ≤ 40 ∧ (∀ z ∈ bs, OkS z) ∧ (∀ z ∈ rs, OkS z) ∧ Ad D B H x ∧ B ≤ 1000 ∧ 0 ≤ t ∧ t ≤ 10000000 ∧ 0 ≤ p ∧ p ≤ 10000000 ∧ Yn (Lst H bs rs t p x) H Q
abbrev sp_l_is_leastA (K : PySem.W.Frag) : Sp := sp_right_leastA K
section
variable {K : PySem.W.Frag} {vs : List V} {H : Hp} {Q : VK} {E : XK}
theorem len_is_pairB (h : sp_is_pairB K vs H Q E) : vs.length = 1 := by obtain ⟨_, rfl, _⟩ := h; rfl
theorem len_l_stands (h : sp_l_stands K vs H Q E) : vs.length = 2 := by obtain ⟨_, _, _, _, rfl, _⟩ := h; rfl
theorem len_is_intsA (h : sp_is_intsA K vs H Q E) : vs.length = 1 := by obtain ⟨_, _, _, rfl, _⟩ := h; rfl
theorem len_are_boundsA (h : sp_are_boundsA K vs H Q E) : vs.length = 5 := by obtain ⟨_, _, _, _, _, _, _, _, rfl, _⟩ := h; rfl
theorem len_right_leastA (h : sp_right_leastA K vs H Q E) : vs.length = 5 := by obtain ⟨_, _, _, _, _, _, _, _, _, rfl, _⟩ := h; rfl
theorem len_l_is_leastA (h : sp_l_is_leastA K vs H Q E) : vs.length = 5 := len_right_leastA h
end
abbrev N_is_pairB : List Str := ["thing"]
def t_is_pairB (K : PySem.W.Frag) : TS := (tRet (tAndV (tCB (rIsi K) (tCons (tVar 0) (tCons (tC (.ty "tuple")) tNil))) (tOp rEq (tCB (fLen K) (tCons (tVar 0) tNil)) (tC (.int 2)))))
abbrev N_is_intsA : List Str := ["thing", "part"]
def t_is_intsA (K : PySem.W.Frag) : TS := (tRet (tAndV (tCB (rIsi K) (tCons (tVar 0) (tCons (tC (.ty "tuple")) tNil))) (tCB (rAll K) (tCons (tLc (iTup K (tVar 0)) (gName 1) tYes (tCall (sp_is_intA K) [] E0 (tCons (tVar 1) tNil)) [1]) tNil))))
abbrev N_are_boundsA : List Str := ["base", "rows", "distances", "take", "put", "runs", "begin"]
def t_are_boundsA (K : PySem.W.Frag) : TS := (tSeq (tAsg (tCall (sp_longest_runs K) [] E0 (tCons (tVar 0) (tCons (tVar 1) tNil))) (gName 5))
    (tSeq (tFor (iRng1 (tCons (tCB (fLen K) (tCons (tVar 1) tNil)) tNil)) (gName 6) (tSeq (tIfS (tTest (tOp rGtI (tOp (rIx K) (tVar 2) (tOp rAddI (tVar 6) (tC (.int 1)))) (tOp rAddI (tOp (rIx K) (tVar 2) (tVar 6)) (tVar 4)))) (tRet (tC (.bl false))) tNext)
    (tIfS (tTest (tOp rGtI (tCB (rMaxT K) (tCons (tSl (rSlA K) (tVar 2) (tPart (tVar 6)) (tPart (tOp rAddI (tOp rAddI (tVar 6) (tOp (rIx K) (tOp (rIx K) (tVar 5) (tVar 6)) (tC (.int 1)))) (tC (.int 1))))) tNil)) (tOp rAddI (tOp (rIx K) (tVar 2) (tVar 6)) (tVar 3)))) (tRet (tC (.bl false))) tNext)))
    (tRet (tC (.bl true)))))
abbrev N_right_leastA : List Str := ["base", "rows", "thing", "take", "put", "script", "distances"]
def t_right_leastA_d (K : PySem.W.Frag) : TS := (tRet (tCall (sp_are_boundsA K) [] E0 (tCons (tVar 0) (tCons (tVar 1) (tCons (tVar 6) (tCons (tVar 3) (tCons (tVar 4) tNil)))))))
def t_right_leastA_c (K : PySem.W.Frag) : TS := (tSeq (tIfS (tOr (tTest (tOp rNe (tOp (rIx K) (tVar 6) (tC (.int 0))) (tC (.int 0)))) (tTest (tOp rNe (tOp (rIx K) (tVar 6) (tUn rNegI (tC (.int 1)))) (tCallN 1 (List.length (α := Str) ["take", "put"]) (sp_priceA K) (fun us ws => (fun mv : List V => us ++ ((ws.drop 0).take 1 ++ (ws.drop 1).take 1)) []) E0 (tCons (tVar 5) tNil) (tCons (tVar 3) (tCons (tVar 4) tNil)))))) (tRet (tC (.bl false))) tNext)
    (t_right_leastA_d K))
def t_right_leastA_b (K : PySem.W.Frag) : TS := (tSeq (tAsg (tVar 2) (gTup K 2 (gCons (gName 5) (gCons (gName 6) gNil))))
    (tSeq (tIfS (tOr (tNot (tB (tCall (sp_is_intsA K) [] E0 (tCons (tVar 6) tNil)))) (tTest (tOp rNe (tCB (fLen K) (tCons (tVar 6) tNil)) (tOp rAddI (tCB (fLen K) (tCons (tVar 1) tNil)) (tC (.int 1)))))) (tRet (tC (.bl false))) tNext)
    (t_right_leastA_c K)))
def t_right_leastA (K : PySem.W.Frag) : TS := (tSeq (tIfS (tOr (tNot (tB (tCall (sp_is_pairB K) [] E0 (tCons (tVar 2) tNil)))) (tOr (tNot (tB (tCall (sp_is_right_overA K) [] E0 (tCons (tVar 0) (tCons (tOp (rIx K) (tVar 2) (tC (.int 0))) tNil))))) (tTest (tOp (rNeD K) (tCall (sp_made K) [] E0 (tCons (tVar 0) (tCons (tOp (rIx K) (tVar 2) (tC (.int 0))) tNil))) (tVar 1))))) (tRet (tC (.bl false))) tNext)
    (t_right_leastA_b K))
abbrev N_l_stands : List Str := ["_law_base", "_law_part", "_law_place"]
def t_l_stands (K : PySem.W.Frag) : TS := (tSeq (tFor (iRng1 (tCons (tOp rAddI (tOp rSubI (tCB (fLen K) (tCons (tVar 0) tNil)) (tCB (fLen K) (tCons (tVar 1) tNil))) (tC (.int 1))) tNil)) (gName 2) (tIfS (tTest (tOp (rEqD K) (tSl (rSlA K) (tVar 0) (tPart (tVar 2)) (tPart (tOp rAddI (tVar 2) (tCB (fLen K) (tCons (tVar 1) tNil))))) (tVar 1))) (tRet (tC (.bl true))) tNext))
    (tRet (tC (.bl false))))
abbrev N_l_is_leastA : List Str := ["_law_base", "_law_lines_here", "_law_thing", "_law_by_take", "_law_by_put", "_law_numbers_here", "_law_number", "_law_place", "_law_ahead"]
def t_l_is_leastA_f (K : PySem.W.Frag) : TS := (tSeq (tFor (iRng2 (tCons (tC (.int 1)) (tCons (tOp rAddI (tCB (fLen K) (tCons (tVar 1) tNil)) (tC (.int 1))) tNil))) (gName 7) (tSeq (tIfS (tTest (tOp rGtI (tOp (rIx K) (tVar 5) (tVar 7)) (tOp rAddI (tOp (rIx K) (tVar 5) (tOp rSubI (tVar 7) (tC (.int 1)))) (tVar 4)))) (tRet (tC (.bl false))) tNext)
    (tFor (iRng1 (tCons (tVar 7) tNil)) (gName 8) (tIfS (tAnd (tTest (tOp rGtI (tOp (rIx K) (tVar 5) (tVar 7)) (tOp rAddI (tOp (rIx K) (tVar 5) (tVar 8)) (tVar 3)))) (tB (tCall (sp_l_stands K) [] E0 (tCons (tVar 0) (tCons (tSl (rSlA K) (tVar 1) (tPart (tVar 8)) (tPart (tVar 7))) tNil))))) (tRet (tC (.bl false))) tNext))))
    (tRet (tC (.bl true))))
def t_l_is_leastA_e (K : PySem.W.Frag) : TS := (tSeq (tIfS (tTest (tOp rNe (tOp (rIx K) (tVar 5) (tCB (fLen K) (tCons (tVar 1) tNil))) (tCall (sp_l_cost K) [] E0 (tCons (tOp (rIx K) (tVar 2) (tC (.int 0))) (tCons (tVar 3) (tCons (tVar 4) tNil)))))) (tRet (tC (.bl false))) tNext)
    (t_l_is_leastA_f K))
def t_l_is_leastA_d (K : PySem.W.Frag) : TS := (tSeq (tIfS (tOr (tTest (tOp (rNeD K) (tCall (sp_l_made K) [] E0 (tCons (tVar 0) (tCons (tOp (rIx K) (tVar 2) (tC (.int 0))) tNil))) (tVar 1))) (tTest (tOp rNe (tOp (rIx K) (tVar 5) (tC (.int 0))) (tC (.int 0))))) (tRet (tC (.bl false))) tNext)
    (t_l_is_leastA_e K))
def t_l_is_leastA_c (K : PySem.W.Frag) : TS := (tSeq (tFor (iTup K (tVar 5)) (gName 6) (tIfS (tNot (tB (tCall (sp_l_intA K) [] E0 (tCons (tVar 6) tNil)))) (tRet (tC (.bl false))) tNext))
    (t_l_is_leastA_d K))
def t_l_is_leastA_b (K : PySem.W.Frag) : TS := (tSeq (tAsg (tOp (rIx K) (tVar 2) (tC (.int 1))) (gName 5))
    (tSeq (tIfS (tOr (tNot (tB (tCB (rIsi K) (tCons (tVar 5) (tCons (tC (.ty "tuple")) tNil))))) (tTest (tOp rNe (tCB (fLen K) (tCons (tVar 5) tNil)) (tOp rAddI (tCB (fLen K) (tCons (tVar 1) tNil)) (tC (.int 1)))))) (tRet (tC (.bl false))) tNext)
    (t_l_is_leastA_c K)))
def t_l_is_leastA (K : PySem.W.Frag) : TS := (tSeq (tIfS (tOr (tNot (tB (tCB (rIsi K) (tCons (tVar 2) (tCons (tC (.ty "tuple")) tNil))))) (tOr (tTest (tOp rNe (tCB (fLen K) (tCons (tVar 2) tNil)) (tC (.int 2)))) (tNot (tB (tCall (sp_l_fitsA K) [] E0 (tCons (tVar 0) (tCons (tOp (rIx K) (tVar 2) (tC (.int 0))) tNil))))))) (tRet (tC (.bl false))) tNext)
    (t_l_is_leastA_b K))
theorem int_inj : ∀ {rs ss : List Int}, rs.map V.int = ss.map V.int → rs = ss
  | [], [], _ => rfl
  | [], _ :: _, h => by cases h
  | _ :: _, [], h => by cases h
  | r :: rs, s :: ss, h => by
    rw [List.map_cons, List.map_cons] at h
    injection h with h1 h2
    injection h1 with h1
    rw [h1, int_inj h2]
theorem ints_of : ∀ {xs : List V}, (∀ x ∈ xs, ∃ i, x = .int i) → ∃ d : List Int, xs = d.map V.int
  | [], _ => ⟨[], rfl⟩
  | x :: xs, h => by
    obtain ⟨i, rfl⟩ := h x List.mem_cons_self
    obtain ⟨d, rfl⟩ := ints_of (xs := xs) fun y hy => h y (List.mem_cons_of_mem _ hy)
    exact ⟨i :: d, rfl⟩
theorem ints_iff {H : Hp} {p : Addr} {xs : List V} (h : H p = some (.tup xs)) : Ints H (.ref p) ↔ ∀ x ∈ xs, ∃ i, x = .int i := by
  constructor
  · rintro ⟨a, d, e, hd⟩ x hx
    injection e with e
    subst e
    rw [tup_inj h hd] at hx
    obtain ⟨i, _, rfl⟩ := List.mem_map.mp hx
    exact ⟨i, rfl⟩
  · intro k
    obtain ⟨d, rfl⟩ := ints_of k
    exact ⟨p, d, rfl, h⟩
/-- the parts of a right paper, told from what stands -/
theorem lst_parts {H : Hp} {bs rs : List Str} {t p : Int} {T s dd : Addr} {ps : List Pc} {d : List Int} (hT : H T = some (.tup [.ref s, .ref dd])) (hs : ScAt H s ps) (ok : ScOk ps) (fit : ∀ q ∈ ps, q.fits bs.length) (hd : H dd = some (.tup (d.map V.int))) :
    Lst H bs rs t p (.ref T) ↔ makes bs ps = rs ∧ d.length = rs.length + 1 ∧ dv d 0 = 0 ∧ dv d rs.length = cost t p ps ∧ Bnd bs rs t p d := by
  constructor
  · rintro ⟨T2, s2, dd2, ps2, d2, e, hT2, hs2, _, _, h1, hd2, h2, h3, h4, h5⟩
    injection e with e
    subst e
    have e := tup_inj hT hT2
    injection e with e1 e2
    injection e2 with e2 _
    injection e1 with e1
    injection e2 with e2
    subst e1 e2
    have e3 := ScAt.inj hs hs2
    have e4 := int_inj (tup_inj hd hd2)
    subst e3 e4
    exact ⟨h1, h2, h3, h4, h5⟩
  · rintro ⟨h1, h2, h3, h4, h5⟩
    exact ⟨T, s, dd, ps, d, rfl, hT, hs, ok, fit, h1, hd, h2, h3, h4, h5⟩
theorem lst_fit {H : Hp} {bs rs : List Str} {t p : Int} {T : Addr} {u v : V} (hT : H T = some (.tup [u, v])) (h : Lst H bs rs t p (.ref T)) : Fit H u bs.length ∧ Ints H v := by
  obtain ⟨T2, s2, dd2, ps2, d2, e, hT2, hs2, ok, fit, h1, hd2, _⟩ := h
  injection e with e
  subst e
  have e := tup_inj hT hT2
  injection e with e1 e2
  injection e2 with e2 _
  subst e1 e2
  exact ⟨⟨s2, ps2, rfl, hs2, ok, fit⟩, ⟨dd2, d2, rfl, hd2⟩⟩
theorem eqv_dec : ∀ xs ys : List Str, PyData.eqvAll (xs.map PyData.str) (ys.map PyData.str) = decide (xs = ys)
  | [], [] => rfl
  | [], y :: ys => rfl
  | x :: xs, [] => rfl
  | x :: xs, y :: ys => by
    show ((x == y) && PyData.eqvAll (xs.map PyData.str) (ys.map PyData.str)) = _
    rw [eqv_dec xs ys, Bool.eq_iff_iff, Bool.and_eq_true, decide_eq_true_eq, decide_eq_true_eq, beq_iff_eq]
    exact ⟨fun h => by rw [h.1, h.2], fun h => by injection h with h1 h2; exact ⟨h1, h2⟩⟩
theorem makes_okS {bs : List Str} (hb : ∀ z ∈ bs, OkS z) : ∀ {ps : List Pc}, (∀ p ∈ ps, p.ok) → ∀ z ∈ makes bs ps, OkS z
  | [], _, z, h => by cases h
  | p :: ps, hp, z, h => by
    rcases List.mem_append.mp (show z ∈ p.mk bs ++ makes bs ps from h) with h | h
    · cases p with
      | take b m => exact hb z (List.mem_of_mem_drop (List.mem_of_mem_take h))
      | put rs => exact (hp (.put rs) (List.mem_cons_self ..)).2 z h
    · exact makes_okS hb (fun q hq => hp q (List.mem_cons_of_mem _ hq)) z h
section
variable {K : PySem.W.Frag} {vs : List V} {H : Hp} {Q : VK} {E : XK}
theorem shaped_strs {zs : List Str} (ok : ∀ z ∈ zs, OkS z) : SeqAt.shaped (.tuple (zs.map PyData.str)) = true := by
  show (PyData.canLayAll0 (zs.map PyData.str) && decide (PyData.depthAll (zs.map PyData.str) + 1 ≤ 64)) = true
  rw [lay_strs zs ok, depth_strs]
  rfl
theorem rows_eq {r q : Addr} {xs ys : List Str} (h1 : RwAt H r xs) (h2 : RwAt H q ys) (o1 : ∀ z ∈ xs, OkS z) (o2 : ∀ z ∈ ys, OkS z) (k : Q (.bl (decide (xs = ys))) H) : rEqD K (.ref r) (.ref q) H Q := by
  refine ⟨_, _, dp_rows h1, dp_rows h2, shaped_strs o1, shaped_strs o2, ?_⟩
  have e : PyData.eqv (.tuple (xs.map PyData.str)) (.tuple (ys.map PyData.str)) = decide (xs = ys) := eqv_dec xs ys
  rw [e]
  exact k
theorem rows_un {r q : Addr} {xs ys : List Str} (h1 : RwAt H r xs) (h2 : RwAt H q ys) (o1 : ∀ z ∈ xs, OkS z) (o2 : ∀ z ∈ ys, OkS z) (k : Q (.bl (!decide (xs = ys))) H) : rNeD K (.ref r) (.ref q) H Q := by
  refine ⟨_, _, dp_rows h1, dp_rows h2, shaped_strs o1, shaped_strs o2, ?_⟩
  have e : PyData.eqv (.tuple (xs.map PyData.str)) (.tuple (ys.map PyData.str)) = decide (xs = ys) := eqv_dec xs ys
  rw [e]
  exact k
theorem pure_l_stands (h : sp_l_stands K vs H Q E) : t_l_stands K { nx := fun _ H' => Q .non H', rt := Q } (start N_l_stands vs) H := by
  obtain ⟨B, P, bs, part, rfl, hB, hP, zb, zp, o1, o2, k⟩ := h
  have lb : (bs.map V.str).length = bs.length := List.length_map ..
  have lp : (part.map V.str).length = part.length := List.length_map ..
  refine ⟨_, rfl, lenT hB ⟨_, rfl, lenT hP ⟨_, _, rfl, rfl, _, _, rfl, rfl, _, rfl, by omega, by omega, ?_⟩⟩⟩
  refine for_range (lo := 0) (fun i σ H' => Same H H' ∧ (∀ a, a < i → (bs.drop a).take part.length ≠ part) ∧ ∃ z, σ = [some (.ref B), some (.ref P), z]) ⟨Same.refl _, fun a ha => absurd ha (Nat.not_lt_zero _), none, rfl⟩ ?_ ?_
  · rintro i σ H' hi ⟨s, no, z, rfl⟩
    have hi : i + part.length ≤ bs.length := by omega
    refine ⟨_, rfl, _, rfl, _, rfl, _, rfl, _, rfl, lenT (s _ _ hP) ⟨_, _, rfl, rfl, _, rfl, ?_⟩⟩
    show rSlA K (.ref B) (some (0 + (i : Int))) (some (0 + (i : Int) + ((part.map V.str).length : Int))) H' _
    rw [Int.zero_add, lp]
    refine slA (s _ _ hB) hi fun r H2 s2 hr => ⟨_, rfl, ?_⟩
    refine rows_eq hr (s2 _ _ (s _ _ hP)) (fun z hz => o1 z (List.mem_of_mem_drop (List.mem_of_mem_take hz))) o2 ⟨_, rfl, ?_⟩
    by_cases q : (bs.drop i).take part.length = part
    · rw [decide_eq_true q]
      exact iteT (k true _ ⟨fun _ => ⟨i, hi, q⟩, fun _ => rfl⟩ (s.trans s2))
    · rw [decide_eq_false q]
      refine iteF ⟨s.trans s2, fun a ha => ?_, _, rfl⟩
      by_cases e : a = i
      · rw [e]; exact q
      · exact no a (by omega)
  · rintro σ H' ⟨s, no, z, rfl⟩
    refine k false _ ⟨fun h => (by cases h), fun ⟨a, h1, h2⟩ => absurd h2 (no a (by omega))⟩ s
theorem stands_of {bs rs : List Str} {i j : Nat} (hij : i < j) (hj : j ≤ rs.length) : Stands bs ((rs.drop i).take (j - i)) ↔ ∃ a, a + (j - i) ≤ bs.length ∧ (bs.drop a).take (j - i) = (rs.drop i).take (j - i) := by
  have l : ((rs.drop i).take (j - i)).length = j - i := by rw [List.length_take, List.length_drop]; omega
  unfold Stands
  rw [l]
theorem pure_is_pairB (h : sp_is_pairB K vs H Q E) : t_is_pairB K { nx := fun _ H' => Q .non H', rt := Q } (start N_is_pairB vs) H := by
  obtain ⟨x, rfl, a, y⟩ := h
  have c : (∃ p xs, x = .ref p ∧ H p = some (.tup xs)) ∨ ((∃ ty, TyX K H x (.type ty) ∧ kitB ty "tuple" = some false) ∧ ∀ p xs, x = .ref p → H p ≠ some (.tup xs)) := by
    rcases a with h | ⟨D, B, a⟩
    · exact .inl h
    · rcases a.tupC K with ⟨p, xs, h1, n, hp, hz, ha⟩ | h
      · exact .inl ⟨p, xs, h1, hp⟩
      · exact .inr h
  rcases c with ⟨p, xs, rfl, hp⟩ | ⟨⟨ty, t1, t2⟩, hn⟩
  · refine ⟨_, rfl, isi (.base (.tup hp)) k_tt ⟨_, rfl, iteT ⟨_, rfl, lenT hp ⟨rfl, ?_⟩⟩⟩⟩
    by_cases l2 : xs.length = 2
    · rw [decide_eq_true (show V.int ((xs.length : Nat) : Int) = V.int 2 by rw [l2]; rfl)]
      match xs, l2 with
      | [u, v], _ => exact y.1 ⟨p, u, v, rfl, hp⟩
    · rw [decide_eq_false (show ¬ V.int ((xs.length : Nat) : Int) = V.int 2 by intro e; injection e with e; omega)]
      refine y.2 ?_
      rintro ⟨q, u, v, e, hq⟩
      injection e with e
      subst e
      rw [tup_inj hp hq] at l2
      exact l2 rfl
  · refine ⟨_, rfl, isi t1 t2 ⟨_, rfl, iteF (y.2 ?_)⟩⟩
    rintro ⟨q, u, v, e, hq⟩
    exact hn _ _ e hq
theorem pair_weak {vs : List V} (h : sp_is_pairA K vs H Q E) : sp_is_pairB K vs H Q E := by
  obtain ⟨a, xs, rfl, ha, y⟩ := h
  have e : Pr H (.ref a) ↔ xs.length = 2 := by
    constructor
    · rintro ⟨q, u, v, e, hq⟩
      injection e with e
      subst e
      rw [tup_inj ha hq]
      rfl
    · intro l2
      match xs, l2 with
      | [u, v], _ => exact ⟨a, u, v, rfl, ha⟩
  exact ⟨.ref a, rfl, .inl ⟨a, xs, rfl, ha⟩, fun p => y.yes (e.mp p), fun p => y.no fun l => p (e.mpr l)⟩
theorem pure_is_intsA (h : sp_is_intsA K vs H Q E) : t_is_intsA K { nx := fun _ H' => Q .non H', rt := Q } (start N_is_intsA vs) H := by
  obtain ⟨x, D, B, rfl, a, hB, y⟩ := h
  rcases a.tupC K with ⟨p, xs, rfl, n, hp, hz, ha⟩ | ⟨⟨ty, t1, t2⟩, hn⟩
  · refine ⟨_, rfl, isi (.base (.tup hp)) k_tt ⟨_, rfl, iteT ⟨_, rfl, p, rfl, ⟨_, sqT hp⟩, fun L nL => ?_⟩⟩⟩
    refine lc_grow (walk_tup (xs := xs)) yAt (ys := xs.map fun x => V.bl (dc (∃ i, x = .int i))) nL (by rw [List.length_map]) (by omega) (fun H' s => sqT (s _ _ hp)) ?_ ?_
    · rintro i x y' H' R hi ⟨_, hx⟩ hy s r
      rw [List.getElem?_map, hx] at hy
      cases Option.some.inj hy
      exact ⟨rfl, ⟨_, rfl, x, D, B, rfl, (ha x (List.mem_of_getElem? hx)).same s, Yn.x (Yn.of fun H'' s2 => r _ s2)⟩⟩
    · intro H' s hL
      refine ⟨L, xs.map fun x => dc (∃ i, x = .int i), rfl, sqL (by rw [hL, List.map_map]; rfl), ?_⟩
      rw [dc_all (fun x : V => ∃ i, x = .int i), ← dc_congr (ints_iff hp)]
      exact y.run s
  · refine ⟨_, rfl, isi t1 t2 ⟨_, rfl, iteF (y.no ?_)⟩⟩
    rintro ⟨q, d, e, hq⟩
    exact hn _ _ e hq
theorem pure_are_boundsA (h : sp_are_boundsA K vs H Q E) : t_are_boundsA K { nx := fun _ H' => Q .non H', rt := Q } (start N_are_boundsA vs) H := by
  obtain ⟨B, R, dd, bs, rs, d, t, p, rfl, hB, hR, hd, zb, zr, dl, t0, y⟩ := h
  have lr : (rs.map V.str).length = rs.length := List.length_map ..
  refine ⟨_, rfl, _, rfl, B, R, bs, rs, rfl, hB, hR, zb, by omega, fun U us runs H1 g1 hU hus hrl hro => ?_⟩
  refine ⟨_, rfl, lenT (g1 _ _ hR) ⟨_, rfl, by omega, by omega, ?_⟩⟩
  refine for_range (lo := 0) (fun i σ H' => Same H1 H' ∧ (∀ j, j < i → dv d (j + 1) ≤ dv d j + p) ∧ (∀ b j a, b < i → b < j → j ≤ rs.length → a + (j - b) ≤ bs.length → (bs.drop a).take (j - b) = (rs.drop b).take (j - b) → dv d j ≤ dv d b + t) ∧ ∃ z, σ = [some (.ref B), some (.ref R), some (.ref dd), some (.int t), some (.int p), some (.ref U), z]) ⟨Same.refl _, fun j hj => absurd hj (Nat.not_lt_zero _), fun b j a hb => absurd hb (Nat.not_lt_zero _), none, rfl⟩ ?_ ?_
  · rintro i σ H' hi ⟨s, pu, ta, z, rfl⟩
    have hi : i < rs.length := by omega
    have hd' : H' dd = some (.tup (d.map V.int)) := s _ _ (g1 _ _ hd)
    have ei : atI (d.map V.int) (0 + (i : Int)) = some (.int (dv d i)) := by rw [Int.zero_add]; exact int_at (by omega)
    have ei1 : atI (d.map V.int) (0 + (i : Int) + 1) = some (.int (dv d (i + 1))) := by
      rw [show (0 + (i : Int) + 1) = ((i + 1 : Nat) : Int) by omega]
      exact int_at (by omega)
    obtain ⟨x, hx⟩ : ∃ x, runs[i]? = some x := ⟨_, List.getElem?_eq_getElem (by omega)⟩
    obtain ⟨u, hu, hux⟩ := hus.at hx
    have hux' : H' u = some (.tup [.int (x.1 : Int), .int (x.2 : Int)]) := s _ _ hux
    have eu : atI (us.map V.ref) (0 + (i : Int)) = some (.ref u) := by rw [Int.zero_add]; exact atI_ref hu
    have ro := hro i x hx
    have lx := lcp_le (bs.drop x.1) (rs.drop i)
    rw [← ro.eq, List.length_drop, List.length_drop] at lx
    refine ⟨_, rfl, _, rfl, _, _, rfl, rfl, ixT hd' ei1 ⟨_, rfl, _, rfl, ixT hd' ei ⟨_, rfl, _, _, rfl, rfl, _, _, rfl, rfl, _, rfl, ?_⟩⟩⟩
    by_cases qp : dv d i + p < dv d (i + 1)
    · rw [decide_eq_true qp]
      exact iteT (y.2 (fun b => by have := b.1 i hi; omega) _ (g1.trans s))
    rw [decide_eq_false qp]
    refine iteF ⟨_, rfl, _, rfl, _, rfl, _, rfl, _, rfl, _, rfl, ixL (s _ _ hU) eu (ixT hux' rfl ⟨_, _, rfl, rfl, _, _, rfl, rfl, _, rfl, ?_⟩)⟩
    show rSlA K (.ref dd) (some (0 + (i : Int))) (some (0 + (i : Int) + (x.2 : Int) + 1)) H' _
    rw [show (0 + (i : Int)) = (i : Int) by omega, show ((i : Int) + (x.2 : Int) + 1) = ((i + x.2 + 1 : Nat) : Int) by omega]
    refine slI hd' (by omega) (by omega) fun r H2 s2 hr => ?_
    refine ⟨r, _, rfl, sqT hr, fun e => ?_, fun m hm top => ?_⟩
    · have := congrArg List.length e
      rw [List.length_take, List.length_drop] at this
      simp at this
      omega
    obtain ⟨j, j1, j2, j3, rfl⟩ := mem_slice hm
    refine ⟨_, rfl, _, rfl, ixT (s2 _ _ hd') (int_at (i := i) (by omega)) ⟨_, rfl, _, _, rfl, rfl, _, _, rfl, rfl, _, rfl, ?_⟩⟩
    by_cases qt : dv d i + t < dv d j
    · rw [decide_eq_true qt]
      refine iteT (y.2 (fun b => ?_) _ ((g1.trans s).trans s2))
      by_cases q : j = i
      · rw [q] at qt; omega
      · obtain ⟨r1, r2⟩ := run_part (e := j) ro (by omega)
        have := b.2 i j x.1 (by omega) (by omega) r1 r2
        omega
    · rw [decide_eq_false qt]
      refine iteF ⟨s.trans s2, fun j' hj' => ?_, fun b j' a hb hbj hj' h1 h2 => ?_, _, rfl⟩
      · by_cases e : j' = i
        · subst e; omega
        · exact pu j' (by omega)
      · by_cases e : b = i
        · subst e
          have l1 : j' - b ≤ lcp (bs.drop a) (rs.drop b) := le_lcp _ _ _ (by rw [List.length_drop]; omega) (by rw [List.length_drop]; omega) h2
          have l2 := ro.top a
          have := top (dv d j') ?_
          · omega
          · refine List.mem_iff_getElem?.mpr ⟨j' - b, ?_⟩
            rw [List.getElem?_take, if_pos (by omega), List.getElem?_drop, show b + (j' - b) = j' by omega]
            unfold dv
            rw [List.getD_eq_getElem?_getD, List.getElem?_eq_getElem (by omega)]
            rfl
        · exact ta b j' a (by omega) hbj hj' h1 h2
  · rintro σ H' ⟨s, pu, ta, z, rfl⟩
    refine y.1 ⟨fun j hj => pu j (by omega), fun i j a h1 h2 => ta i j a (by omega) h1 h2⟩ _ (g1.trans s)
end
end Fw

set_option Elab.async false
set_option linter.all false
set_option maxRecDepth 100000
set_option maxHeartbeats 4000000
namespace Fw
open PySem L2 RZ RT
section
variable {K : PySem.W.Frag} {vs : List V} {H : Hp} {Q : VK} {E : XK}
theorem Lst.pr {bs rs : List Str} {t p : Int} {x : V} (h : Lst H bs rs t p x) : Pr H x := by
  obtain ⟨T, s, dd, ps, d, e, hT, _⟩ := h
  exact ⟨T, _, _, e, hT⟩
theorem pure_right_leastA (h : sp_right_leastA K vs H Q E) : t_right_leastA K { nx := fun _ H' => Q .non H', rt := Q } (start N_right_leastA vs) H := by
  obtain ⟨M, R, bs, rs, x, D, B, t, p, rfl, hM, hR, zb, zr, okb, okr, a, hB, t0, t1, p0, p1, y⟩ := h
  have lr : (rs.map V.str).length = rs.length := List.length_map ..
  refine ⟨_, rfl, x, rfl, .inr ⟨D, B, a⟩, fun q => ⟨_, rfl, iteF ?_⟩, fun q => ⟨_, rfl, iteT (iteT (y.no fun l => q l.pr))⟩⟩
  obtain ⟨T, u, v, rfl, hT⟩ := q
  have al := (a.back (Same.refl _) hT).2
  have au := al u (by simp)
  have av := al v (by simp)
  refine ⟨_, rfl, _, rfl, ixT hT rfl ⟨M, bs, u, D, B, rfl, hM, au, hB, fun f H1 g1 => ⟨_, rfl, iteF ?_⟩, fun f H1 g1 => ⟨_, rfl, iteT (iteT (y.2 (fun l => f (lst_fit hT l).1) _ g1))⟩⟩⟩
  obtain ⟨s, ps, rfl, hs, ok, fit⟩ := f
  refine ⟨_, rfl, _, rfl, ixT (g1 _ _ hT) rfl ⟨M, s, bs, ps, rfl, g1 _ _ hM, hs.mono (.of g1), ok, fit, fun X H2 s2 w2 => ⟨_, rfl, ?_⟩⟩⟩
  have g2 := g1.trans s2
  refine rows_un w2 (g2 _ _ hR) (makes_okS okb ok.ok) okr ⟨_, rfl, ?_⟩
  have noL : ∀ {w : V}, H T = some (.tup [.ref s, w]) → makes bs ps ≠ rs → ¬ Lst H bs rs t p (.ref T) := by
    rintro w hT2 ne ⟨T2, s2, dd2, ps2, d2, e, hT3, hs2, _, _, h1, _⟩
    injection e with e
    subst e
    have e := tup_inj hT2 hT3
    injection e with e1 _
    injection e1 with e1
    subst e1
    rw [ScAt.inj hs hs2] at ne
    exact ne h1
  by_cases em : makes bs ps = rs
  · rw [decide_eq_true em]
    refine iteF ?_
    show t_right_leastA_b K { nx := fun _ H' => Q .non H', rt := Q } [some (.ref M), some (.ref R), some (.ref T), some (.int t), some (.int p), none, none] H2
    refine ⟨_, rfl, T, _, rfl, sqT (g2 _ _ hT), rfl, _, _, rfl, _, _, rfl, rfl, ?_⟩
    refine ⟨_, rfl, v, D, B, rfl, av.same g2, hB, fun q H3 s3 => ⟨_, rfl, iteF ?_⟩, fun q H3 s3 => ⟨_, rfl, iteT (iteT (y.2 (fun l => q ?_) _ (g2.trans s3)))⟩⟩
    · obtain ⟨dd, d, rfl, hd2⟩ := q
      have hd := (av.back g2 hd2).1
      have g3 := g2.trans s3
      have ldd : (d.map V.int).length = d.length := List.length_map ..
      have li := lst_parts (rs := rs) (t := t) (p := p) hT hs ok fit hd
      refine ⟨_, rfl, lenT (g3 _ _ hd) ⟨_, rfl, lenT (g3 _ _ hR) ⟨_, _, rfl, rfl, rfl, _, rfl, ?_⟩⟩⟩
      by_cases dl : d.length = rs.length + 1
      · rw [decide_eq_true (show V.int ((d.map V.int).length : Int) = V.int (((rs.map V.str).length : Int) + 1) by rw [ldd, lr, dl]; rfl)]
        refine iteF ?_
        show t_right_leastA_c K { nx := fun _ H' => Q .non H', rt := Q } [some (.ref M), some (.ref R), some (.ref T), some (.int t), some (.int p), some (.ref s), some (.ref dd)] H3
        refine ⟨_, rfl, ixT (g3 _ _ hd) (int_at (i := 0) (by omega)) ⟨rfl, _, rfl, ?_⟩⟩
        by_cases q0 : dv d 0 = 0
        · rw [decide_eq_true (show V.int (dv d 0) = V.int 0 by rw [q0])]
          refine iteF ⟨_, rfl, _, rfl, ixT (g3 _ _ hd) (dlast_at dl) ⟨_, rfl, _, rfl, _, rfl, rfl, rfl, .ref s, D, B, t, p, rfl, au.same g3, hB, t0, t1, p0, p1, fun s' ps' e sc' ok' H4 s4 => ?_, fun nf => absurd ⟨s, ps, rfl, hs.mono (.of g3), ok⟩ nf⟩⟩
          injection e with e
          subst e
          have e := ScAt.inj sc' (hs.mono (.of g3))
          subst e
          have g4 := g3.trans s4
          refine ⟨rfl, _, rfl, ?_⟩
          by_cases ql : dv d rs.length = cost t p ps'
          · rw [decide_eq_true (show V.int (dv d rs.length) = V.int (cost t p ps') by rw [ql])]
            refine iteF ?_
            show t_right_leastA_d K { nx := fun _ H' => Q .non H', rt := Q } [some (.ref M), some (.ref R), some (.ref T), some (.int t), some (.int p), some (.ref s), some (.ref dd)] H4
            refine ⟨_, rfl, _, rfl, _, rfl, _, rfl, _, rfl, M, R, dd, bs, rs, d, t, p, rfl, g4 _ _ hM, g4 _ _ hR, g4 _ _ hd, by omega, zr, dl, t0, fun b H5 s5 => ?_, fun b H5 s5 => ?_⟩
            · exact y.1 (li.mpr ⟨em, dl, q0, ql, b⟩) _ (g4.trans s5)
            · exact y.2 (fun l => b (li.mp l).2.2.2.2) _ (g4.trans s5)
          · rw [decide_eq_false (show ¬ V.int (dv d rs.length) = V.int (cost t p ps') by intro e; injection e with e; exact ql e)]
            exact iteT (y.2 (fun l => ql (li.mp l).2.2.2.1) _ g4)
        · rw [decide_eq_false (show ¬ V.int (dv d 0) = V.int 0 by intro e; injection e with e; exact q0 e)]
          exact iteT (iteT (y.2 (fun l => q0 (li.mp l).2.2.1) _ g3))
      · rw [decide_eq_false (show ¬ V.int ((d.map V.int).length : Int) = V.int (((rs.map V.str).length : Int) + 1) by rw [ldd, lr]; intro e; injection e with e; omega)]
        exact iteT (y.2 (fun l => dl (li.mp l).2.1) _ g3)
    · obtain ⟨a2, d2, e, h2⟩ := (lst_fit hT l).2
      exact ⟨a2, d2, e, g2 _ _ h2⟩
  · rw [decide_eq_false em]
    exact iteT (y.2 (noL hT em) _ g2)
theorem least_f {M R T dd : Addr} {bs rs : List Str} {d : List Int} {t p : Int} {H0 : Hp} {z6 z7 z8 : Option V} (g : Same H H0) (hM : RwAt H M bs) (hR : RwAt H R rs) (hd : H dd = some (.tup (d.map V.int))) (zb : bs.length ≤ 40) (zr : rs.length ≤ 40) (okb : ∀ z ∈ bs, OkS z) (okr : ∀ z ∈ rs, OkS z) (dl : d.length = rs.length + 1) (y : Yn (Bnd bs rs t p d) H Q) :
    t_l_is_leastA_f K { nx := fun _ H' => Q .non H', rt := Q } [some (.ref M), some (.ref R), some (.ref T), some (.int t), some (.int p), some (.ref dd), z6, z7, z8] H0 := by
  have lr : (rs.map V.str).length = rs.length := List.length_map ..
  refine ⟨_, rfl, lenT (g _ _ hR) ⟨_, _, rfl, rfl, _, _, rfl, ⟨by decide, by decide, by omega, by omega⟩, ?_⟩⟩
  rw [show ((((rs.map V.str).length : Nat) : Int) + 1 - 1).toNat = rs.length by omega]
  refine for_range (lo := 1) (n := rs.length) (fun i σ H' => Same H H' ∧ (∀ j, j < i → dv d (j + 1) ≤ dv d j + p) ∧ (∀ b j a, j ≤ i → b < j → a + (j - b) ≤ bs.length → (bs.drop a).take (j - b) = (rs.drop b).take (j - b) → dv d j ≤ dv d b + t) ∧ ∃ z6 z7 z8, σ = [some (.ref M), some (.ref R), some (.ref T), some (.int t), some (.int p), some (.ref dd), z6, z7, z8]) ⟨g, fun j hj => absurd hj (Nat.not_lt_zero _), fun b j a h1 h2 => by omega, _, _, _, rfl⟩ ?_ ?_
  · rintro i σ H' hi ⟨s3, pu, ta, z6, z7, z8, rfl⟩
    have hd' := s3 _ _ hd
    have e1 : (1 + (i : Int)) = ((i + 1 : Nat) : Int) := by omega
    have ea : atI (d.map V.int) (1 + (i : Int)) = some (.int (dv d (i + 1))) := by rw [e1]; exact int_at (by omega)
    have eb : atI (d.map V.int) (1 + (i : Int) - 1) = some (.int (dv d i)) := by rw [show (1 + (i : Int) - 1) = (i : Int) by omega]; exact int_at (by omega)
    refine ⟨_, rfl, _, rfl, ixT hd' ea ⟨_, rfl, _, rfl, _, _, rfl, rfl, ixT hd' eb ⟨_, rfl, _, _, rfl, rfl, _, _, rfl, rfl, _, rfl, ?_⟩⟩⟩
    by_cases qp : dv d i + p < dv d (i + 1)
    · rw [decide_eq_true qp]
      exact iteT (y.2 (fun b => by have := b.1 i hi; omega) _ s3)
    rw [decide_eq_false qp]
    refine iteF ⟨_, rfl, _, rfl, by omega, by omega, ?_⟩
    refine for_range (lo := 0) (fun j σ H' => Same H H' ∧ (∀ b a, b < j → a + (i + 1 - b) ≤ bs.length → (bs.drop a).take (i + 1 - b) = (rs.drop b).take (i + 1 - b) → dv d (i + 1) ≤ dv d b + t) ∧ ∃ z8, σ = [some (.ref M), some (.ref R), some (.ref T), some (.int t), some (.int p), some (.ref dd), z6, some (.int (1 + (i : Int))), z8]) ⟨s3, fun b a hb => absurd hb (Nat.not_lt_zero _), _, rfl⟩ ?_ ?_
    · rintro j σ H' hj ⟨s4, tb, z8, rfl⟩
      have hj : j < i + 1 := by omega
      have hd4 := s4 _ _ hd
      have ej : atI (d.map V.int) (0 + (j : Int)) = some (.int (dv d j)) := by rw [Int.zero_add]; exact int_at (by omega)
      refine ⟨_, rfl, _, rfl, ixT hd4 ea ⟨_, rfl, _, rfl, ixT hd4 ej ⟨_, rfl, _, _, rfl, rfl, _, _, rfl, rfl, _, rfl, ?_⟩⟩⟩
      by_cases q : dv d j + t < dv d (i + 1)
      · rw [decide_eq_true q]
        refine iteT ⟨_, rfl, _, rfl, _, rfl, _, rfl, _, rfl, _, rfl, ?_⟩
        show rSlA K (.ref R) (some (0 + (j : Int))) (some (1 + (i : Int))) H' _
        rw [Int.zero_add, e1]
        refine slB (s4 _ _ hR) (by omega) (by omega) fun r H5 s5 hr => ⟨M, r, bs, _, rfl, s5 _ _ (s4 _ _ hM), hr, by omega, by rw [List.length_take]; omega, okb, fun z hz => okr z (List.mem_of_mem_drop (List.mem_of_mem_take hz)), fun b H6 hb s6 => ⟨_, rfl, ?_⟩⟩
        have g6 := (s4.trans s5).trans s6
        cases b with
        | true =>
          refine iteT (y.2 (fun bb => ?_) _ g6)
          obtain ⟨a, h1, h2⟩ := (stands_of hj (by omega)).mp (hb.mp rfl)
          have := bb.2 j (i + 1) a hj (by omega) h1 h2
          omega
        | false =>
          refine iteF ⟨g6, fun b a hb2 h1 h2 => ?_, _, rfl⟩
          by_cases e : b = j
          · subst e
            have := hb.mpr ((stands_of hj (by omega)).mpr ⟨a, h1, h2⟩)
            cases this
          · exact tb b a (by omega) h1 h2
      · rw [decide_eq_false q]
        refine iteF (iteF ⟨s4, fun b a hb2 h1 h2 => ?_, _, rfl⟩)
        by_cases e : b = j
        · subst e; omega
        · exact tb b a (by omega) h1 h2
    · rintro σ H' ⟨s4, tb, z8, rfl⟩
      refine ⟨s4, fun j hj => ?_, fun b j a h1 h2 h3 h4 => ?_, _, _, _, rfl⟩
      · by_cases e : j = i
        · subst e; omega
        · exact pu j (by omega)
      · by_cases e : j = i + 1
        · subst e
          exact tb b a (by omega) h3 h4
        · exact ta b j a (by omega) h2 h3 h4
  · rintro σ H' ⟨s3, pu, ta, z6, z7, z8, rfl⟩
    exact y.1 ⟨pu, fun i j a h1 h2 => ta i j a h2 h1⟩ _ s3
theorem pure_l_is_leastA (h : sp_l_is_leastA K vs H Q E) : t_l_is_leastA K { nx := fun _ H' => Q .non H', rt := Q } (start N_l_is_leastA vs) H := by
  obtain ⟨M, R, bs, rs, x, D, B, t, p, rfl, hM, hR, zb, zr, okb, okr, a, hB, t0, t1, p0, p1, y⟩ := h
  have lr : (rs.map V.str).length = rs.length := List.length_map ..
  rcases a.tupC K with ⟨T, xs, rfl, n, hT, hz, al⟩ | ⟨⟨ty, t1, t2⟩, hn⟩
  case inr =>
    refine ⟨_, rfl, isi t1 t2 ⟨_, rfl, iteT (iteT (y.no fun l => ?_))⟩⟩
    obtain ⟨q, u, v, e, hq⟩ := l.pr
    exact hn _ _ e hq
  refine ⟨_, rfl, isi (.base (.tup hT)) k_tt ⟨_, rfl, iteF ⟨_, rfl, lenT hT ⟨rfl, _, rfl, ?_⟩⟩⟩⟩
  by_cases l2 : xs.length = 2
  case neg =>
    rw [decide_eq_false (show ¬ V.int ((xs.length : Nat) : Int) = V.int 2 by intro e; injection e with e; omega)]
    refine iteT (iteT (y.no fun l => ?_))
    obtain ⟨q, u, v, e, hq⟩ := l.pr
    injection e with e
    subst e
    rw [tup_inj hT hq] at l2
    exact l2 rfl
  rw [decide_eq_true (show V.int ((xs.length : Nat) : Int) = V.int 2 by rw [l2]; rfl)]
  match xs, l2 with
  | [u, v], _ =>
    have au := al u (by simp)
    have av := al v (by simp)
    refine iteF ⟨_, rfl, _, rfl, ixT hT rfl ⟨M, bs, u, D, B, rfl, hM, au, hB, fun f H1 g1 => ⟨_, rfl, iteF ?_⟩, fun f H1 g1 => ⟨_, rfl, iteT (y.2 (fun l => f (lst_fit hT l).1) _ g1)⟩⟩⟩
    obtain ⟨s, ps, rfl, hs, ok, fit⟩ := f
    show t_l_is_leastA_b K { nx := fun _ H' => Q .non H', rt := Q } [some (.ref M), some (.ref R), some (.ref T), some (.int t), some (.int p), none, none, none, none] H1
    refine ⟨_, rfl, ixT (g1 _ _ hT) rfl ?_⟩
    have notI : ¬ Ints H v → ¬ Lst H bs rs t p (.ref T) := fun ni l => ni (lst_fit hT l).2
    rcases av.tupC K with ⟨dd, ds, rfl, nd, hd, hzd, ald⟩ | ⟨_, hn⟩
    case inr =>
      obtain ⟨ty', t1', t2'⟩ : ∃ ty, TyX K H1 v (.type ty) ∧ kitB ty "tuple" = some false := by
        rcases (av.same g1).tupC K with ⟨q, xs, rfl, nq, hq, hz, hall⟩ | ⟨h, _⟩
        · exact absurd (av.back g1 hq).1 (hn _ _ rfl)
        · exact h
      refine ⟨_, rfl, isi t1' t2' ⟨_, rfl, iteT (iteT (y.2 (notI ?_) _ g1))⟩⟩
      rintro ⟨q, d, e, hq⟩
      exact hn _ _ e hq
    have hd1 := g1 _ _ hd
    refine ⟨_, rfl, isi (.base (.tup hd1)) k_tt ⟨_, rfl, iteF ⟨_, rfl, lenT hd1 ⟨_, rfl, lenT (g1 _ _ hR) ⟨_, _, rfl, rfl, rfl, _, rfl, ?_⟩⟩⟩⟩⟩
    by_cases dl : ds.length = rs.length + 1
    case neg =>
      rw [decide_eq_false (show ¬ V.int ((ds.length : Nat) : Int) = V.int (((rs.map V.str).length : Int) + 1) by rw [lr]; intro e; injection e with e; omega)]
      refine iteT (y.2 (fun l => ?_) _ g1)
      obtain ⟨T2, s2, dd2, ps2, d2, e, hT2, hs2, _, _, h1, hd2, h2, _⟩ := l
      injection e with e
      subst e
      have e := tup_inj hT hT2
      injection e with e1 e2
      injection e2 with e2 _
      injection e2 with e2
      subst e2
      rw [tup_inj hd hd2, List.length_map] at dl
      exact dl h2
    rw [decide_eq_true (show V.int ((ds.length : Nat) : Int) = V.int (((rs.map V.str).length : Int) + 1) by rw [dl, lr]; rfl)]
    refine iteF ?_
    show t_l_is_leastA_c K { nx := fun _ H' => Q .non H', rt := Q } [some (.ref M), some (.ref R), some (.ref T), some (.int t), some (.int p), some (.ref dd), none, none, none] H1
    refine ⟨_, rfl, dd, rfl, ⟨_, sqT hd1⟩, ?_⟩
    refine for_tup (K := K) (a := dd) (xs := ds) (fun i σ H' => Same H1 H' ∧ (∀ x ∈ ds.take i, ∃ i, x = .int i) ∧ ∃ z6, σ = [some (.ref M), some (.ref R), some (.ref T), some (.int t), some (.int p), some (.ref dd), z6, none, none]) ⟨Same.refl _, (fun x hx => by rw [List.take_zero] at hx; cases hx), none, rfl⟩ (fun i σ H' _ p => sqT (p.1 _ _ hd1)) ?_ ?_
    · rintro i x σ H' hx ⟨s2, ai, z6, rfl⟩
      have mx := List.mem_of_getElem? hx
      refine ⟨_, rfl, x, D, B, rfl, (ald x mx).same (g1.trans s2), fun q => ⟨_, rfl, iteF ⟨s2, fun w hw => ?_, _, rfl⟩⟩, fun q => ⟨_, rfl, iteT (y.2 (notI fun ii => q ((ints_iff hd).mp ii x mx)) _ (g1.trans s2))⟩⟩
      rw [List.take_add_one, hx] at hw
      rcases List.mem_append.mp hw with hw | hw
      · exact ai w hw
      · rw [List.mem_singleton.mp hw]
        exact q
    · rintro σ H0 ⟨s2, ai, z6, rfl⟩
      rw [List.take_of_length_le (Nat.le_refl _)] at ai
      obtain ⟨d, rfl⟩ := ints_of ai
      rw [List.length_map] at dl
      have g2 := g1.trans s2
      have li := lst_parts (rs := rs) (t := t) (p := p) hT hs ok fit hd
      show t_l_is_leastA_d K { nx := fun _ H' => Q .non H', rt := Q } [some (.ref M), some (.ref R), some (.ref T), some (.int t), some (.int p), some (.ref dd), z6, none, none] H0
      refine ⟨_, rfl, _, rfl, ixT (g2 _ _ hT) rfl ⟨M, s, bs, ps, rfl, g2 _ _ hM, hs.mono (.of g2), ok, fit, fun X H3 s3 w3 => ⟨_, rfl, ?_⟩⟩⟩
      have g3 := g2.trans s3
      refine rows_un w3 (g3 _ _ hR) (makes_okS okb ok.ok) okr ⟨_, rfl, ?_⟩
      by_cases em : makes bs ps = rs
      case neg =>
        rw [decide_eq_false em]
        exact iteT (iteT (y.2 (fun l => em (li.mp l).1) _ g3))
      rw [decide_eq_true em]
      refine iteF ⟨_, rfl, ixT (g3 _ _ hd) (int_at (i := 0) (by omega)) ⟨rfl, _, rfl, ?_⟩⟩
      by_cases q0 : dv d 0 = 0
      case neg =>
        rw [decide_eq_false (show ¬ V.int (dv d 0) = V.int 0 by intro e; injection e with e; exact q0 e)]
        exact iteT (y.2 (fun l => q0 (li.mp l).2.2.1) _ g3)
      rw [decide_eq_true (show V.int (dv d 0) = V.int 0 by rw [q0])]
      refine iteF ?_
      show t_l_is_leastA_e K { nx := fun _ H' => Q .non H', rt := Q } [some (.ref M), some (.ref R), some (.ref T), some (.int t), some (.int p), some (.ref dd), z6, none, none] H3
      refine ⟨_, rfl, _, rfl, lenT (g3 _ _ hR) ?_⟩
      refine ixT (g3 _ _ hd) (v := .int (dv d rs.length)) (by rw [lr]; exact int_at (by omega)) ⟨_, rfl, ixT (g3 _ _ hT) rfl ⟨_, rfl, _, rfl, s, ps, t, p, rfl, hs.mono (.of g3), ok, t0, t1, p0, p1, rfl, _, rfl, ?_⟩⟩
      by_cases ql : dv d rs.length = cost t p ps
      case neg =>
        rw [decide_eq_false (show ¬ V.int (dv d rs.length) = V.int (cost t p ps) by intro e; injection e with e; exact ql e)]
        exact iteT (y.2 (fun l => ql (li.mp l).2.2.2.1) _ g3)
      rw [decide_eq_true (show V.int (dv d rs.length) = V.int (cost t p ps) by rw [ql])]
      exact iteF (least_f (H := H) g3 hM hR hd zb zr okb okr dl ⟨fun b H4 s4 => y.1 (li.mpr ⟨em, dl, q0, ql, b⟩) _ s4, fun b H4 s4 => y.2 (fun l => b (li.mp l).2.2.2.2) _ s4⟩)
end
end Fw

set_option Elab.async false
set_option linter.all false
set_option maxRecDepth 100000
set_option maxHeartbeats 4000000
namespace Fw
open PySem L2 RZ RT
def fInsert : V → List V → Hp → VK → Prop := fun x vs H Q => ∃ (l : Addr) (xs : List V) (i : Int) (y : V), x = .ref l ∧ vs = [.int i, y] ∧ H l = some (.lst xs) ∧ xs.length < sizeLine ∧ 0 ≤ i ∧ i < 2 ^ 63 ∧ Q .non (upd H l (.lst (xs.take i.toNat ++ [y] ++ xs.drop i.toNat)))
def sp_l_firsts (_ : PySem.W.Frag) : Sp := fun vs H Q _ => ∃ (M R : Addr) (bs rs : List Str) (t p : Int), vs = [.ref M, .ref R, .int t, .int p] ∧ RwAt H M bs ∧ RwAt H R rs ∧ bs.length ≤ 40 ∧ rs.length ≤ 40 ∧ (∀ z ∈ bs, OkS z) ∧ (∀ z ∈ rs, OkS z) ∧
  ∀ (F : Addr) (f : List Int) (H' : Hp), Same H H' → H F = none → H' F = some (.lst (f.map V.int)) → f.length = rs.length + 1 → Q (.ref F) H'
def sp_l_least_script (_ : PySem.W.Frag) : Sp := fun vs H Q _ => ∃ (M R F : Addr) (bs rs : List Str) (f : List Int) (t p : Int), vs = [.ref M, .ref R, .int t, .int p, .ref F] ∧ RwAt H M bs ∧ RwAt H R rs ∧ bs.length ≤ 40 ∧ rs.length ≤ 40 ∧ (∀ z ∈ bs, OkS z) ∧ (∀ z ∈ rs, OkS z) ∧ H F = some (.lst (f.map V.int)) ∧ f.length = rs.length + 1 ∧
  ∀ (a : Addr) (ps : List Pc) (H' : Hp), Same H H' → ScAt H' a ps → ScOk ps → Q (.ref a) H'
def sp_l_numbers (_ : PySem.W.Frag) : Sp := fun vs H Q _ => ∃ (c D F : Addr) (ns : List Int) (t : Nat) (f : List Int) (tot : Int), vs = [.ref D, .ref F, .int tot] ∧ Dk c D ns t H ∧ t + 10 < 1000000 ∧ H F = some (.lst (f.map V.int)) ∧ 0 < f.length ∧ f.length ≤ 41 ∧
  ∀ (a : Addr) (d : List Int) (H' : Hp), Kp D H H' → Dk c D ns (t + 10) H' → H' a = some (.tup (d.map V.int)) → d.length ≤ f.length + 1 → Q (.ref a) H'
section
variable {K : PySem.W.Frag} {vs : List V} {H : Hp} {Q : VK} {E : XK}
theorem len_l_firsts (h : sp_l_firsts K vs H Q E) : vs.length = 4 := by obtain ⟨_, _, _, _, _, _, rfl, _⟩ := h; rfl
theorem len_l_least_script (h : sp_l_least_script K vs H Q E) : vs.length = 5 := by obtain ⟨_, _, _, _, _, _, _, _, rfl, _⟩ := h; rfl
theorem len_l_numbers (h : sp_l_numbers K vs H Q E) : vs.length = 3 := by obtain ⟨_, _, _, _, _, _, _, rfl, _⟩ := h; rfl
end
abbrev N_l_firsts : List Str := ["_law_base", "_law_lines_here", "_law_by_take", "_law_by_put", "_law_firsts_here", "_law_place", "_law_best", "_law_ahead"]
def t_l_firsts (K : PySem.W.Frag) : TS := (tSeq (tAsg (tLst (tCons (tC (.int 0)) tNil)) (gName 4))
    (tSeq (tFor (iRng2 (tCons (tC (.int 1)) (tCons (tOp rAddI (tCB (fLen K) (tCons (tVar 1) tNil)) (tC (.int 1))) tNil))) (gName 5) (tSeq (tAsg (tOp rAddI (tOp (rIx K) (tVar 4) (tOp rSubI (tVar 5) (tC (.int 1)))) (tVar 3)) (gName 6))
    (tSeq (tFor (iRng1 (tCons (tVar 5) tNil)) (gName 7) (tIfS (tAnd (tTest (tOp rLtI (tOp rAddI (tOp (rIx K) (tVar 4) (tVar 7)) (tVar 2)) (tVar 6))) (tB (tCall (sp_l_stands K) [] E0 (tCons (tVar 0) (tCons (tSl (rSlA K) (tVar 1) (tPart (tVar 7)) (tPart (tVar 5))) tNil))))) (tAsg (tOp rAddI (tOp (rIx K) (tVar 4) (tVar 7)) (tVar 2)) (gName 6)) tNext))
    (tDrop (tBM K "list" rAppend (tVar 4) (tCons (tVar 6) tNil))))))
    (tRet (tVar 4))))
abbrev N_l_least_script : List Str := ["_law_base", "_law_lines_here", "_law_by_take", "_law_by_put", "_law_firsts_here", "_law_pieces", "_law_place", "_law_piece", "_law_size_here", "_law_ahead", "_law_many", "_law_begin"]
def t_l_least_script_inner (K : PySem.W.Frag) : TS := (tFor (iRng1 (tCons (tOp rAddI (tOp rSubI (tCB (fLen K) (tCons (tVar 0) tNil)) (tVar 10)) (tC (.int 1))) tNil)) (gName 11) (tIfS (tAnd (tTest (tOp rEq (tOp (rIx K) (tVar 7) (tC (.int 0))) (tC (.str "put")))) (tTest (tOp (rEqD K) (tSl (rSlA K) (tVar 0) (tPart (tVar 11)) (tPart (tOp rAddI (tVar 11) (tVar 10)))) (tSl (rSlA K) (tVar 1) (tPart (tVar 9)) (tPart (tVar 6)))))) (tSeq (tAsg (tTup (tCons (tC (.str "take")) (tCons (tVar 11) (tCons (tVar 10) tNil)))) (gName 7))
    (tAsg (tVar 10) (gName 8))) tNext))
def t_l_least_script_ins (K : PySem.W.Frag) : TS := (tSeq (tDrop (tBM K "list" fInsert (tVar 5) (tCons (tC (.int 0)) (tCons (tVar 7) tNil))))
    (tAsg (tOp rSubI (tVar 6) (tVar 8)) (gName 6)))
def t_l_least_script_loops (K : PySem.W.Frag) : TS := (tSeq (tFor (iRng1 (tCons (tVar 6) tNil)) (gName 9) (tIfS (tAnd (tTest (tOp rEq (tOp rAddI (tOp (rIx K) (tVar 4) (tVar 9)) (tVar 2)) (tOp (rIx K) (tVar 4) (tVar 6)))) (tTest (tOp rEq (tVar 8) (tC (.int 1))))) (tSeq (tAsg (tOp rSubI (tVar 6) (tVar 9)) (gName 10))
    (t_l_least_script_inner K)) tNext))
    (t_l_least_script_ins K))
def t_l_least_script_ret (K : PySem.W.Frag) : TS := (tRet (tCB (fTupleOf K) (tCons (tVar 5) tNil)))
def t_l_least_script (K : PySem.W.Frag) : TS := (tSeq (tAsg (tLst tNil) (gName 5))
    (tSeq (tAsg (tCB (fLen K) (tCons (tVar 1) tNil)) (gName 6))
    (tSeq (tWhile (tTest (tOp rGtI (tVar 6) (tC (.int 0)))) (tSeq (tAsg (tTup (tCons (tC (.str "put")) (tCons (tSl (rSlA K) (tVar 1) (tPart (tOp rSubI (tVar 6) (tC (.int 1)))) (tPart (tVar 6))) tNil))) (gName 7))
    (tSeq (tAsg (tC (.int 1)) (gName 8))
    (t_l_least_script_loops K))))
    (t_l_least_script_ret K))))
abbrev N_l_numbers : List Str := ["_law_deck_here", "_law_firsts_here", "_law_total", "_law_turn", "_law_numbers_here", "_law_place"]
def t_l_numbers_e (K : PySem.W.Frag) : TS := (tSeq (tIfS (tTest (tOp rEq (tVar 3) (tC (.int 5)))) (tAsg (tOp rCat (tVar 4) (tLst (tCons (tVar 2) tNil))) (gName 4)) tNext)
    (tRet (tCB (fTupleOf K) (tCons (tVar 4) tNil))))
def t_l_numbers_d (K : PySem.W.Frag) : TS := (tSeq (tIfS (tTest (tOp rEq (tVar 3) (tC (.int 4)))) (tSeq (tAsg (tCall (sp_l_draw K) [] E0 (tCons (tVar 0) (tCons (tCB (fLen K) (tCons (tVar 4) tNil)) tNil))) (gName 5))
    (tAsg (tOp rSubI (tOp (rIx K) (tVar 4) (tVar 5)) (tCall (sp_l_draw K) [] E0 (tCons (tVar 0) (tCons (tOp rPowI (tC (.int 10)) (tC (.int 9))) tNil)))) (gSub (tVar 4) (tVar 5) rSetL))) tNext)
    (t_l_numbers_e K))
def t_l_numbers_c (K : PySem.W.Frag) : TS := (tSeq (tIfS (tTest (tOp rEq (tVar 3) (tC (.int 3)))) (tSeq (tAsg (tCall (sp_l_draw K) [] E0 (tCons (tVar 0) (tCons (tCB (fLen K) (tCons (tVar 4) tNil)) tNil))) (gName 5))
    (tAsg (tOp rSubI (tOp rAddI (tOp (rIx K) (tVar 4) (tVar 5)) (tC (.int 1))) (tOp rMulI (tC (.int 2)) (tCall (sp_l_draw K) [] E0 (tCons (tVar 0) (tCons (tC (.int 2)) tNil))))) (gSub (tVar 4) (tVar 5) rSetL))) tNext)
    (t_l_numbers_d K))
def t_l_numbers_b (K : PySem.W.Frag) : TS := (tSeq (tIfS (tTest (tOp rEq (tVar 3) (tC (.int 2)))) (tSeq (tAsg (tOp rRep (tLst (tCons (tC (.int 0)) tNil)) (tCB (fLen K) (tCons (tVar 4) tNil))) (gName 4))
    (tAsg (tVar 2) (gSub (tVar 4) (tUn rNegI (tC (.int 1))) rSetL))) tNext)
    (t_l_numbers_c K))
def t_l_numbers (K : PySem.W.Frag) : TS := (tSeq (tAsg (tCall (sp_l_draw K) [] E0 (tCons (tVar 0) (tCons (tC (.int 6)) tNil))) (gName 3))
    (tSeq (tAsg (tCB (fListOf K) (tCons (tVar 1) tNil)) (gName 4))
    (tSeq (tIfS (tTest (tOp rEq (tVar 3) (tC (.int 1)))) (tAsg (tVar 2) (gSub (tVar 4) (tUn rNegI (tC (.int 1))) rSetL)) tNext)
    (t_l_numbers_b K))))
section
variable {K : PySem.W.Frag} {vs : List V} {H : Hp} {Q : VK} {E : XK}
theorem pure_l_firsts (h : sp_l_firsts K vs H Q E) : t_l_firsts K { nx := fun _ H' => Q .non H', rt := Q } (start N_l_firsts vs) H := by
  obtain ⟨M, R, bs, rs, t, p, rfl, hM, hR, zb, zr, okb, okr, k⟩ := h
  have lr : (rs.map V.str).length = rs.length := List.length_map ..
  refine ⟨by show (1 : Nat) ≤ sizeLine; decide, fun F nF => ?_⟩
  have s0 : Same H (upd H F (.lst [.int 0])) := samNw nF
  refine ⟨_, rfl, lenT (s0 _ _ hR) ⟨_, _, rfl, rfl, _, _, rfl, ⟨by decide, by decide, by omega, by omega⟩, ?_⟩⟩
  rw [show ((((rs.map V.str).length : Nat) : Int) + 1 - 1).toNat = rs.length by omega]
  refine for_range (lo := 1) (n := rs.length) (fun i σ H' => Same H H' ∧ ∃ (f : List Int) (z5 z6 z7 : Option V), H' F = some (.lst (f.map V.int)) ∧ f.length = i + 1 ∧ σ = [some (.ref M), some (.ref R), some (.int t), some (.int p), some (.ref F), z5, z6, z7]) ⟨s0, [0], none, none, none, updS, rfl, rfl⟩ ?_ ?_
  · rintro i σ H1 hi ⟨s1, f, z5, z6, z7, hF, hf, rfl⟩
    have e1 : (1 + (i : Int)) = ((i + 1 : Nat) : Int) := by omega
    have eb : atI (f.map V.int) (1 + (i : Int) - 1) = some (.int (dv f i)) := by rw [show (1 + (i : Int) - 1) = (i : Int) by omega]; exact int_at (by omega)
    refine ⟨_, rfl, _, rfl, _, _, rfl, rfl, ixL hF eb ⟨_, rfl, _, _, rfl, rfl, ?_⟩⟩
    refine ⟨_, rfl, _, rfl, by omega, by omega, ?_⟩
    refine for_range (lo := 0) (fun j σ H' => Same H H' ∧ H' F = some (.lst (f.map V.int)) ∧ ∃ (b : Int) (z7 : Option V), σ = [some (.ref M), some (.ref R), some (.int t), some (.int p), some (.ref F), some (.int (1 + (i : Int))), some (.int b), z7]) ⟨s1, hF, _, _, rfl⟩ ?_ ?_
    · rintro j σ H2 hj ⟨s2, hF2, b, z7, rfl⟩
      have hj : j < i + 1 := by omega
      have ej : atI (f.map V.int) (0 + (j : Int)) = some (.int (dv f j)) := by rw [Int.zero_add]; exact int_at (by omega)
      refine ⟨_, rfl, _, rfl, ixL hF2 ej ⟨_, rfl, _, _, rfl, rfl, _, rfl, _, _, rfl, rfl, _, rfl, ?_⟩⟩
      refine ite2 (fun q => ?_) fun q => iteF ⟨s2, hF2, b, _, rfl⟩
      refine ⟨_, rfl, _, rfl, _, rfl, _, rfl, _, rfl, _, rfl, ?_⟩
      show rSlA K (.ref R) (some (0 + (j : Int))) (some (1 + (i : Int))) H2 _
      rw [Int.zero_add, e1]
      refine slB (s2 _ _ hR) (by omega) (by omega) fun r H3 s3 hr => ⟨M, r, bs, _, rfl, s3 _ _ (s2 _ _ hM), hr, by omega, by rw [List.length_take]; omega, okb, fun z hz => okr z (List.mem_of_mem_drop (List.mem_of_mem_take hz)), fun b2 H4 hb s4 => ⟨_, rfl, ?_⟩⟩
      have s34 := s3.trans s4
      cases b2 with
      | true =>
        refine iteT ⟨_, rfl, _, rfl, ixL (s34 _ _ hF2) (v := .int (dv f j)) (int_at (by omega)) ⟨_, rfl, _, _, rfl, rfl, s2.trans s34, s34 _ _ hF2, _, _, rfl⟩⟩
      | false =>
        exact iteF ⟨s2.trans s34, s34 _ _ hF2, b, _, rfl⟩
    · rintro σ H2 ⟨s2, hF2, b, z7, rfl⟩
      refine ⟨_, rfl, .inl ⟨rfl, _, sqL hF2⟩, _, rfl, F, _, _, rfl, rfl, hF2, ?_, Same.updI s2 nF, f ++ [b], _, _, _, ?_, ?_, rfl⟩
      · rw [List.length_map]
        exact Nat.lt_of_le_of_lt (show f.length ≤ 1000 by omega) (by decide)
      · rw [updS, List.map_append]
        rfl
      · rw [List.length_append, hf]
        rfl
  · rintro σ H1 ⟨s1, f, z5, z6, z7, hF, hf, rfl⟩
    exact ⟨_, rfl, k F f H1 s1 nF hF hf⟩
theorem PsAt.cons {as : List Addr} {ps : List Pc} {T : Addr} {p : Pc} (h : PsAt H as ps) (hT : PcAt H T p) : PsAt H (T :: as) (p :: ps) := by
  refine ⟨by rw [List.length_cons, List.length_cons, h.1], fun i a m h1 h2 => ?_⟩
  cases i with
  | zero =>
    cases Option.some.inj h1
    cases Option.some.inj h2
    exact hT
  | succ i => exact h.2 i a m h1 h2
/-- the state of the script from behind -/
def LsP (H : Hp) (M R F L : Addr) (rs : List Str) (t p : Int) (σ : L2.St) (H' : Hp) : Prop := ∃ (as : List Addr) (ps : List Pc) (pl : Nat) (z7 z8 z9 z10 z11 : Option V), Same H H' ∧ H' L = some (.lst (as.map V.ref)) ∧ PsAt H' as ps ∧ (∀ q ∈ ps, q.ok) ∧ total ps + pl = rs.length ∧
  σ = [some (.ref M), some (.ref R), some (.int t), some (.int p), some (.ref F), some (.ref L), some (.int (pl : Int)), z7, z8, z9, z10, z11]
/-- a piece is found: it stands at 7, its size at 8 -/
def Pcd (pl : Nat) (σ7 σ8 : Option V) (H : Hp) : Prop := ∃ (T : Addr) (q : Pc), σ7 = some (.ref T) ∧ σ8 = some (.int (q.n : Int)) ∧ PcAt H T q ∧ q.ok ∧ q.n ≤ pl
theorem Pcd.mono {pl : Nat} {a b : Option V} {H H' : Hp} (h : Pcd pl a b H) (s : Same H H') : Pcd pl a b H' := by
  obtain ⟨T, q, h1, h2, h3, h4⟩ := h
  exact ⟨T, q, h1, h2, h3.mono (.of s), h4⟩
theorem script_ins {M R F L : Addr} {rs : List Str} {t p : Int} {as : List Addr} {ps : List Pc} {pl : Nat} {z7 z8 z9 z10 z11 : Option V} {H1 : Hp} {Dn : Ends} (nL : H L = none) (s : Same H H1) (hL : H1 L = some (.lst (as.map V.ref))) (hp : PsAt H1 as ps) (ok : ∀ q ∈ ps, q.ok) (tot : total ps + pl = rs.length) (zr : rs.length ≤ 40) (pc : Pcd pl z7 z8 H1)
    (k : ∀ σ' H', LsP H M R F L rs t p σ' H' ∧ slotN 6 σ' < pl → Dn.nx σ' H') : t_l_least_script_ins K Dn [some (.ref M), some (.ref R), some (.int t), some (.int p), some (.ref F), some (.ref L), some (.int (pl : Int)), z7, z8, z9, z10, z11] H1 := by
  obtain ⟨T, q, rfl, rfl, hT, okq, hn⟩ := pc
  have q1 := Pc.one okq
  have lt := len_le_total ok
  have la : as.length = ps.length := hp.1
  refine ⟨_, rfl, .inl ⟨rfl, _, sqL hL⟩, _, rfl, L, _, _, _, rfl, rfl, hL, ?_, by decide, by decide, ?_⟩
  · rw [List.length_map]
    exact Nat.lt_of_le_of_lt (show as.length ≤ 1000 by omega) (by decide)
  have tm : TM H1 (upd H1 L (.lst (.ref T :: as.map V.ref))) := fun a xs h => updN (ne_of h hL (by intro z; cases z)) h
  refine ⟨_, rfl, _, rfl, _, _, rfl, rfl, k _ _ ⟨⟨T :: as, q :: ps, pl - q.n, some (.ref T), some (.int (q.n : Int)), z9, z10, z11, Same.updI s nL, updS, (hp.cons hT).mono tm, fun r hr => ?_, ?_, ?_⟩, ?_⟩⟩
  · rcases List.mem_cons.mp hr with rfl | hr
    · exact okq
    · exact ok r hr
  · show q.n + total ps + (pl - q.n) = rs.length
    omega
  · rw [show ((pl - q.n : Nat) : Int) = (pl : Int) - (q.n : Int) by omega]
    rfl
  · show ((pl : Int) - (q.n : Int)).toNat < pl
    omega
end
end Fw

set_option Elab.async false
set_option linter.all false
set_option maxRecDepth 100000
set_option maxHeartbeats 4000000
namespace Fw
open PySem L2 RZ RT
section
variable {K : PySem.W.Frag} {vs : List V} {H : Hp} {Q : VK} {E : XK}
theorem script_loops {M R F L : Addr} {bs rs : List Str} {f : List Int} {t p : Int} {as : List Addr} {ps : List Pc} {pl : Nat} {z7 z8 z9 z10 z11 : Option V} {H1 : Hp} {Dn : Ends} (nL : H L = none) (s : Same H H1) (hM : RwAt H M bs) (hR : RwAt H R rs) (zb : bs.length ≤ 40) (zr : rs.length ≤ 40) (okb : ∀ z ∈ bs, OkS z) (okr : ∀ z ∈ rs, OkS z) (hF : H F = some (.lst (f.map V.int))) (hf : f.length = rs.length + 1)
    (hL : H1 L = some (.lst (as.map V.ref))) (hp : PsAt H1 as ps) (ok : ∀ q ∈ ps, q.ok) (tot : total ps + pl = rs.length) (pc : Pcd pl z7 z8 H1)
    (k : ∀ σ' H', LsP H M R F L rs t p σ' H' ∧ slotN 6 σ' < pl → Dn.nx σ' H') : t_l_least_script_loops K Dn [some (.ref M), some (.ref R), some (.int t), some (.int p), some (.ref F), some (.ref L), some (.int (pl : Int)), z7, z8, z9, z10, z11] H1 := by
  have lb : (bs.map V.str).length = bs.length := List.length_map ..
  refine ⟨_, rfl, _, rfl, by omega, by omega, ?_⟩
  refine for_range (lo := 0) (fun i σ H' => Same H1 H' ∧ ∃ z7 z8 z9 z10 z11, Pcd pl z7 z8 H' ∧ σ = [some (.ref M), some (.ref R), some (.int t), some (.int p), some (.ref F), some (.ref L), some (.int (pl : Int)), z7, z8, z9, z10, z11]) ⟨Same.refl _, z7, z8, z9, z10, z11, pc, rfl⟩ ?_ ?_
  · rintro i σ H2 hi ⟨s2, z7, z8, z9, z10, z11, pc2, rfl⟩
    have hi : i < pl := by omega
    have hF2 := s2 _ _ (s _ _ hF)
    have ei : atI (f.map V.int) (0 + (i : Int)) = some (.int (dv f i)) := by rw [Int.zero_add]; exact int_at (by omega)
    have ep : atI (f.map V.int) (pl : Int) = some (.int (dv f pl)) := int_at (by omega)
    obtain ⟨T, q, rfl, rfl, hT, okq, hn⟩ := id pc2
    refine ⟨_, rfl, _, rfl, ixL hF2 ei ⟨_, rfl, _, _, rfl, rfl, _, rfl, _, rfl, ixL hF2 ep ⟨rfl, _, rfl, ite2 (fun _ => ?_) fun _ => iteF ⟨s2, _, _, _, _, _, pc2, rfl⟩⟩⟩⟩
    refine ⟨_, rfl, rfl, _, rfl, ite2 (fun _ => ?_) fun _ => ⟨s2, _, _, _, _, _, pc2, rfl⟩⟩
    refine ⟨_, rfl, _, rfl, _, _, rfl, rfl, ?_⟩
    have em : (pl : Int) - (0 + (i : Int)) = ((pl - i : Nat) : Int) := by omega
    show t_l_least_script_inner K _ [some (.ref M), some (.ref R), some (.int t), some (.int p), some (.ref F), some (.ref L), some (.int (pl : Int)), some (.ref T), some (.int (q.n : Int)), some (.int (0 + (i : Int))), some (.int ((pl : Int) - (0 + (i : Int)))), z11] H2
    rw [em]
    refine ⟨_, rfl, lenT (s2 _ _ (s _ _ hM)) ⟨_, rfl, _, _, rfl, rfl, _, _, rfl, rfl, _, rfl, by omega, by omega, ?_⟩⟩
    refine for_range (lo := 0) (fun j σ H' => Same H1 H' ∧ ∃ z7 z8 z11, Pcd pl z7 z8 H' ∧ σ = [some (.ref M), some (.ref R), some (.int t), some (.int p), some (.ref F), some (.ref L), some (.int (pl : Int)), z7, z8, some (.int (0 + (i : Int))), some (.int ((pl - i : Nat) : Int)), z11]) ⟨s2, _, _, _, pc2, rfl⟩ ?_ ?_
    · rintro j σ H3 hj ⟨s3, z7, z8, z11, pc3, rfl⟩
      have hj : j + (pl - i) ≤ bs.length := by omega
      obtain ⟨T3, q3, rfl, rfl, hT3, okq3, hn3⟩ := id pc3
      refine ⟨_, rfl, hT3.word (fun b m e => ⟨rfl, _, rfl, ?_⟩) fun rr e => ⟨rfl, _, rfl, ?_⟩⟩
      · rw [take_put]
        exact iteF (iteF ⟨s3, _, _, _, pc3, rfl⟩)
      · rw [decide_eq_true rfl]
        refine iteT ⟨_, rfl, _, rfl, _, rfl, _, rfl, _, rfl, _, _, rfl, rfl, _, rfl, ?_⟩
        show rSlA K (.ref M) (some (0 + (j : Int))) (some (0 + (j : Int) + ((pl - i : Nat) : Int))) H3 _
        rw [Int.zero_add]
        refine slA (s3 _ _ (s _ _ hM)) hj fun r1 H4 s4 hr1 => ?_
        refine ⟨_, rfl, _, rfl, _, rfl, _, rfl, _, rfl, ?_⟩
        show rSlA K (.ref R) (some (0 + (i : Int))) (some (pl : Int)) H4 _
        rw [Int.zero_add]
        refine slB (s4 _ _ (s3 _ _ (s _ _ hR))) (by omega) (by omega) fun r2 H5 s5 hr2 => ?_
        have s35 := (s3.trans s4).trans s5
        refine rows_eq (s5 _ _ hr1) hr2 (fun z hz => okb z (List.mem_of_mem_drop (List.mem_of_mem_take hz))) (fun z hz => okr z (List.mem_of_mem_drop (List.mem_of_mem_take hz))) ⟨_, rfl, ite2 (fun _ => ?_) fun _ => ⟨s35, _, _, _, pc3.mono (s4.trans s5), rfl⟩⟩
        refine ⟨_, rfl, _, rfl, by show (3 : Nat) ≤ sizeLine; decide, fun T6 nT6 => ⟨_, rfl, ?_⟩⟩
        refine ⟨s35.trans (samNw nT6), _, _, _, ⟨T6, .take j (pl - i), rfl, rfl, updS, show 1 ≤ pl - i by omega, show pl - i ≤ pl by omega⟩, rfl⟩
    · rintro σ H3 ⟨s3, z7, z8, z11, pc3, rfl⟩
      exact ⟨s3, _, _, _, _, _, pc3, rfl⟩
  · rintro σ H2 ⟨s2, z7, z8, z9, z10, z11, pc2, rfl⟩
    exact script_ins nL (s.trans s2) (s2 _ _ hL) (hp.mono (.of s2)) ok tot zr pc2 k
theorem pure_l_least_script (h : sp_l_least_script K vs H Q E) : t_l_least_script K { nx := fun _ H' => Q .non H', rt := Q } (start N_l_least_script vs) H := by
  obtain ⟨M, R, F, bs, rs, f, t, p, rfl, hM, hR, zb, zr, okb, okr, hF, hf, k⟩ := h
  have lr : (rs.map V.str).length = rs.length := List.length_map ..
  refine ⟨Nat.zero_le _, fun L nL => ?_⟩
  have s0 : Same H (upd H L (.lst [])) := samNw nL
  refine ⟨_, rfl, lenT (s0 _ _ hR) ?_⟩
  rw [lr]
  show tSeq (tWhile _ _) _ _ [some (.ref M), some (.ref R), some (.int t), some (.int p), some (.ref F), some (.ref L), some (.int (rs.length : Int)), none, none, none, none, none] _
  refine while_by (LsP H M R F L rs t p) (fun σ _ => slotN 6 σ) ⟨[], [], rs.length, none, none, none, none, none, s0, updS, .nil, (fun q hq => by cases hq), by show 0 + rs.length = _; omega, rfl⟩ ?_ (fun σ H Q Q' f h => by
    obtain ⟨v, e, i, j, e1, e2, b, e3, q⟩ := h
    exact ⟨v, e, i, j, e1, e2, b, e3, f _ _ q⟩)
  rintro σ H1 ⟨as, ps, pl, z7, z8, z9, z10, z11, s1, hL, hp, ok, tot, rfl⟩
  refine ⟨_, rfl, _, _, rfl, rfl, _, rfl, ite2 (fun e => ?_) (fun e => ?_)⟩
  · have hpl : (0 : Int) < (pl : Int) := of_decide_eq_true e
    refine ⟨_, rfl, _, rfl, _, _, rfl, rfl, _, rfl, _, rfl, _, rfl, ?_⟩
    show rSlA K (.ref R) (some ((pl : Int) - 1)) (some (pl : Int)) H1 _
    rw [show (pl : Int) - 1 = ((pl - 1 : Nat) : Int) by omega]
    refine slB (s1 _ _ hR) (by omega) (by omega) fun r H2 s2 hr => ⟨by show (2 : Nat) ≤ sizeLine; decide, fun T nT => ?_⟩
    have s3 := samNw (o := .tup [.str "put", .ref r]) nT
    have s23 := s2.trans s3
    have l1 : ((rs.drop (pl - 1)).take (pl - (pl - 1))).length = 1 := by rw [List.length_take, List.length_drop]; omega
    refine script_loops nL (s1.trans s23) hM hR zb zr okb okr hF hf (s23 _ _ hL) (hp.mono (.of s23)) ok tot ⟨T, .put ((rs.drop (pl - 1)).take (pl - (pl - 1))), rfl, ?_, ⟨r, updS, s3 _ _ hr⟩, ⟨?_, fun z hz => okr z (List.mem_of_mem_drop (List.mem_of_mem_take hz))⟩, ?_⟩ fun σ' H' h => h
    · show some (V.int 1) = some (V.int ((((rs.drop (pl - 1)).take (pl - (pl - 1))).length : Nat) : Int))
      rw [l1]
      rfl
    · intro e
      rw [e] at l1
      cases l1
    · show ((rs.drop (pl - 1)).take (pl - (pl - 1))).length ≤ pl
      omega
  · have hpl : ¬ (0 : Int) < (pl : Int) := fun q => e (decide_eq_true q)
    refine ⟨_, rfl, L, _, rfl, .inl ⟨sqL hL, fun a na => k a ps _ (s1.trans (samNw na)) ⟨as, updS, hp.mono (.of (samNw na))⟩ ⟨ok, by omega⟩⟩⟩
/-- the numbers on the way -/
def NmP (H : Hp) (c D F : Addr) (ns : List Int) (t m : Nat) (tot tu : Int) (σ : L2.St) (H' : Hp) : Prop := ∃ (N : Addr) (d : List Int) (z5 : Option V), H N = none ∧ Kp D H H' ∧ Dk c D ns t H' ∧ H' N = some (.lst (d.map V.int)) ∧ 0 < d.length ∧ d.length ≤ m ∧ σ = [some (.ref D), some (.ref F), some (.int tot), some (.int tu), some (.ref N), z5]
theorem last_ixN {n : Nat} (h : 0 < n) : ixN n (-1) = some (n - 1) := by
  unfold ixN
  rw [if_neg (by decide), if_pos (by omega)]
  congr 1
  omega
theorem set_ints {d : List Int} {j : Nat} {v : Int} : (d.map V.int).set j (.int v) = (d.set j v).map V.int := by rw [List.map_set]
theorem numbers_e {c D F : Addr} {ns : List Int} {t mx : Nat} {tot tu : Int} {σ : L2.St} {H1 : Hp} (hmx : mx ≤ 41) (dk0 : H D ≠ none) (h : NmP H c D F ns t mx tot tu σ H1) (k : ∀ (a : Addr) (d : List Int) (H' : Hp), Kp D H H' → Dk c D ns t H' → H' a = some (.tup (d.map V.int)) → d.length ≤ mx + 1 → Q (.ref a) H') :
    t_l_numbers_e K { nx := fun _ H' => Q .non H', rt := Q } σ H1 := by
  obtain ⟨N, d, z5, nN, k1, d1, hN, l0, l1, rfl⟩ := h
  refine ⟨_, rfl, rfl, _, rfl, ite2 (fun _ => ?_) fun _ => ?_⟩
  · refine ⟨_, rfl, _, rfl, by show (1 : Nat) ≤ sizeLine; decide, fun q nq => ?_⟩
    have nqD := d1.neD nq
    have d2 := d1.upd (o := .lst [.int tot]) (d1.neC nq) nqD
    have k2 : Kp D H1 (upd H1 q (.lst [.int tot])) := Kp.new nq
    have hN2 : upd H1 q (.lst [.int tot]) N = some (.lst (d.map V.int)) := updN (ne_of_none hN nq) hN
    refine ⟨N, q, _, _, rfl, rfl, hN2, updS, ?_, fun r nr => ?_⟩
    · rw [List.length_map]
      exact Nat.le_trans (show d.length + 1 ≤ 1000 by omega) (by decide)
    have e : d.map V.int ++ [V.int tot] = (d ++ [tot]).map V.int := by rw [List.map_append]; rfl
    rw [e]
    refine ⟨_, rfl, r, _, rfl, .inl ⟨sqL updS, fun a na => k a (d ++ [tot]) _ (((k1.trans k2).trans (Kp.new nr)).trans (Kp.new na)) ?_ updS (by rw [List.length_append]; show _ + 1 ≤ _; omega)⟩⟩
    have d3 := d2.upd (o := .lst ((d ++ [tot]).map V.int)) (d2.neC nr) (d2.neD nr)
    exact d3.upd (d3.neC na) (d3.neD na)
  · refine ⟨_, rfl, N, _, rfl, .inl ⟨sqL hN, fun a na => k a d _ (k1.trans (Kp.new na)) (d1.upd (d1.neC na) (d1.neD na)) updS (by omega)⟩⟩
end
end Fw

set_option Elab.async false
set_option linter.all false
set_option maxRecDepth 100000
set_option maxHeartbeats 4000000
namespace Fw
open PySem L2 RZ RT
section
variable {K : PySem.W.Frag} {vs : List V} {H : Hp} {Q : VK} {E : XK}
theorem Kp.updF {D N : Addr} {H H' : Hp} {o : HO} (k : Kp D H H') (n : H N = none) : Kp D H (upd H' N o) := fun b u e ne => updN (ne_of_none e n) (k b u e ne)
theorem NmP.set {c D F N : Addr} {ns : List Int} {t t0 m j : Nat} {tot tu v : Int} {z5 : Option V} {d : List Int} {H' : Hp} (dk0 : Dk c D ns t0 H) (nN : H N = none) (k : Kp D H H') (d1 : Dk c D ns t H') (l0 : 0 < d.length) (l1 : d.length ≤ m) :
    NmP H c D F ns t m tot tu [some (.ref D), some (.ref F), some (.int tot), some (.int tu), some (.ref N), z5] (upd H' N (.lst ((d.map V.int).set j (.int v)))) :=
  ⟨N, d.set j v, z5, nN, k.updF nN, d1.upd (dk0.neC nN) (dk0.neD nN), by rw [updS, set_ints], by rw [List.length_set]; exact l0, by rw [List.length_set]; exact l1, rfl⟩
theorem ix_nat {n m : Nat} (h : m < n) : ixN n (m : Int) = some m := by
  unfold ixN
  rw [if_pos (by omega), if_pos (by omega)]
  rfl
theorem numbers_d {c D F : Addr} {ns : List Int} {t t0 mx : Nat} {tot tu : Int} {σ : L2.St} {H1 : Hp} (hmx : mx ≤ 41) (dk0 : Dk c D ns t0 H) (ht : t + 2 < 1000000) (h : NmP H c D F ns t mx tot tu σ H1) (k : ∀ (a : Addr) (d : List Int) (H' : Hp), Kp D H H' → Dk c D ns (t + 2) H' → H' a = some (.tup (d.map V.int)) → d.length ≤ mx + 1 → Q (.ref a) H') :
    t_l_numbers_d K { nx := fun _ H' => Q .non H', rt := Q } σ H1 := by
  obtain ⟨N, d, z5, nN, k1, d1, hN, l0, l1, rfl⟩ := h
  have ND : N ≠ D := dk0.neD nN
  have hD := dk_some dk0
  have ld : (d.map V.int).length = d.length := List.length_map ..
  refine ⟨_, rfl, rfl, _, rfl, ite2 (fun _ => ?_) fun _ => ?_⟩
  · refine ⟨_, rfl, _, rfl, lenL hN ⟨c, D, ns, t, _, rfl, d1, by omega, by omega, small100 (by omega), fun v H2 v0 v1 d2 fr2 => ?_⟩⟩
    obtain ⟨m, rfl⟩ := Int.eq_ofNat_of_zero_le v0
    have hm : m < d.length := by omega
    have hN2 : H2 N = some (.lst (d.map V.int)) := by rw [fr2 _ ND]; exact hN
    refine ⟨_, rfl, _, rfl, ixL hN2 (int_at hm) ⟨_, rfl, _, _, rfl, rfl, ⟨by decide, by decide, by decide⟩, c, D, ns, t + 1, _, rfl, d2, by omega, by decide, by decide, fun w H3 w0 w1 d3 fr3 => ?_⟩⟩
    have hN3 : H3 N = some (.lst (d.map V.int)) := by rw [fr3 _ ND]; exact hN2
    have k3 : Kp D H H3 := (k1.trans (.fr fr2)).trans (.fr fr3)
    refine ⟨_, _, rfl, rfl, _, rfl, _, rfl, N, _, _, m, rfl, rfl, hN3, by rw [ld]; exact ix_nat hm, ?_⟩
    exact numbers_e hmx hD (NmP.set dk0 nN k3 d3 l0 l1) k
  · exact numbers_e hmx hD ⟨N, d, z5, nN, k1, d1.le (by omega), hN, l0, l1, rfl⟩ k
theorem numbers_c {c D F : Addr} {ns : List Int} {t t0 mx : Nat} {tot tu : Int} {σ : L2.St} {H1 : Hp} (hmx : mx ≤ 41) (dk0 : Dk c D ns t0 H) (ht : t + 4 < 1000000) (h : NmP H c D F ns t mx tot tu σ H1) (k : ∀ (a : Addr) (d : List Int) (H' : Hp), Kp D H H' → Dk c D ns (t + 4) H' → H' a = some (.tup (d.map V.int)) → d.length ≤ mx + 1 → Q (.ref a) H') :
    t_l_numbers_c K { nx := fun _ H' => Q .non H', rt := Q } σ H1 := by
  obtain ⟨N, d, z5, nN, k1, d1, hN, l0, l1, rfl⟩ := h
  have ND : N ≠ D := dk0.neD nN
  have ld : (d.map V.int).length = d.length := List.length_map ..
  refine ⟨_, rfl, rfl, _, rfl, ite2 (fun _ => ?_) fun _ => ?_⟩
  · refine ⟨_, rfl, _, rfl, lenL hN ⟨c, D, ns, t, _, rfl, d1, by omega, by omega, small100 (by omega), fun v H2 v0 v1 d2 fr2 => ?_⟩⟩
    obtain ⟨m, rfl⟩ := Int.eq_ofNat_of_zero_le v0
    have hm : m < d.length := by omega
    have hN2 : H2 N = some (.lst (d.map V.int)) := by rw [fr2 _ ND]; exact hN
    refine ⟨_, rfl, _, rfl, ixL hN2 (int_at hm) ⟨_, _, rfl, rfl, _, rfl, c, D, ns, t + 1, 2, rfl, d2, by omega, by decide, by decide, fun w H3 w0 w1 d3 fr3 => ?_⟩⟩
    have hN3 : H3 N = some (.lst (d.map V.int)) := by rw [fr3 _ ND]; exact hN2
    have k3 : Kp D H H3 := (k1.trans (.fr fr2)).trans (.fr fr3)
    refine ⟨_, _, rfl, rfl, .inl ⟨by decide, by decide⟩, _, _, rfl, rfl, _, rfl, _, rfl, N, _, _, m, rfl, rfl, hN3, by rw [ld]; exact ix_nat hm, ?_⟩
    exact numbers_d hmx dk0 (by omega) (NmP.set dk0 nN k3 d3 l0 l1) k
  · exact numbers_d hmx dk0 (by omega) ⟨N, d, z5, nN, k1, d1.le (by omega), hN, l0, l1, rfl⟩ k
theorem numbers_b {c D F : Addr} {ns : List Int} {t t0 mx : Nat} {tot tu : Int} {σ : L2.St} {H1 : Hp} (hmx : mx ≤ 41) (dk0 : Dk c D ns t0 H) (ht : t + 4 < 1000000) (h : NmP H c D F ns t mx tot tu σ H1) (k : ∀ (a : Addr) (d : List Int) (H' : Hp), Kp D H H' → Dk c D ns (t + 4) H' → H' a = some (.tup (d.map V.int)) → d.length ≤ mx + 1 → Q (.ref a) H') :
    t_l_numbers_b K { nx := fun _ H' => Q .non H', rt := Q } σ H1 := by
  obtain ⟨N, d, z5, nN, k1, d1, hN, l0, l1, rfl⟩ := h
  have ld : (d.map V.int).length = d.length := List.length_map ..
  refine ⟨_, rfl, rfl, _, rfl, ite2 (fun _ => ?_) fun _ => ?_⟩
  · refine ⟨by show (1 : Nat) ≤ sizeLine; decide, fun Z nZ => ?_⟩
    have d2 := d1.upd (o := .lst [.int 0]) (d1.neC nZ) (d1.neD nZ)
    have hN2 : upd H1 Z (.lst [.int 0]) N = some (.lst (d.map V.int)) := updN (ne_of_none hN nZ) hN
    refine ⟨_, rfl, lenL hN2 ⟨Z, _, _, rfl, rfl, updS, by omega, by omega, ?_, fun W nW => ?_⟩⟩
    · show 1 * (((d.map V.int).length : Nat) : Int).toNat ≤ sizeLine
      exact Nat.le_trans (show _ ≤ 1000 by omega) (by decide)
    have k2 : Kp D H (upd H1 Z (.lst [.int 0])) := k1.trans (Kp.new nZ)
    have nW0 : H W = none := k2.free nW (d2.neD nW)
    have e : (List.replicate (((d.map V.int).length : Nat) : Int).toNat [V.int 0]).flatten = (List.replicate d.length (0 : Int)).map V.int := by
      rw [ld, show ((d.length : Nat) : Int).toNat = d.length by omega, List.map_replicate, List.flatten_replicate_singleton]
    rw [e]
    refine ⟨_, rfl, _, rfl, _, rfl, W, _, _, d.length - 1, rfl, rfl, updS, by rw [List.length_map, List.length_replicate]; exact last_ixN l0, ?_⟩
    exact numbers_c hmx dk0 ht (NmP.set dk0 nW0 (k2.updF nW0) (d2.upd (d2.neC nW) (d2.neD nW)) (by rw [List.length_replicate]; exact l0) (by rw [List.length_replicate]; exact l1)) k
  · exact numbers_c hmx dk0 ht ⟨N, d, z5, nN, k1, d1, hN, l0, l1, rfl⟩ k
theorem pure_l_numbers (h : sp_l_numbers K vs H Q E) : t_l_numbers K { nx := fun _ H' => Q .non H', rt := Q } (start N_l_numbers vs) H := by
  obtain ⟨c, D, F, ns, t, f, tot, rfl, dk, ht, hF, f0, f1, k⟩ := h
  refine ⟨_, rfl, c, D, ns, t, 6, rfl, dk, by omega, by decide, by decide, fun tu H1 u0 u1 d1 fr1 => ?_⟩
  have FD : F ≠ D := fun e => by
    obtain ⟨x1, x2, x3, i, n, u, x4, r⟩ := dk
    rw [e, x4] at hF
    injection hF with hF
    injection hF with hF
    cases f with
    | nil => cases hF
    | cons a b =>
      injection hF with h1 _
      cases h1
  have hF1 : H1 F = some (.lst (f.map V.int)) := by rw [fr1 _ FD]; exact hF
  have k1 : Kp D H H1 := .fr fr1
  refine ⟨_, rfl, F, _, rfl, .inl (sqL hF1), fun N nN => ?_⟩
  have nN0 : H N = none := k1.free nN (d1.neD nN)
  have d2 := d1.upd (o := .lst (f.map V.int)) (d1.neC nN) (d1.neD nN)
  refine ⟨_, rfl, rfl, _, rfl, ite2 (fun _ => ?_) fun _ => ?_⟩
  · refine ⟨_, rfl, _, rfl, _, rfl, N, _, _, f.length - 1, rfl, rfl, updS, by rw [List.length_map]; exact last_ixN f0, ?_⟩
    exact numbers_b f1 dk (by omega) (NmP.set dk nN0 (k1.updF nN0) d2 f0 (Nat.le_refl _)) fun a d H' kk dd => k a d H' kk (dd.le (by omega))
  · exact numbers_b f1 dk (by omega) ⟨N, f, _, nN0, k1.updF nN0, d2, updS, f0, Nat.le_refl _, rfl⟩ fun a d H' kk dd => k a d H' kk (dd.le (by omega))
end
end Fw

set_option Elab.async false
set_option linter.all false
set_option maxRecDepth 100000
set_option maxHeartbeats 4000000
namespace Fw
open PySem L2 RZ RT
abbrev N_law : List Str := ["_law_script_here", "_law_deck_here", "_law_stock_here", "_law_k", "_law_times", "_law_own", "_law_greatest", "_law_base", "_law_pieces", "_law_lines_here", "_law_by_take", "_law_by_put", "_law_firsts_here", "_law_numbers_here", "_law_thing", "_law_due"]
def t_law_look (K : PySem.W.Frag) : TS := (tSeq (tAsg (tCall (sp_l_is_leastA K) [] E0 (tCons (tVar 7) (tCons (tVar 9) (tCons (tVar 14) (tCons (tVar 10) (tCons (tVar 11) tNil)))))) (gName 15))
    (tSeq (tIfS (tNot (tB (tCall (sp_l_same2 K) [] E0 (tCons (tCallN 3 (List.length (α := Str) ["put", "take"]) (sp_right_leastA K) (fun us ws => (fun mv : List V => us ++ ((ws.drop 1).take 1 ++ (ws.drop 0).take 1)) []) E0 (tCons (tVar 7) (tCons (tVar 9) (tCons (tVar 14) tNil))) (tCons (tVar 11) (tCons (tVar 10) tNil))) (tCons (tVar 15) tNil))))) (tRet (tC (.bl false))) tNext)
    (tSeq (tAsg (tCall (sp_l_is_leastA K) [] E0 (tCons (tVar 7) (tCons (tVar 9) (tCons (tVar 14) (tCons (tC (.int 3)) (tCons (tC (.int 2)) tNil)))))) (gName 15))
    (tSeq (tIfS (tNot (tB (tCall (sp_l_same2 K) [] E0 (tCons (tCall (sp_right_leastA K) [.int 3, .int 2] E0 (tCons (tVar 7) (tCons (tVar 9) (tCons (tVar 14) tNil)))) (tCons (tVar 15) tNil))))) (tRet (tC (.bl false))) tNext)
    (tSeq (tAsg (tCall (sp_l_is_leastA K) [] E0 (tCons (tVar 7) (tCons (tVar 9) (tCons (tVar 14) (tCons (tVar 10) (tCons (tC (.int 2)) tNil)))))) (gName 15))
    (tIfS (tNot (tB (tCall (sp_l_same2 K) [] E0 (tCons (tCallN 3 (List.length (α := Str) ["take"]) (sp_right_leastA K) (fun us ws => (fun mv : List V => us ++ ((ws.drop 0).take 1 ++ (mv.drop 0).take 1)) [V.int 2]) E0 (tCons (tVar 7) (tCons (tVar 9) (tCons (tVar 14) tNil))) (tCons (tVar 10) tNil)) (tCons (tVar 15) tNil))))) (tRet (tC (.bl false))) tNext))))))
def t_law_numbers (K : PySem.W.Frag) : TS := (tSeq (tAsg (tCall (sp_l_numbers K) [] E0 (tCons (tVar 1) (tCons (tVar 12) (tCons (tCall (sp_l_cost K) [] E0 (tCons (tVar 8) (tCons (tVar 10) (tCons (tVar 11) tNil)))) tNil)))) (gName 13))
    (tSeq (tAsg (tCall (sp_l_spoiled K) [] E0 (tCons (tVar 1) (tCons (tTup (tCons (tVar 8) (tCons (tVar 13) tNil))) (tCons (tVar 4) tNil)))) (gName 14))
    (t_law_look K)))
def t_law_firsts (K : PySem.W.Frag) : TS := (tSeq (tAsg (tCall (sp_l_firsts K) [] E0 (tCons (tVar 7) (tCons (tVar 9) (tCons (tVar 10) (tCons (tVar 11) tNil))))) (gName 12))
    (tSeq (tIfS (tTest (tOp rEq (tVar 5) (tC (.int 0)))) (tAsg (tCall (sp_l_least_script K) [] E0 (tCons (tVar 7) (tCons (tVar 9) (tCons (tVar 10) (tCons (tVar 11) (tCons (tVar 12) tNil)))))) (gName 8)) tNext)
    (t_law_numbers K)))
def t_law (K : PySem.W.Frag) : TS := (tSeq (tAsg (tCall (sp_l_deck K) [] E0 (tCons (tVar 0) tNil)) (gName 1))
    (tSeq (tAsg (tCall (sp_l_stock K) [] E0 (tCons (tVar 1) tNil)) (gName 2))
    (tSeq (tFor (iRng1 (tCons (tOp rAddI (tC (.int 1)) (tOp rDivI (tCB fMin2 (tCons (tCB (fLen K) (tCons (tVar 0) tNil)) (tCons (tC (.int 40)) tNil))) (tC (.int 8)))) tNil)) (gName 3) (tSeq (tAsg (tOp rMulI (tCall (sp_l_draw K) [] E0 (tCons (tVar 1) (tCons (tC (.int 3)) tNil))) (tCall (sp_l_draw K) [] E0 (tCons (tVar 1) (tCons (tC (.int 2)) tNil)))) (gName 4))
    (tSeq (tAsg (tCall (sp_l_draw K) [] E0 (tCons (tVar 1) (tCons (tC (.int 2)) tNil))) (gName 5))
    (tSeq (tAsg (tOp (rIx K) (tLst (tCons (tC (.int 10)) (tCons (tC (.int 1000001)) tNil))) (tCall (sp_l_draw K) [] E0 (tCons (tVar 1) (tCons (tC (.int 2)) tNil)))) (gName 6))
    (tSeq (tAsg (tCall (sp_l_lines K) [] E0 (tCons (tVar 1) (tCons (tVar 2) (tCons (tC (.int 9)) tNil)))) (gName 7))
    (tSeq (tAsg (tCall (sp_l_script K) [] E0 (tCons (tVar 1) (tCons (tVar 7) (tCons (tVar 2) (tCons (tC (.int 9)) tNil))))) (gName 8))
    (tSeq (tAsg (tCall (sp_l_made K) [] E0 (tCons (tVar 7) (tCons (tVar 8) tNil))) (gName 9))
    (tSeq (tAsg (tCall (sp_l_draw K) [] E0 (tCons (tVar 1) (tCons (tVar 6) tNil))) (gName 10))
    (tSeq (tAsg (tCall (sp_l_draw K) [] E0 (tCons (tVar 1) (tCons (tVar 6) tNil))) (gName 11))
    (tSeq (tIfS (tTest (tOp rEq (tCall (sp_l_draw K) [] E0 (tCons (tVar 1) (tCons (tC (.int 3)) tNil))) (tC (.int 0)))) (tSeq (tAsg (tC (.int 3)) (gName 10))
    (tAsg (tC (.int 2)) (gName 11))) tNext)
    (t_law_firsts K)))))))))))
    (tRet (tC (.bl true))))))
theorem lst_same {D : Addr} {B : Nat} {H H' : Hp} {bs rs : List Str} {t p : Int} {x : V} (ad : Ad D B H x) (s : Same H H') : Lst H' bs rs t p x ↔ Lst H bs rs t p x := by
  constructor
  · rintro ⟨T, s1, dd, ps, d, rfl, hT, hs, ok, fit, h1, hd, r⟩
    obtain ⟨h2, al⟩ := ad.back s hT
    exact ⟨T, s1, dd, ps, d, rfl, h2, hs.back (al _ (by simp)) s, ok, fit, h1, ((al (.ref dd) (by simp)).back s hd).1, r⟩
  · rintro ⟨T, s1, dd, ps, d, rfl, hT, hs, ok, fit, h1, hd, r⟩
    exact ⟨T, s1, dd, ps, d, rfl, s _ _ hT, hs.mono (.of s), ok, fit, h1, s _ _ hd, r⟩
theorem nopct {z : Str} (o : OkS z) : TxOk 41 z := ⟨Nat.le_trans o.1 (by decide), fun c hc => (o.2 c hc).2.2⟩
theorem Dk.tupNe {c D p : Addr} {ns : List Int} {t : Nat} {H : Hp} {xs : List V} (d : Dk c D ns t H) (h : H p = some (.tup xs)) : p ≠ D := fun e => by
  obtain ⟨ys, q⟩ := d.someD
  rw [e, q] at h
  cases h
section
variable {K : PySem.W.Frag} {vs : List V} {H : Hp} {Q : VK} {E : XK}
theorem rows_ad {c D M : Addr} {ns : List Int} {t B : Nat} {bs : List Str} (d : Dk c D ns t H) (h : RwAt H M bs) (hl : bs.length ≤ 40) (ok : ∀ z ∈ bs, OkS z) (hB : 41 ≤ B) : Ad D B H (.ref M) := by
  refine .tup (d.tupNe h) h (by rw [List.length_map]; omega) fun x hx => ?_
  obtain ⟨z, hz, rfl⟩ := List.mem_map.mp hx
  exact .str ⟨Nat.le_trans (nopct (ok z hz)).1 hB, (nopct (ok z hz)).2⟩
theorem pc_ad {c D a : Addr} {ns : List Int} {t B : Nat} {p : Pc} (d : Dk c D ns t H) (h : PcAt H a p) (ok : p.ok) (hn : p.n ≤ 40) (hB : 41 ≤ B) : Ad D B H (.ref a) := by
  have tx : ∀ {z : Str}, TxOk 41 z → TxOk B z := fun h => ⟨Nat.le_trans h.1 hB, h.2⟩
  cases p with
  | take b m =>
    refine .tup (d.tupNe h) h (by show (3 : Nat) ≤ B; omega) fun x hx => ?_
    rcases List.mem_cons.mp hx with rfl | hx
    · exact .str (tx (txB_ok (by decide +kernel)))
    · rcases List.mem_cons.mp hx with rfl | hx
      · exact .int _
      · rw [List.mem_singleton.mp hx]
        exact .int _
  | put rs =>
    obtain ⟨q, h1, h2⟩ := h
    refine .tup (d.tupNe h1) h1 (by show (2 : Nat) ≤ B; omega) fun x hx => ?_
    rcases List.mem_cons.mp hx with rfl | hx
    · exact .str (tx (txB_ok (by decide +kernel)))
    · rw [List.mem_singleton.mp hx]
      exact rows_ad d h2 hn ok.2 hB
theorem sc_ad {c D a : Addr} {ns : List Int} {t B : Nat} {ps : List Pc} (d : Dk c D ns t H) (h : ScAt H a ps) (ok : ScOk ps) (hB : 41 ≤ B) : Ad D B H (.ref a) := by
  obtain ⟨as, h1, h2⟩ := h
  have l := ok.len
  have l2 : as.length = ps.length := h2.1
  refine .tup (d.tupNe h1) h1 (by rw [List.length_map]; omega) fun x hx => ?_
  obtain ⟨i, hi, e⟩ := List.getElem_of_mem hx
  obtain ⟨b, q, rfl, e1, e2, e3⟩ := sc_get h2 (List.getElem?_eq_some_iff.mpr ⟨hi, e⟩)
  have := n_le_total (List.mem_of_getElem? e2)
  have := ok.few
  exact pc_ad d e3 (ok.ok q (List.mem_of_getElem? e2)) (by omega) hB
def LwP (c D S : Addr) (ns : List Int) (t : Nat) (st : List Str) (sh : V) (i : Nat) (σ : L2.St) (H : Hp) : Prop := ∃ z3 z4 z5 z6 z7 z8 z9 z10 z11 z12 z13 z14 z15 : Option V,
  σ = [some sh, some (.ref D), some (.ref S), z3, z4, z5, z6, z7, z8, z9, z10, z11, z12, z13, z14, z15] ∧ Dk c D ns (t + 1200 * i) H ∧ StAt H S st
/-- what stands in a round -/
structure Rd (c D S M R : Addr) (ns : List Int) (t : Nat) (st bs rs : List Str) (H : Hp) : Prop where
  dk : Dk c D ns t H
  sa : StAt H S st
  hM : RwAt H M bs
  hR : RwAt H R rs
  fb : bs.length ≤ 40
  fr : rs.length ≤ 39
  ob : ∀ z ∈ bs, OkS z
  or : ∀ z ∈ rs, OkS z
theorem Rd.same {c D S M R : Addr} {ns : List Int} {t : Nat} {st bs rs : List Str} {H H' : Hp} (r : Rd c D S M R ns t st bs rs H) (s : Same H H') : Rd c D S M R ns t st bs rs H' := ⟨r.dk.same s, r.sa.same s, s _ _ r.hM, s _ _ r.hR, r.fb, r.fr, r.ob, r.or⟩
section
variable {c D S M R : Addr} {ns : List Int} {t : Nat} {st bs rs : List Str} {sh : V} {Dn : Ends} {bt bp : Int} {z3 z4 z5 z6 z8 : Option V}
theorem law_look {x : V} {z12 z13 z15 : Option V} (r : Rd c D S M R ns t st bs rs H) (ad : Ad D 43 H x) (b0 : 0 ≤ bt) (b1 : bt ≤ 1000001) (p0 : 0 ≤ bp) (p1 : bp ≤ 1000001)
    (k : ∀ z15 H', Same H H' → Dn.nx [some sh, some (.ref D), some (.ref S), z3, z4, z5, z6, some (.ref M), z8, some (.ref R), some (.int bt), some (.int bp), z12, z13, some x, z15] H') :
    t_law_look K Dn [some sh, some (.ref D), some (.ref S), z3, z4, z5, z6, some (.ref M), z8, some (.ref R), some (.int bt), some (.int bp), z12, z13, some x, z15] H := by
  have sp : ∀ (t' p' : Int) {H1 : Hp} {Q' : VK}, Same H H1 → 0 ≤ t' → t' ≤ 10000000 → 0 ≤ p' → p' ≤ 10000000 → (∀ H2, Same H1 H2 → Q' (.bl (dc (Lst H bs rs t' p' x))) H2) → sp_right_leastA K [.ref M, .ref R, x, .int t', .int p'] H1 Q' E0 := by
    intro t' p' H1 Q' s1 h1 h2 h3 h4 q
    have r1 := r.same s1
    refine ⟨M, R, bs, rs, x, D, 43, t', p', rfl, r1.hM, r1.hR, r.fb, Nat.le_trans r.fr (by decide), r.ob, r.or, ad.same s1, by decide, h1, h2, h3, h4, Yn.of fun H2 s2 => ?_⟩
    rw [dc_congr (lst_same ad s1)]
    exact q H2 s2
  refine ⟨_, rfl, _, rfl, _, rfl, _, rfl, _, rfl, sp bt bp (Same.refl _) b0 (by omega) p0 (by omega) fun H1 s1 => ?_⟩
  refine ⟨_, rfl, _, rfl, _, rfl, _, rfl, _, rfl, rfl, rfl, sp bt bp s1 b0 (by omega) p0 (by omega) fun H2 s2 => ⟨_, rfl, _, _, rfl, SameV.bl rfl, fun H3 s3 => ⟨_, rfl, iteF ?_⟩⟩⟩
  have g3 := (s1.trans s2).trans s3
  refine ⟨_, rfl, _, rfl, _, rfl, sp 3 2 g3 (by decide) (by decide) (by decide) (by decide) fun H4 s4 => ?_⟩
  have g4 := g3.trans s4
  refine ⟨_, rfl, _, rfl, _, rfl, sp 3 2 g4 (by decide) (by decide) (by decide) (by decide) fun H5 s5 => ⟨_, rfl, _, _, rfl, SameV.bl rfl, fun H6 s6 => ⟨_, rfl, iteF ?_⟩⟩⟩
  have g6 := (g4.trans s5).trans s6
  refine ⟨_, rfl, _, rfl, _, rfl, _, rfl, sp bt 2 g6 b0 (by omega) (by decide) (by decide) fun H7 s7 => ?_⟩
  have g7 := g6.trans s7
  refine ⟨_, rfl, _, rfl, _, rfl, _, rfl, rfl, rfl, sp bt 2 g7 b0 (by omega) (by decide) (by decide) fun H8 s8 => ⟨_, rfl, _, _, rfl, SameV.bl rfl, fun H9 s9 => ⟨_, rfl, iteF ?_⟩⟩⟩
  exact k _ _ ((g7.trans s8).trans s9)
theorem law_numbers {F P : Addr} {f : List Int} {ps : List Pc} {ti : Int} {z13 z14 z15 : Option V} (nSD : S ≠ D) (r : Rd c D S M R ns t st bs rs H) (ht : t + 60 < 1000000) (hF : H F = some (.lst (f.map V.int))) (hf : f.length = rs.length + 1) (hP : ScAt H P ps) (ok : ScOk ps) (ti0 : 0 ≤ ti) (ti1 : ti ≤ 2) (b0 : 0 ≤ bt) (b1 : bt ≤ 1000001) (p0 : 0 ≤ bp) (p1 : bp ≤ 1000001)
    (k : ∀ z13 z14 z15 H', StAt H' S st → Dk c D ns (t + 60) H' → Dn.nx [some sh, some (.ref D), some (.ref S), z3, some (.int ti), z5, z6, some (.ref M), some (.ref P), some (.ref R), some (.int bt), some (.int bp), some (.ref F), z13, z14, z15] H') :
    t_law_numbers K Dn [some sh, some (.ref D), some (.ref S), z3, some (.int ti), z5, z6, some (.ref M), some (.ref P), some (.ref R), some (.int bt), some (.int bp), some (.ref F), z13, z14, z15] H := by
  have zf := r.fr
  refine ⟨_, rfl, _, rfl, _, rfl, _, rfl, _, rfl, P, ps, bt, bp, rfl, hP, ok, b0, by omega, p0, by omega, c, D, F, ns, t, f, _, rfl, r.dk, by omega, hF, by omega, by omega, fun N d H1 k1 d1 hN ld => ?_⟩
  have tm1 := k1.tm r.dk
  have hP1 : ScAt H1 P ps := hP.mono tm1
  refine ⟨_, rfl, _, rfl, _, rfl, by show (2 : Nat) ≤ sizeLine; decide, fun T nT => ?_⟩
  have s2 := samNw (o := .tup [.ref P, .ref N]) nT
  have d2 := d1.same s2
  have adT : Ad D 41 (upd H1 T (.tup [.ref P, .ref N])) (.ref T) := by
    refine .tup (d1.neD nT) updS (by show (2 : Nat) ≤ 41; decide) fun x hx => ?_
    rcases List.mem_cons.mp hx with rfl | hx
    · exact sc_ad d2 (hP1.mono (.of s2)) ok (by decide)
    · rw [List.mem_singleton.mp hx]
      refine .tup (d2.tupNe (s2 _ _ hN)) (s2 _ _ hN) (by rw [List.length_map]; omega) fun x hx => ?_
      obtain ⟨i, _, rfl⟩ := List.mem_map.mp hx
      exact .int _
  refine ⟨_, rfl, c, D, ns, _, .ref T, ti, rfl, d2, by omega, adT, ti0, ti1, fun x H3 k3 d3 adx => ?_⟩
  have k13 : Kp D H H3 := (k1.trans (Kp.of_same s2)).trans k3
  have sa3 := r.sa.kp k13 nSD
  refine law_look (t := t + 60) ⟨d3.le (by omega), sa3, k13.tup r.dk _ _ r.hM, k13.tup r.dk _ _ r.hR, r.fb, r.fr, r.ob, r.or⟩ adx b0 b1 p0 p1 fun z15 H4 s4 => ?_
  exact k _ _ _ _ (sa3.same s4) ((d3.le (by omega)).same s4)
theorem law_firsts {P : Addr} {ps : List Pc} {ti ow : Int} {z12 z13 z14 z15 : Option V} (nSD : S ≠ D) (r : Rd c D S M R ns t st bs rs H) (ht : t + 60 < 1000000) (hP : ScAt H P ps) (ok : ScOk ps) (ti0 : 0 ≤ ti) (ti1 : ti ≤ 2) (b0 : 0 ≤ bt) (b1 : bt ≤ 1000001) (p0 : 0 ≤ bp) (p1 : bp ≤ 1000001)
    (k : ∀ z8 z12 z13 z14 z15 H', StAt H' S st → Dk c D ns (t + 60) H' → Dn.nx [some sh, some (.ref D), some (.ref S), z3, some (.int ti), some (.int ow), z6, some (.ref M), z8, some (.ref R), some (.int bt), some (.int bp), z12, z13, z14, z15] H') :
    t_law_firsts K Dn [some sh, some (.ref D), some (.ref S), z3, some (.int ti), some (.int ow), z6, some (.ref M), some (.ref P), some (.ref R), some (.int bt), some (.int bp), z12, z13, z14, z15] H := by
  have zf := r.fr
  refine ⟨_, rfl, _, rfl, _, rfl, _, rfl, M, R, bs, rs, bt, bp, rfl, r.hM, r.hR, r.fb, by omega, r.ob, r.or, fun F f H1 s1 nF hF hf => ?_⟩
  have r1 := r.same s1
  refine ⟨_, rfl, rfl, _, rfl, ite2 (fun _ => ?_) fun _ => ?_⟩
  · refine ⟨_, rfl, _, rfl, _, rfl, _, rfl, _, rfl, M, R, F, bs, rs, f, bt, bp, rfl, r1.hM, r1.hR, r.fb, by omega, r.ob, r.or, hF, hf, fun P2 ps2 H2 s2 hP2 ok2 => ?_⟩
    exact law_numbers nSD (r1.same s2) ht (s2 _ _ hF) hf hP2 ok2 ti0 ti1 b0 b1 p0 p1 fun z13 z14 z15 H' sa d => k _ _ _ _ _ _ sa d
  · exact law_numbers nSD r1 ht hF hf (hP.mono (.of s1)) ok ti0 ti1 b0 b1 p0 p1 fun z13 z14 z15 H' sa d => k _ _ _ _ _ _ sa d
end
theorem pure_law (h : sp_law K vs H Q E) : t_law K { nx := fun _ H' => Q .non H', rt := Q } (start N_law vs) H := by
  obtain ⟨a, ns, rfl, hS, hl, k⟩ := h
  refine ⟨_, rfl, a, ns, rfl, hS, hl, fun c D H1 s1 nc nD d1 => ?_⟩
  refine ⟨_, rfl, c, D, ns, 0, rfl, d1, by decide, fun S st H4 sa nS k2 d2 => ?_⟩
  have nSD : S ≠ D := d1.neD nS
  have kp : Kp D H H4 := (Kp.of_same s1).trans k2
  have hS4 : SqL K H4 a (ns.map V.int) := SqL.kp hS kp nD
  have mm := min2_eq (i := ((ns.map V.int).length : Int)) (j := 40)
  have hml : (ns.map V.int).length = ns.length := List.length_map ..
  have g0 : (0 : Int) ≤ (if (40 : Int) < ((ns.map V.int).length : Int) then 40 else ((ns.map V.int).length : Int)) := by
    by_cases q : (40 : Int) < ((ns.map V.int).length : Int)
    · rw [if_pos q]; omega
    · rw [if_neg q]; omega
  refine ⟨_, rfl, ⟨_, _, rfl, .inl ⟨_, hS4, rfl⟩, _, _, rfl, _, _, rfl, rfl, ⟨by decide, by decide⟩, _, _, rfl, rfl, _, rfl, by omega, by omega, ?_⟩⟩
  refine for_range (lo := 0) (LwP c D S ns 300 st (.ref a)) ⟨none, none, none, none, none, none, none, none, none, none, none, none, none, rfl, d2.le (by omega), sa⟩ ?_ ?_
  · rintro i σ H5 hi ⟨z3, z4, z5, z6, z7, z8, z9, z10, z11, z12, z13, z14, z15, rfl, d5, sa5⟩
    have hi2 : i ≤ 11 := by omega
    have okst : ∀ z ∈ st, OkS z := sa5.2.2.2
    -- times
    refine ⟨_, rfl, c, D, ns, _, 3, rfl, d5, by omega, by decide, by decide, fun t1 H6 t10 t11 d6 fr6 => ?_⟩
    refine ⟨_, rfl, c, D, ns, _, 2, rfl, d6, by omega, by decide, by decide, fun t2 H7 t20 t21 d7 fr7 => ⟨_, _, rfl, rfl, .inl ⟨by omega, by omega⟩, ?_⟩⟩
    obtain ⟨ti, eti, ti0, ti1⟩ : ∃ ti : Int, t1 * t2 = ti ∧ 0 ≤ ti ∧ ti ≤ 2 := by
      have : t2 = 0 ∨ t2 = 1 := by omega
      rcases this with rfl | rfl
      · exact ⟨0, by rw [Int.mul_zero], by decide, by decide⟩
      · exact ⟨t1, by rw [Int.mul_one], by omega, by omega⟩
    have k7 : Kp D H5 H7 := (Kp.fr fr6).trans (.fr fr7)
    -- own
    refine ⟨_, rfl, c, D, ns, _, 2, rfl, d7, by omega, by decide, by decide, fun ow H8 ow0 ow1 d8 fr8 => ?_⟩
    have sa8 := (sa5.kp k7 nSD).kp (.fr fr8) nSD
    -- greatest
    refine ⟨by show (2 : Nat) ≤ sizeLine; decide, fun G nG => ?_⟩
    have dG := d8.upd (o := .lst [.int 10, .int 1000001]) (d8.neC nG) (d8.neD nG)
    refine ⟨_, rfl, c, D, ns, _, 2, rfl, dG, by omega, by decide, by decide, fun v H9 v0 v1 d9 fr9 => ?_⟩
    have k9 : Kp D H8 H9 := (Kp.new nG).trans (.fr fr9)
    have hG9 : H9 G = some (.lst [.int 10, .int 1000001]) := by rw [fr9 _ (d8.neD nG)]; exact updS
    obtain ⟨gr, egr, gr0, gr1⟩ : ∃ gr : Int, atI [V.int 10, V.int 1000001] v = some (.int gr) ∧ 0 < gr ∧ gr ≤ 1000001 := by
      have : v = 0 ∨ v = 1 := by omega
      rcases this with rfl | rfl
      · exact ⟨10, rfl, by decide, by decide⟩
      · exact ⟨1000001, rfl, by decide, by decide⟩
    refine ixL hG9 egr ?_
    have sa9 := sa8.kp k9 nSD
    -- base, pieces, lines
    refine ⟨_, rfl, _, rfl, c, D, S, ns, _, st, 9, rfl, d9, sa9, nSD, by decide, by decide, by omega, fun M bs H10 hM hbs hbl k10 d10 => ?_⟩
    have sa10 := sa9.kp k10 nSD
    have okb : ∀ z ∈ bs, OkS z := fun z hz => okst z (hbs z hz)
    refine ⟨_, rfl, _, rfl, _, rfl, c, D, M, S, ns, _, bs, st, 9, rfl, d10, hM, by omega, sa10, nSD, by decide, by decide, by omega, fun P ps H11 hP okP fitP fewP subP k11 d11 => ?_⟩
    have hM11 : RwAt H11 M bs := k11.tup d10 _ _ hM
    have sa11 := sa10.kp k11 nSD
    refine ⟨_, rfl, _, rfl, M, P, bs, ps, rfl, hM11, hP, okP, fitP, fun R H12 s12 hR => ?_⟩
    have lm := makes_len fitP
    have okr : ∀ z ∈ makes bs ps, OkS z := makes_okS okb okP.ok
    have d12 := d11.same s12
    have sa12 := sa11.same s12
    have hM12 : RwAt H12 M bs := s12 _ _ hM11
    have hP12 := hP.mono (.of s12)
    -- the prices
    refine ⟨_, rfl, _, rfl, c, D, ns, _, gr, rfl, d12, by omega, gr0, small100 (by omega), fun bt H13 bt0 bt1 d13 fr13 => ?_⟩
    refine ⟨_, rfl, _, rfl, c, D, ns, _, gr, rfl, d13, by omega, gr0, small100 (by omega), fun bp H14 bp0 bp1 d14 fr14 => ?_⟩
    refine ⟨_, rfl, c, D, ns, _, 3, rfl, d14, by omega, by decide, by decide, fun w H15 w0 w1 d15 fr15 => ⟨rfl, _, rfl, ?_⟩⟩
    have k15 : Kp D H12 H15 := ((Kp.fr fr13).trans (.fr fr14)).trans (.fr fr15)
    have sa15 := sa12.kp k15 nSD
    have tm := k15.tm d12
    have rd : Rd c D S M R ns (300 + 1200 * (i + 1) - 60) st bs (makes bs ps) H15 := ⟨d15.le (by omega), sa15, tm _ _ hM12, tm _ _ hR, by omega, by omega, okb, okr⟩
    have hP15 := hP12.mono tm
    have fin : ∀ (bt bp : Int), 0 ≤ bt → bt ≤ 1000001 → 0 ≤ bp → bp ≤ 1000001 → ∀ z6 z12 z13 z14 z15, t_law_firsts K _ [some (.ref a), some (.ref D), some (.ref S), some (.int (0 + (i : Int))), some (.int ti), some (.int ow), z6, some (.ref M), some (.ref P), some (.ref R), some (.int bt), some (.int bp), z12, z13, z14, z15] H15 := fun bt bp h1 h2 h3 h4 z6 z12 z13 z14 z15 =>
      law_firsts (Dn := { nx := LwP c D S ns 300 st (.ref a) (i + 1), rt := Q, bk := fun σ H => Q (.bl true) H, ct := LwP c D S ns 300 st (.ref a) (i + 1) }) nSD rd (by omega) hP15 okP ti0 ti1 h1 h2 h3 h4 fun z8 z12 z13 z14 z15 H' sa d => ⟨_, _, _, _, _, _, _, _, _, _, _, _, _, rfl, d.le (by omega), sa⟩
    subst eti
    refine ite2 (fun _ => ?_) fun _ => ?_
    · exact fin 3 2 (by decide) (by decide) (by decide) (by decide) _ _ _ _ _
    · exact fin bt bp bt0 (by omega) bp0 (by omega) _ _ _ _ _
  · rintro σ H5 ⟨z3, z4, z5, z6, z7, z8, z9, z10, z11, z12, z13, z14, z15, rfl, d5, sa5⟩
    exact k _
end
end Fw

set_option Elab.async false
set_option linter.all false
set_option maxRecDepth 100000
set_option maxHeartbeats 4000000
namespace K39
open PySem L2 RZ RT Fw
def top (i : Nat) : Stmt := PySem.Challenge.pw_fewasks_k39_papers_looked_at.main.body.getD i (.Pass ⟨0, 0, 0, 0⟩)
abbrev FnP (K : PySem.W.Frag) (x : Str) (st : Stmt) (f : Addr) (fd : FuncData) : Prop := FunD K x x (defArgs st) (defBody st) (defScope st) [] [] f fd
abbrev s_is_intA : Stmt := top 7
theorem sc_is_intA : FnScope N_is_intA ["thing"] (defScope s_is_intA) := ⟨rfl, rfl, rfl, by decide +kernel, rfl, by decide +kernel, by decide +kernel⟩
abbrev s_is_signA : Stmt := top 9
theorem sc_is_signA : FnScope N_is_signA ["sign"] (defScope s_is_signA) := ⟨rfl, rfl, rfl, by decide +kernel, rfl, by decide +kernel, by decide +kernel⟩
abbrev s_is_textA : Stmt := top 8
theorem sc_is_textA : FnScope N_is_textA ["thing"] (defScope s_is_textA) := ⟨rfl, rfl, rfl, by decide +kernel, rfl, by decide +kernel, by decide +kernel⟩
abbrev s_is_pairB : Stmt := top 10
theorem sc_is_pairB : FnScope N_is_pairB ["thing"] (defScope s_is_pairB) := ⟨rfl, rfl, rfl, by decide +kernel, rfl, by decide +kernel, by decide +kernel⟩
abbrev s_is_rowA : Stmt := top 12
theorem sc_is_rowA : FnScope N_is_rowA ["thing"] (defScope s_is_rowA) := ⟨rfl, rfl, rfl, by decide +kernel, rfl, by decide +kernel, by decide +kernel⟩
abbrev s_is_intsA : Stmt := top 11
theorem sc_is_intsA : FnScope N_is_intsA ["thing"] (defScope s_is_intsA) := ⟨rfl, rfl, rfl, by decide +kernel, rfl, by decide +kernel, by decide +kernel⟩
abbrev s_are_putA : Stmt := top 18
theorem sc_are_putA : FnScope N_are_putA ["thing"] (defScope s_are_putA) := ⟨rfl, rfl, rfl, by decide +kernel, rfl, by decide +kernel, by decide +kernel⟩
abbrev s_rows_in : Stmt := top 19
theorem sc_rows_in : FnScope N_rows_in ["piece"] (defScope s_rows_in) := ⟨rfl, rfl, rfl, by decide +kernel, rfl, by decide +kernel, by decide +kernel⟩
abbrev s_is_pieceA : Stmt := top 17
theorem sc_is_pieceA : FnScope N_is_pieceA ["thing"] (defScope s_is_pieceA) := ⟨rfl, rfl, rfl, by decide +kernel, rfl, by decide +kernel, by decide +kernel⟩
abbrev s_is_scriptA : Stmt := top 16
theorem sc_is_scriptA : FnScope N_is_scriptA ["thing"] (defScope s_is_scriptA) := ⟨rfl, rfl, rfl, by decide +kernel, rfl, by decide +kernel, by decide +kernel⟩
abbrev s_is_right_overA : Stmt := top 20
theorem sc_is_right_overA : FnScope N_is_right_overA ["base", "thing"] (defScope s_is_right_overA) := ⟨rfl, rfl, rfl, by decide +kernel, rfl, by decide +kernel, by decide +kernel⟩
abbrev s_made : Stmt := top 21
theorem sc_made : FnScope N_made ["base", "script"] (defScope s_made) := ⟨rfl, rfl, rfl, by decide +kernel, rfl, by decide +kernel, by decide +kernel⟩
abbrev s_priceA : Stmt := top 22
theorem sc_priceA : FnScope N_priceA ["script", "take", "put"] (defScope s_priceA) := ⟨rfl, rfl, rfl, by decide +kernel, rfl, by decide +kernel, by decide +kernel⟩
abbrev s_longest_runs : Stmt := top 25
theorem sc_longest_runs : FnScope N_longest_runs ["base", "rows"] (defScope s_longest_runs) := ⟨rfl, rfl, rfl, by decide +kernel, rfl, by decide +kernel, by decide +kernel⟩
abbrev s_are_boundsA : Stmt := top 24
theorem sc_are_boundsA : FnScope N_are_boundsA ["base", "rows", "distances", "take", "put"] (defScope s_are_boundsA) := ⟨rfl, rfl, rfl, by decide +kernel, rfl, by decide +kernel, by decide +kernel⟩
abbrev s_right_leastA : Stmt := top 23
theorem sc_right_leastA : FnScope N_right_leastA ["base", "rows", "thing", "take", "put"] (defScope s_right_leastA) := ⟨rfl, rfl, rfl, by decide +kernel, rfl, by decide +kernel, by decide +kernel⟩
abbrev s_l_deck : Stmt := top 27
abbrev N_l_deck : List Str := ["_law_script_here"]
theorem sc_l_deck : FnScope N_l_deck ["_law_script_here"] (defScope s_l_deck) := ⟨rfl, rfl, rfl, by decide +kernel, rfl, by decide +kernel, by decide +kernel⟩
abbrev s_l_mixed : Stmt := top 28
theorem sc_l_mixed : FnScope N_l_mixed ["_law_cell", "_law_turn"] (defScope s_l_mixed) := ⟨rfl, rfl, rfl, by decide +kernel, rfl, by decide +kernel, by decide +kernel⟩
abbrev s_l_draw : Stmt := top 29
theorem sc_l_draw : FnScope N_l_draw ["_law_deck_here", "_law_many"] (defScope s_l_draw) := ⟨rfl, rfl, rfl, by decide +kernel, rfl, by decide +kernel, by decide +kernel⟩
abbrev s_l_text : Stmt := top 30
abbrev N_l_text : List Str := ["_law_deck_here", "_law_size_here", "_law_signs", "_law_k"]
theorem sc_l_text : FnScope N_l_text ["_law_deck_here", "_law_size_here"] (defScope s_l_text) := ⟨rfl, rfl, rfl, by decide +kernel, rfl, by decide +kernel, by decide +kernel⟩
abbrev s_l_int : Stmt := top 31
theorem sc_l_int : FnScope N_l_int ["_law_thing"] (defScope s_l_int) := ⟨rfl, rfl, rfl, by decide +kernel, rfl, by decide +kernel, by decide +kernel⟩
abbrev s_l_same : Stmt := top 32
theorem sc_l_same : FnScope N_l_same ["_law_found", "_law_due"] (defScope s_l_same) := ⟨rfl, rfl, rfl, by decide +kernel, rfl, by decide +kernel, by decide +kernel⟩
abbrev s_l_stock : Stmt := top 33
abbrev N_l_stock : List Str := ["_law_deck_here", "_law_longest", "_law_k"]
theorem sc_l_stock : FnScope N_l_stock ["_law_deck_here"] (defScope s_l_stock) := ⟨rfl, rfl, rfl, by decide +kernel, rfl, by decide +kernel, by decide +kernel⟩
abbrev s_l_lines : Stmt := top 34
abbrev N_l_lines : List Str := ["_law_deck_here", "_law_stock_here", "_law_most", "_law_k"]
theorem sc_l_lines : FnScope N_l_lines ["_law_deck_here", "_law_stock_here", "_law_most"] (defScope s_l_lines) := ⟨rfl, rfl, rfl, by decide +kernel, rfl, by decide +kernel, by decide +kernel⟩
abbrev s_l_script : Stmt := top 35
abbrev N_l_script : List Str := ["_law_deck_here", "_law_base", "_law_stock_here", "_law_most", "_law_pieces", "_law_room", "_law_begin", "_law_many", "_law_k"]
theorem sc_l_script : FnScope N_l_script ["_law_deck_here", "_law_base", "_law_stock_here", "_law_most"] (defScope s_l_script) := ⟨rfl, rfl, rfl, by decide +kernel, rfl, by decide +kernel, by decide +kernel⟩
abbrev s_l_made : Stmt := top 36
abbrev N_l_made : List Str := ["_law_base", "_law_pieces", "_law_made_here", "_law_piece", "_law_k", "_law_line"]
theorem sc_l_made : FnScope N_l_made ["_law_base", "_law_pieces"] (defScope s_l_made) := ⟨rfl, rfl, rfl, by decide +kernel, rfl, by decide +kernel, by decide +kernel⟩
abbrev s_l_cost : Stmt := top 37
abbrev N_l_cost : List Str := ["_law_pieces", "_law_by_take", "_law_by_put", "_law_total", "_law_piece"]
theorem sc_l_cost : FnScope N_l_cost ["_law_pieces", "_law_by_take", "_law_by_put"] (defScope s_l_cost) := ⟨rfl, rfl, rfl, by decide +kernel, rfl, by decide +kernel, by decide +kernel⟩
abbrev s_l_is_lineA : Stmt := top 38
theorem sc_l_is_lineA : FnScope N_l_is_lineA ["_law_thing"] (defScope s_l_is_lineA) := ⟨rfl, rfl, rfl, by decide +kernel, rfl, by decide +kernel, by decide +kernel⟩
abbrev s_l_sizeA : Stmt := top 39
theorem sc_l_sizeA : FnScope N_l_sizeA ["_law_piece"] (defScope s_l_sizeA) := ⟨rfl, rfl, rfl, by decide +kernel, rfl, by decide +kernel, by decide +kernel⟩
abbrev s_l_is_scriptA : Stmt := top 40
theorem sc_l_is_scriptA : FnScope N_l_is_scriptA ["_law_thing"] (defScope s_l_is_scriptA) := ⟨rfl, rfl, rfl, by decide +kernel, rfl, by decide +kernel, by decide +kernel⟩
abbrev s_l_fitsA : Stmt := top 41
theorem sc_l_fitsA : FnScope N_l_fitsA ["_law_base", "_law_thing"] (defScope s_l_fitsA) := ⟨rfl, rfl, rfl, by decide +kernel, rfl, by decide +kernel, by decide +kernel⟩
abbrev s_l_odd : Stmt := top 42
theorem sc_l_odd : FnScope N_l_odd ["_law_deck_here"] (defScope s_l_odd) := ⟨rfl, rfl, rfl, by decide +kernel, rfl, by decide +kernel, by decide +kernel⟩
abbrev s_l_bent : Stmt := top 43
theorem sc_l_bent : FnScope N_l_bent ["_law_deck_here", "_law_thing", "_law_deep_in"] (defScope s_l_bent) := ⟨rfl, rfl, rfl, by decide +kernel, rfl, by decide +kernel, by decide +kernel⟩
abbrev s_l_spoiled : Stmt := top 44
theorem sc_l_spoiled : FnScope N_l_spoiled ["_law_deck_here", "_law_thing", "_law_times"] (defScope s_l_spoiled) := ⟨rfl, rfl, rfl, by decide +kernel, rfl, by decide +kernel, by decide +kernel⟩
abbrev s_l_stands : Stmt := top 45
theorem sc_l_stands : FnScope N_l_stands ["_law_base", "_law_part"] (defScope s_l_stands) := ⟨rfl, rfl, rfl, by decide +kernel, rfl, by decide +kernel, by decide +kernel⟩
abbrev s_l_firsts : Stmt := top 46
theorem sc_l_firsts : FnScope N_l_firsts ["_law_base", "_law_lines_here", "_law_by_take", "_law_by_put"] (defScope s_l_firsts) := ⟨rfl, rfl, rfl, by decide +kernel, rfl, by decide +kernel, by decide +kernel⟩
abbrev s_l_is_leastA : Stmt := top 47
theorem sc_l_is_leastA : FnScope N_l_is_leastA ["_law_base", "_law_lines_here", "_law_thing", "_law_by_take", "_law_by_put"] (defScope s_l_is_leastA) := ⟨rfl, rfl, rfl, by decide +kernel, rfl, by decide +kernel, by decide +kernel⟩
abbrev s_l_least_script : Stmt := top 48
theorem sc_l_least_script : FnScope N_l_least_script ["_law_base", "_law_lines_here", "_law_by_take", "_law_by_put", "_law_firsts_here"] (defScope s_l_least_script) := ⟨rfl, rfl, rfl, by decide +kernel, rfl, by decide +kernel, by decide +kernel⟩
abbrev s_l_numbers : Stmt := top 49
theorem sc_l_numbers : FnScope N_l_numbers ["_law_deck_here", "_law_firsts_here", "_law_total"] (defScope s_l_numbers) := ⟨rfl, rfl, rfl, by decide +kernel, rfl, by decide +kernel, by decide +kernel⟩
abbrev s_law : Stmt := top 50
theorem sc_law : FnScope N_law ["_law_script_here"] (defScope s_law) := ⟨rfl, rfl, rfl, by decide +kernel, rfl, by decide +kernel, by decide +kernel⟩
structure Tx (K : PySem.W.Frag) (mg : Str → Option Value) : Type where
  fd_is_intA : FuncData
  F_is_intA : FnP K "is_int" s_is_intA (He.fAd K ("is_int", none)) fd_is_intA
  g_is_intA : mg "is_int" = some (.ref (He.fAd K ("is_int", none)))
  fd_is_signA : FuncData
  F_is_signA : FnP K "is_sign" s_is_signA (He.fAd K ("is_sign", none)) fd_is_signA
  g_is_signA : mg "is_sign" = some (.ref (He.fAd K ("is_sign", none)))
  fd_is_textA : FuncData
  F_is_textA : FnP K "is_text" s_is_textA (He.fAd K ("is_text", none)) fd_is_textA
  g_is_textA : mg "is_text" = some (.ref (He.fAd K ("is_text", none)))
  fd_is_pairB : FuncData
  F_is_pairB : FnP K "is_pair" s_is_pairB (He.fAd K ("is_pair", none)) fd_is_pairB
  g_is_pairB : mg "is_pair" = some (.ref (He.fAd K ("is_pair", none)))
  fd_is_rowA : FuncData
  F_is_rowA : FnP K "is_row" s_is_rowA (He.fAd K ("is_row", none)) fd_is_rowA
  g_is_rowA : mg "is_row" = some (.ref (He.fAd K ("is_row", none)))
  fd_is_intsA : FuncData
  F_is_intsA : FnP K "is_ints" s_is_intsA (He.fAd K ("is_ints", none)) fd_is_intsA
  g_is_intsA : mg "is_ints" = some (.ref (He.fAd K ("is_ints", none)))
  fd_are_putA : FuncData
  F_are_putA : FnP K "are_put" s_are_putA (He.fAd K ("are_put", none)) fd_are_putA
  g_are_putA : mg "are_put" = some (.ref (He.fAd K ("are_put", none)))
  fd_rows_in : FuncData
  F_rows_in : FnP K "rows_in" s_rows_in (He.fAd K ("rows_in", none)) fd_rows_in
  g_rows_in : mg "rows_in" = some (.ref (He.fAd K ("rows_in", none)))
  fd_is_pieceA : FuncData
  F_is_pieceA : FnP K "is_piece" s_is_pieceA (He.fAd K ("is_piece", none)) fd_is_pieceA
  g_is_pieceA : mg "is_piece" = some (.ref (He.fAd K ("is_piece", none)))
  fd_is_scriptA : FuncData
  F_is_scriptA : FnP K "is_script" s_is_scriptA (He.fAd K ("is_script", none)) fd_is_scriptA
  g_is_scriptA : mg "is_script" = some (.ref (He.fAd K ("is_script", none)))
  fd_is_right_overA : FuncData
  F_is_right_overA : FnP K "is_right_over" s_is_right_overA (He.fAd K ("is_right_over", none)) fd_is_right_overA
  g_is_right_overA : mg "is_right_over" = some (.ref (He.fAd K ("is_right_over", none)))
  fd_made : FuncData
  F_made : FnP K "made" s_made (He.fAd K ("made", none)) fd_made
  g_made : mg "made" = some (.ref (He.fAd K ("made", none)))
  fd_priceA : FuncData
  F_priceA : FunD K "price" "price" (defArgs s_priceA) (defBody s_priceA) (defScope s_priceA) [] [("take", V.int 3), ("put", V.int 2)] (He.fAd K ("price", none)) fd_priceA
  g_priceA : mg "price" = some (.ref (He.fAd K ("price", none)))
  fd_longest_runs : FuncData
  F_longest_runs : FnP K "longest_runs" s_longest_runs (He.fAd K ("longest_runs", none)) fd_longest_runs
  g_longest_runs : mg "longest_runs" = some (.ref (He.fAd K ("longest_runs", none)))
  fd_are_boundsA : FuncData
  F_are_boundsA : FnP K "are_bounds" s_are_boundsA (He.fAd K ("are_bounds", none)) fd_are_boundsA
  g_are_boundsA : mg "are_bounds" = some (.ref (He.fAd K ("are_bounds", none)))
  fd_right_leastA : FuncData
  F_right_leastA : FunD K "right_least" "right_least" (defArgs s_right_leastA) (defBody s_right_leastA) (defScope s_right_leastA) [] [("take", V.int 3), ("put", V.int 2)] (He.fAd K ("right_least", none)) fd_right_leastA
  g_right_leastA : mg "right_least" = some (.ref (He.fAd K ("right_least", none)))
  fd_l_deck : FuncData
  F_l_deck : FnP K "_law_deck" s_l_deck (He.fAd K ("_law_deck", none)) fd_l_deck
  g_l_deck : mg "_law_deck" = some (.ref (He.fAd K ("_law_deck", none)))
  fd_l_mixed : FuncData
  F_l_mixed : FnP K "_law_mixed" s_l_mixed (He.fAd K ("_law_mixed", none)) fd_l_mixed
  g_l_mixed : mg "_law_mixed" = some (.ref (He.fAd K ("_law_mixed", none)))
  fd_l_draw : FuncData
  F_l_draw : FnP K "_law_draw" s_l_draw (He.fAd K ("_law_draw", none)) fd_l_draw
  g_l_draw : mg "_law_draw" = some (.ref (He.fAd K ("_law_draw", none)))
  fd_l_text : FuncData
  F_l_text : FnP K "_law_text" s_l_text (He.fAd K ("_law_text", none)) fd_l_text
  g_l_text : mg "_law_text" = some (.ref (He.fAd K ("_law_text", none)))
  fd_l_int : FuncData
  F_l_int : FnP K "_law_int" s_l_int (He.fAd K ("_law_int", none)) fd_l_int
  g_l_int : mg "_law_int" = some (.ref (He.fAd K ("_law_int", none)))
  fd_l_same : FuncData
  F_l_same : FnP K "_law_same" s_l_same (He.fAd K ("_law_same", none)) fd_l_same
  g_l_same : mg "_law_same" = some (.ref (He.fAd K ("_law_same", none)))
  fd_l_stock : FuncData
  F_l_stock : FnP K "_law_stock" s_l_stock (He.fAd K ("_law_stock", none)) fd_l_stock
  g_l_stock : mg "_law_stock" = some (.ref (He.fAd K ("_law_stock", none)))
  fd_l_lines : FuncData
  F_l_lines : FnP K "_law_lines" s_l_lines (He.fAd K ("_law_lines", none)) fd_l_lines
  g_l_lines : mg "_law_lines" = some (.ref (He.fAd K ("_law_lines", none)))
  fd_l_script : FuncData
  F_l_script : FnP K "_law_script" s_l_script (He.fAd K ("_law_script", none)) fd_l_script
  g_l_script : mg "_law_script" = some (.ref (He.fAd K ("_law_script", none)))
  fd_l_made : FuncData
  F_l_made : FnP K "_law_made" s_l_made (He.fAd K ("_law_made", none)) fd_l_made
  g_l_made : mg "_law_made" = some (.ref (He.fAd K ("_law_made", none)))
  fd_l_cost : FuncData
  F_l_cost : FnP K "_law_cost" s_l_cost (He.fAd K ("_law_cost", none)) fd_l_cost
  g_l_cost : mg "_law_cost" = some (.ref (He.fAd K ("_law_cost", none)))
  fd_l_is_lineA : FuncData
  F_l_is_lineA : FnP K "_law_is_line" s_l_is_lineA (He.fAd K ("_law_is_line", none)) fd_l_is_lineA
  g_l_is_lineA : mg "_law_is_line" = some (.ref (He.fAd K ("_law_is_line", none)))
  fd_l_sizeA : FuncData
  F_l_sizeA : FnP K "_law_size" s_l_sizeA (He.fAd K ("_law_size", none)) fd_l_sizeA
  g_l_sizeA : mg "_law_size" = some (.ref (He.fAd K ("_law_size", none)))
  fd_l_is_scriptA : FuncData
  F_l_is_scriptA : FnP K "_law_is_script" s_l_is_scriptA (He.fAd K ("_law_is_script", none)) fd_l_is_scriptA
  g_l_is_scriptA : mg "_law_is_script" = some (.ref (He.fAd K ("_law_is_script", none)))
  fd_l_fitsA : FuncData
  F_l_fitsA : FnP K "_law_fits" s_l_fitsA (He.fAd K ("_law_fits", none)) fd_l_fitsA
  g_l_fitsA : mg "_law_fits" = some (.ref (He.fAd K ("_law_fits", none)))
  fd_l_odd : FuncData
  F_l_odd : FnP K "_law_odd" s_l_odd (He.fAd K ("_law_odd", none)) fd_l_odd
  g_l_odd : mg "_law_odd" = some (.ref (He.fAd K ("_law_odd", none)))
  fd_l_bent : FuncData
  F_l_bent : FnP K "_law_bent" s_l_bent (He.fAd K ("_law_bent", none)) fd_l_bent
  g_l_bent : mg "_law_bent" = some (.ref (He.fAd K ("_law_bent", none)))
  fd_l_spoiled : FuncData
  F_l_spoiled : FnP K "_law_spoiled" s_l_spoiled (He.fAd K ("_law_spoiled", none)) fd_l_spoiled
  g_l_spoiled : mg "_law_spoiled" = some (.ref (He.fAd K ("_law_spoiled", none)))
  fd_l_stands : FuncData
  F_l_stands : FnP K "_law_stands" s_l_stands (He.fAd K ("_law_stands", none)) fd_l_stands
  g_l_stands : mg "_law_stands" = some (.ref (He.fAd K ("_law_stands", none)))
  fd_l_firsts : FuncData
  F_l_firsts : FnP K "_law_firsts" s_l_firsts (He.fAd K ("_law_firsts", none)) fd_l_firsts
  g_l_firsts : mg "_law_firsts" = some (.ref (He.fAd K ("_law_firsts", none)))
  fd_l_is_leastA : FuncData
  F_l_is_leastA : FnP K "_law_is_least" s_l_is_leastA (He.fAd K ("_law_is_least", none)) fd_l_is_leastA
  g_l_is_leastA : mg "_law_is_least" = some (.ref (He.fAd K ("_law_is_least", none)))
  fd_l_least_script : FuncData
  F_l_least_script : FnP K "_law_least_script" s_l_least_script (He.fAd K ("_law_least_script", none)) fd_l_least_script
  g_l_least_script : mg "_law_least_script" = some (.ref (He.fAd K ("_law_least_script", none)))
  fd_l_numbers : FuncData
  F_l_numbers : FnP K "_law_numbers" s_l_numbers (He.fAd K ("_law_numbers", none)) fd_l_numbers
  g_l_numbers : mg "_law_numbers" = some (.ref (He.fAd K ("_law_numbers", none)))
  fd_law : FuncData
  F_law : FnP K "law" s_law (He.fAd K ("law", none)) fd_law
  z_all : mg "all" = none
  z_bool : mg "bool" = none
  z_dict : mg "dict" = none
  z_enumerate : mg "enumerate" = none
  z_int : mg "int" = none
  z_isinstance : mg "isinstance" = none
  z_len : mg "len" = none
  z_list : mg "list" = none
  z_max : mg "max" = none
  z_min : mg "min" = none
  z_ord : mg "ord" = none
  z_range : mg "range" = none
  z_reversed : mg "reversed" = none
  z_str : mg "str" = none
  z_sum : mg "sum" = none
  z_tuple : mg "tuple" = none
  c_BARRED_SIGN : ∃ t, mg "BARRED_SIGN" = some (.int 37 t)
  c_MOST_ROWS : ∃ t, mg "MOST_ROWS" = some (.int 40 t)
  c_MOST_SIGNS : ∃ t, mg "MOST_SIGNS" = some (.int 40 t)
  c_PUT : ∃ t, mg "PUT" = some (.int 2 t)
  c_TAKE : ∃ t, mg "TAKE" = some (.int 3 t)
  gc_NoScript : mg "NoScript" = some (.ref (He.ga K "NoScript"))
  x_NoScript : PySem.W.excIn K (He.ga K "NoScript") He.veBase "ValueError.__new__" = true ∧ PySem.W.keepIn K (.ref (He.ga K "NoScript")) = true ∧ PySem.W.subIn K (.ref (He.ga K "NoScript")) (.type "BaseException") = some true ∧ PySem.W.typeIn K (.ref (He.ga K "NoScript")) = some (.type "type")
section
variable {P : Program} {w : World} {K : PySem.W.Frag} {mg : Str → Option Value} {base : Heap}
theorem b_is_intA (T : Tx K mg) : Binds K T.fd_is_intA ["thing"] [] := T.F_is_intA.bindsN fun _ _ _ _ _ _ us hl => match us, hl with | [_], _ => rfl
theorem ok_is_intA (T : Tx K mg) : FnOk P w K mg base CX0 1 (He.fAd K ("is_int", none)) T.fd_is_intA ["thing"] (sp_is_intA K) := by
  refine T.F_is_intA.ok sc_is_intA (fun vs H Q E h => len_is_intA h) (fun cdv A outer s H vs Q E hr h => ⟨t_is_intA K, PSs.nox ?_, pure_is_intA h⟩)
  exact (pss_one (ps_ret (pe_and (pe_callB call_isi (by rfl) T.z_isinstance (by decide +kernel) (pa_cons (pv 0) (pa_cons (pe_bltn (v := .ty "int") (by rfl) T.z_int (by decide +kernel) rfl) pa_nil))) (pe_one (pe_not (pe_callB call_isi (by rfl) T.z_isinstance (by decide +kernel) (pa_cons (pv 0) (pa_cons (pe_bltn (v := .ty "bool") (by rfl) T.z_bool (by decide +kernel) rfl) pa_nil))))))))
theorem b_is_signA (T : Tx K mg) : Binds K T.fd_is_signA ["sign"] [] := T.F_is_signA.bindsN fun _ _ _ _ _ _ us hl => match us, hl with | [_], _ => rfl
theorem ok_is_signA (T : Tx K mg) : FnOk P w K mg base CX0 1 (He.fAd K ("is_sign", none)) T.fd_is_signA ["sign"] (sp_is_signA K) := by
  refine T.F_is_signA.ok sc_is_signA (fun vs H Q E h => len_is_signA h) (fun cdv A outer s H vs Q E hr h => ⟨t_is_signA K, PSs.nox ?_, pure_is_signA h⟩)
  exact (pss_one (ps_ret (pe_and (pe_chain op_le_str op_le_str pe_str (pv 0) pe_str) (pe_one (pe_cmpR op_ne (pe_callB call_ord (by rfl) T.z_ord (by decide +kernel) (pa_cons (pv 0) pa_nil)) (pe_glob (v := .int 37) (by rfl) T.c_BARRED_SIGN.choose_spec ⟨_, rfl⟩) (nomark _))))))
theorem b_is_textA (T : Tx K mg) : Binds K T.fd_is_textA ["thing"] [] := T.F_is_textA.bindsN fun _ _ _ _ _ _ us hl => match us, hl with | [_], _ => rfl
theorem ok_is_textA (T : Tx K mg) : FnOk P w K mg base CX0 2 (He.fAd K ("is_text", none)) T.fd_is_textA ["thing"] (sp_is_textA K) := by
  refine T.F_is_textA.ok sc_is_textA (fun vs H Q E h => len_is_textA h) (fun cdv A outer s H vs Q E hr h => ⟨t_is_textA K, PSs.nox ?_, pure_is_textA h⟩)
  exact (pss_one (ps_ret (pe_and (pe_callB call_isi (by rfl) T.z_isinstance (by decide +kernel) (pa_cons (pv 0) (pa_cons (pe_bltn (v := .ty "str") (by rfl) T.z_str (by decide +kernel) rfl) pa_nil))) (pe_one (pe_callB (cr_all rfl) (by rfl) T.z_all (by decide +kernel) (pa_cons (pe_lc (own := [("sign", 1)]) (g := (gName 1)) (tt := tYes) (te := (tCall (sp_is_signA K) [] E0 (tCons (tVar 1) tNil))) rfl sc_is_textA.nd (pi_str (pv 0)) (blkOk_by (own := [("sign", 1)]) (N := N_is_textA) (sc := defScope s_is_textA) (by decide +kernel)) (fun _ _ _ _ _ => (pg_name (i := 1) sc_is_textA.nd rfl (Or.inl rfl))) (fun _ _ _ _ _ => pts_nil) (fun _ _ _ _ _ => (pe_call (ok_is_signA T) (hr.mono (by decide)) (by rfl) T.g_is_signA T.F_is_signA.kp (b_is_signA T) .nil pass0 (pa_cons (pv 1) pa_nil)))) pa_nil))))))
theorem b_is_pairB (T : Tx K mg) : Binds K T.fd_is_pairB ["thing"] [] := T.F_is_pairB.bindsN fun _ _ _ _ _ _ us hl => match us, hl with | [_], _ => rfl
theorem ok_is_pairB (T : Tx K mg) : FnOk P w K mg base CX0 1 (He.fAd K ("is_pair", none)) T.fd_is_pairB ["thing"] (sp_is_pairB K) := by
  refine T.F_is_pairB.ok sc_is_pairB (fun vs H Q E h => len_is_pairB h) (fun cdv A outer s H vs Q E hr h => ⟨t_is_pairB K, PSs.nox ?_, pure_is_pairB h⟩)
  exact (pss_one (ps_ret (pe_and (pe_callB call_isi (by rfl) T.z_isinstance (by decide +kernel) (pa_cons (pv 0) (pa_cons (pe_bltn (v := .ty "tuple") (by rfl) T.z_tuple (by decide +kernel) rfl) pa_nil))) (pe_one (pe_cmpR op_eq (pe_callB call_len (by rfl) T.z_len PySem.boot_len (pa_cons (pv 0) pa_nil)) pe_int (nomark _))))))
theorem b_is_rowA (T : Tx K mg) : Binds K T.fd_is_rowA ["thing"] [] := T.F_is_rowA.bindsN fun _ _ _ _ _ _ us hl => match us, hl with | [_], _ => rfl
theorem ok_is_rowA (T : Tx K mg) : FnOk P w K mg base CX0 3 (He.fAd K ("is_row", none)) T.fd_is_rowA ["thing"] (sp_is_rowA K) := by
  refine T.F_is_rowA.ok sc_is_rowA (fun vs H Q E h => len_is_rowA h) (fun cdv A outer s H vs Q E hr h => ⟨t_is_rowA K, PSs.nox ?_, pure_is_rowA h⟩)
  exact (pss_one (ps_ret (pe_and (pe_call (ok_is_textA T) (hr.mono (by decide)) (by rfl) T.g_is_textA T.F_is_textA.kp (b_is_textA T) .nil pass0 (pa_cons (pv 0) pa_nil)) (pe_one (pe_cmpR op_le (pe_callB call_len (by rfl) T.z_len PySem.boot_len (pa_cons (pv 0) pa_nil)) (pe_glob (v := .int 40) (by rfl) T.c_MOST_SIGNS.choose_spec ⟨_, rfl⟩) (nomark _))))))
theorem b_is_intsA (T : Tx K mg) : Binds K T.fd_is_intsA ["thing"] [] := T.F_is_intsA.bindsN fun _ _ _ _ _ _ us hl => match us, hl with | [_], _ => rfl
theorem ok_is_intsA (T : Tx K mg) : FnOk P w K mg base CX0 2 (He.fAd K ("is_ints", none)) T.fd_is_intsA ["thing"] (sp_is_intsA K) := by
  refine T.F_is_intsA.ok sc_is_intsA (fun vs H Q E h => len_is_intsA h) (fun cdv A outer s H vs Q E hr h => ⟨t_is_intsA K, PSs.nox ?_, pure_is_intsA h⟩)
  exact (pss_one (ps_ret (pe_and (pe_callB call_isi (by rfl) T.z_isinstance (by decide +kernel) (pa_cons (pv 0) (pa_cons (pe_bltn (v := .ty "tuple") (by rfl) T.z_tuple (by decide +kernel) rfl) pa_nil))) (pe_one (pe_callB (cr_all rfl) (by rfl) T.z_all (by decide +kernel) (pa_cons (pe_lc (own := [("part", 1)]) (g := (gName 1)) (tt := tYes) (te := (tCall (sp_is_intA K) [] E0 (tCons (tVar 1) tNil))) rfl sc_is_intsA.nd (pi_tup (pv 0)) (blkOk_by (own := [("part", 1)]) (N := N_is_intsA) (sc := defScope s_is_intsA) (by decide +kernel)) (fun _ _ _ _ _ => (pg_name (i := 1) sc_is_intsA.nd rfl (Or.inl rfl))) (fun _ _ _ _ _ => pts_nil) (fun _ _ _ _ _ => (pe_call (ok_is_intA T) (hr.mono (by decide)) (by rfl) T.g_is_intA T.F_is_intA.kp (b_is_intA T) .nil pass0 (pa_cons (pv 1) pa_nil)))) pa_nil))))))
theorem b_are_putA (T : Tx K mg) : Binds K T.fd_are_putA ["thing"] [] := T.F_are_putA.bindsN fun _ _ _ _ _ _ us hl => match us, hl with | [_], _ => rfl
theorem ok_are_putA (T : Tx K mg) : FnOk P w K mg base CX0 4 (He.fAd K ("are_put", none)) T.fd_are_putA ["thing"] (sp_are_putA K) := by
  refine T.F_are_putA.ok sc_are_putA (fun vs H Q E h => len_are_putA h) (fun cdv A outer s H vs Q E hr h => ⟨t_are_putA K, PSs.nox ?_, pure_are_putA h⟩)
  exact (pss_one (ps_ret (pe_and (pe_callB call_isi (by rfl) T.z_isinstance (by decide +kernel) (pa_cons (pv 0) (pa_cons (pe_bltn (v := .ty "tuple") (by rfl) T.z_tuple (by decide +kernel) rfl) pa_nil))) (pe_and (pe_cmpR op_gt (pe_callB call_len (by rfl) T.z_len PySem.boot_len (pa_cons (pv 0) pa_nil)) pe_int (nomark _)) (pe_one (pe_callB (cr_all rfl) (by rfl) T.z_all (by decide +kernel) (pa_cons (pe_lc (own := [("row", 1)]) (g := (gName 1)) (tt := tYes) (te := (tCall (sp_is_rowA K) [] E0 (tCons (tVar 1) tNil))) rfl sc_are_putA.nd (pi_tup (pv 0)) (blkOk_by (own := [("row", 1)]) (N := N_are_putA) (sc := defScope s_are_putA) (by decide +kernel)) (fun _ _ _ _ _ => (pg_name (i := 1) sc_are_putA.nd rfl (Or.inl rfl))) (fun _ _ _ _ _ => pts_nil) (fun _ _ _ _ _ => (pe_call (ok_is_rowA T) (hr.mono (by decide)) (by rfl) T.g_is_rowA T.F_is_rowA.kp (b_is_rowA T) .nil pass0 (pa_cons (pv 1) pa_nil)))) pa_nil)))))))
theorem b_rows_in (T : Tx K mg) : Binds K T.fd_rows_in ["piece"] [] := T.F_rows_in.bindsN fun _ _ _ _ _ _ us hl => match us, hl with | [_], _ => rfl
theorem ok_rows_in (T : Tx K mg) : FnOk P w K mg base CX0 1 (He.fAd K ("rows_in", none)) T.fd_rows_in ["piece"] (sp_rows_in K) := by
  refine T.F_rows_in.ok sc_rows_in (fun vs H Q E h => len_rows_in h) (fun cdv A outer s H vs Q E hr h => ⟨t_rows_in K, PSs.nox ?_, pure_rows_in h⟩)
  exact (pss_one (ps_ret (pe_ifExp (pt_cmpR op_eq (pe_ix ix_seq (pv 0) pe_int (fun _ _ => rfl)) pe_str (nomark _)) (pe_callB call_len (by rfl) T.z_len PySem.boot_len (pa_cons (pe_ix ix_seq (pv 0) pe_int (fun _ _ => rfl)) pa_nil)) (pe_ix ix_seq (pv 0) pe_int (fun _ _ => rfl)))))
theorem ok_is_pair0 (T : Tx K mg) : FnOk P w K mg base CX0 1 (He.fAd K ("is_pair", none)) T.fd_is_pairB ["thing"] (sp_is_pairA K) := (ok_is_pairB T).imp fun vs H Q E h => pair_weak h
theorem b_is_pieceA (T : Tx K mg) : Binds K T.fd_is_pieceA ["thing"] [] := T.F_is_pieceA.bindsN fun _ _ _ _ _ _ us hl => match us, hl with | [_], _ => rfl
theorem ok_is_pieceA (T : Tx K mg) : FnOk P w K mg base CX0 5 (He.fAd K ("is_piece", none)) T.fd_is_pieceA ["thing"] (sp_is_pieceA K) := by
  refine T.F_is_pieceA.ok sc_is_pieceA (fun vs H Q E h => len_is_pieceA h) (fun cdv A outer s H vs Q E hr h => ⟨t_is_pieceA K, PSs.nox ?_, pure_is_pieceA h⟩)
  exact (pss_cons (ps_if (PW.pt (pw_or (pt_not (pt_val (pe_callB call_isi (by rfl) T.z_isinstance (by decide +kernel) (pa_cons (pv 0) (pa_cons (pe_bltn (v := .ty "tuple") (by rfl) T.z_tuple (by decide +kernel) rfl) pa_nil))))) (pw_or1 (pt_cmpR op_eq (pe_callB call_len (by rfl) T.z_len PySem.boot_len (pa_cons (pv 0) pa_nil)) pe_int (nomark _))))) (pss_one (ps_ret pe_bl)) pss_nil)
      (pss_cons (ps_if (pt_cmpR (op_eqS hr.units) (pe_ix ix_seq (pv 0) pe_int (fun _ _ => rfl)) pe_str (nomark _)) (pss_one (ps_ret (pe_and (pe_cmpR op_eq (pe_callB call_len (by rfl) T.z_len PySem.boot_len (pa_cons (pv 0) pa_nil)) pe_int (nomark _)) (pe_and (pe_call (ok_is_intA T) (hr.mono (by decide)) (by rfl) T.g_is_intA T.F_is_intA.kp (b_is_intA T) .nil pass0 (pa_cons (pe_ix ix_seq (pv 0) pe_int (fun _ _ => rfl)) pa_nil)) (pe_and (pe_call (ok_is_intA T) (hr.mono (by decide)) (by rfl) T.g_is_intA T.F_is_intA.kp (b_is_intA T) .nil pass0 (pa_cons (pe_ix ix_seq (pv 0) pe_int (fun _ _ => rfl)) pa_nil)) (pe_and (pe_cmpR op_ge (pe_ix ix_seq (pv 0) pe_int (fun _ _ => rfl)) pe_int (nomark _)) (pe_one (pe_cmpR op_ge (pe_ix ix_seq (pv 0) pe_int (fun _ _ => rfl)) pe_int (nomark _))))))))) pss_nil)
      (pss_one (ps_ret (pe_and (pe_cmpR (op_eqS hr.units) (pe_ix ix_seq (pv 0) pe_int (fun _ _ => rfl)) pe_str (nomark _)) (pe_and (pe_call (ok_is_pair0 T) (hr.mono (by decide)) (by rfl) T.g_is_pairB T.F_is_pairB.kp (b_is_pairB T) .nil pass0 (pa_cons (pv 0) pa_nil)) (pe_one (pe_call (ok_are_putA T) (hr.mono (by decide)) (by rfl) T.g_are_putA T.F_are_putA.kp (b_are_putA T) .nil pass0 (pa_cons (pe_ix ix_seq (pv 0) pe_int (fun _ _ => rfl)) pa_nil)))))))))
theorem b_is_scriptA (T : Tx K mg) : Binds K T.fd_is_scriptA ["thing"] [] := T.F_is_scriptA.bindsN fun _ _ _ _ _ _ us hl => match us, hl with | [_], _ => rfl
theorem ok_is_scriptA (T : Tx K mg) : FnOk P w K mg base CX0 6 (He.fAd K ("is_script", none)) T.fd_is_scriptA ["thing"] (sp_is_scriptA K) := by
  refine T.F_is_scriptA.ok sc_is_scriptA (fun vs H Q E h => len_is_scriptA h) (fun cdv A outer s H vs Q E hr h => ⟨t_is_scriptA K, PSs.nox ?_, pure_is_scriptA h⟩)
  exact (pss_cons (ps_if (PW.pt (pw_or (pt_not (pt_val (pe_callB call_isi (by rfl) T.z_isinstance (by decide +kernel) (pa_cons (pv 0) (pa_cons (pe_bltn (v := .ty "tuple") (by rfl) T.z_tuple (by decide +kernel) rfl) pa_nil))))) (pw_or1 (pt_not (pt_val (pe_callB (cr_all rfl) (by rfl) T.z_all (by decide +kernel) (pa_cons (pe_lc (own := [("piece", 1)]) (g := (gName 1)) (tt := tYes) (te := (tCall (sp_is_pieceA K) [] E0 (tCons (tVar 1) tNil))) rfl sc_is_scriptA.nd (pi_tup (pv 0)) (blkOk_by (own := [("piece", 1)]) (N := N_is_scriptA) (sc := defScope s_is_scriptA) (by decide +kernel)) (fun _ _ _ _ _ => (pg_name (i := 1) sc_is_scriptA.nd rfl (Or.inl rfl))) (fun _ _ _ _ _ => pts_nil) (fun _ _ _ _ _ => (pe_call (ok_is_pieceA T) (hr.mono (by decide)) (by rfl) T.g_is_pieceA T.F_is_pieceA.kp (b_is_pieceA T) .nil pass0 (pa_cons (pv 1) pa_nil)))) pa_nil))))))) (pss_one (ps_ret pe_bl)) pss_nil)
      (pss_one (ps_ret (pe_cmpR op_le (pe_callB (cr_sum rfl) (by rfl) T.z_sum (by decide +kernel) (pa_cons (pe_lc (own := [("piece", 1)]) (g := (gName 1)) (tt := tYes) (te := (tCall (sp_rows_in K) [] E0 (tCons (tVar 1) tNil))) rfl sc_is_scriptA.nd (pi_tup (pv 0)) (blkOk_by (own := [("piece", 1)]) (N := N_is_scriptA) (sc := defScope s_is_scriptA) (by decide +kernel)) (fun _ _ _ _ _ => (pg_name (i := 1) sc_is_scriptA.nd rfl (Or.inl rfl))) (fun _ _ _ _ _ => pts_nil) (fun _ _ _ _ _ => (pe_call (ok_rows_in T) (hr.mono (by decide)) (by rfl) T.g_rows_in T.F_rows_in.kp (b_rows_in T) .nil pass0 (pa_cons (pv 1) pa_nil)))) pa_nil)) (pe_glob (v := .int 40) (by rfl) T.c_MOST_ROWS.choose_spec ⟨_, rfl⟩) (nomark _)))))
theorem b_is_right_overA (T : Tx K mg) : Binds K T.fd_is_right_overA ["base", "thing"] [] := T.F_is_right_overA.bindsN fun _ _ _ _ _ _ us hl => match us, hl with | [_, _], _ => rfl
theorem ok_is_right_overA (T : Tx K mg) : FnOk P w K mg base CX0 7 (He.fAd K ("is_right_over", none)) T.fd_is_right_overA ["base", "thing"] (sp_is_right_overA K) := by
  refine T.F_is_right_overA.ok sc_is_right_overA (fun vs H Q E h => len_is_right_overA h) (fun cdv A outer s H vs Q E hr h => ⟨t_is_right_overA K, PSs.nox ?_, pure_is_right_overA h⟩)
  exact (pss_cons (ps_if (pt_not (pt_val (pe_call (ok_is_scriptA T) (hr.mono (by decide)) (by rfl) T.g_is_scriptA T.F_is_scriptA.kp (b_is_scriptA T) .nil pass0 (pa_cons (pv 1) pa_nil)))) (pss_one (ps_ret pe_bl)) pss_nil)
      (pss_one (ps_ret (pe_callB (cr_all rfl) (by rfl) T.z_all (by decide +kernel) (pa_cons (pe_lc (own := [("piece", 2)]) (g := (gName 2)) (tt := tYes) (te := (tOrV (tOp rEq (tOp (rIx K) (tVar 2) (tC (.int 0))) (tC (.str "put"))) (tOp rLeI (tOp rAddI (tOp (rIx K) (tVar 2) (tC (.int 1))) (tOp (rIx K) (tVar 2) (tC (.int 2)))) (tCB (fLen K) (tCons (tVar 0) tNil))))) rfl sc_is_right_overA.nd (pi_tup (pv 1)) (blkOk_by (own := [("piece", 2)]) (N := N_is_right_overA) (sc := defScope s_is_right_overA) (by decide +kernel)) (fun _ _ _ _ _ => (pg_name (i := 2) sc_is_right_overA.nd rfl (Or.inl rfl))) (fun _ _ _ _ _ => pts_nil) (fun _ _ _ _ _ => (pe_or (pe_cmpR op_eq (pe_ix ix_seq (pv 2) pe_int (fun _ _ => rfl)) pe_str (nomark _)) (pe_one (pe_cmpR op_le (pe_op op_add (pe_ix ix_seq (pv 2) pe_int (fun _ _ => rfl)) (pe_ix ix_seq (pv 2) pe_int (fun _ _ => rfl))) (pe_callB call_len (by rfl) T.z_len PySem.boot_len (pa_cons (pv 0) pa_nil)) (nomark _)))))) pa_nil)))))
theorem b_made (T : Tx K mg) : Binds K T.fd_made ["base", "script"] [] := T.F_made.bindsN fun _ _ _ _ _ _ us hl => match us, hl with | [_, _], _ => rfl
theorem ok_made (T : Tx K mg) : FnOk P w K mg base CX0 1 (He.fAd K ("made", none)) T.fd_made ["base", "script"] (sp_made K) := by
  refine T.F_made.ok sc_made (fun vs H Q E h => len_made h) (fun cdv A outer s H vs Q E hr h => ⟨t_made K, PSs.nox ?_, pure_made h⟩)
  exact (pss_cons (ps_set (i := 2) sc_made.nd rfl (Or.inl rfl) (pe_lst pa_nil))
      (pss_cons (ps_for PassesOwn.never rfl (pi_tup (pv 1)) (pg_name (i := 3) sc_made.nd rfl (Or.inl rfl)) (pss_one (ps_expr (pe_bm PySem.F.plainAttrs_list PySem.F.slot_list_extend PySem.F.type_list_extend mt_extendA (pv 2) (pa_cons (pe_ifExp (pt_cmpR op_eq (pe_ix ix_seq (pv 3) pe_int (fun _ _ => rfl)) pe_str (nomark _)) (pe_ix ix_seq (pv 3) pe_int (fun _ _ => rfl)) (pe_slice sl_tupA (pv 0) (po_some (pe_ix ix_seq (pv 3) pe_int (fun _ _ => rfl))) (po_some (pe_op op_add (pe_ix ix_seq (pv 3) pe_int (fun _ _ => rfl)) (pe_ix ix_seq (pv 3) pe_int (fun _ _ => rfl)))))) pa_nil)))))
      (pss_one (ps_ret (pe_callTy call_tuple_of (by rfl) T.z_tuple (by decide +kernel) (pa_cons (pv 2) pa_nil))))))
theorem b_priceA (T : Tx K mg) : ∃ ds, Vals [V.int 3, V.int 2] ds ∧ Binds K T.fd_priceA ["script", "take", "put"] ds := T.F_priceA.binds0 1 (by simp) rfl fun _ _ _ _ _ _ us ks hu hk => match us, ks, hu, hk with | [_], [_, _], _, _ => ⟨_, _, _, _, _, _, rfl, rfl, _, _, _, _, _, _, rfl, rfl, rfl⟩
theorem kb_priceA_take_put (T : Tx K mg) : ∃ mv : List Value, KBn K T.fd_priceA ["script", "take", "put"] 1 ["take", "put"] (fun us ws => us ++ ((ws.drop 0).take 1 ++ (ws.drop 1).take 1)) (fun us ws => (fun mv : List V => us ++ ((ws.drop 0).take 1 ++ (ws.drop 1).take 1)) []) :=
  T.F_priceA.kbinds0 1 ["take", "put"] [] (fun us mv ws => us ++ ((ws.drop 0).take 1 ++ (ws.drop 1).take 1)) (by simp) (by simp) (fun r1 r2 r3 => r1.append (((r3.drop 0).take 1).append ((r3.drop 1).take 1))) fun _ _ _ _ _ _ us mv ws hu hm hw => match us, mv, ws, hu, hm, hw with | [_], [], [_, _], _, _, _ => rfl
theorem ok_priceA (T : Tx K mg) : FnOk P w K mg base (L2.CX P w) 7 (He.fAd K ("price", none)) T.fd_priceA ["script", "take", "put"] (sp_priceA K) := by
  refine T.F_priceA.ok (CX := L2.CX P w) sc_priceA (fun vs H Q E h => len_priceA h) (fun cdv A outer s H vs Q E hr h => ⟨t_priceA K E, ?_, pure_priceA h⟩)
  exact (pss_cons (ps_if (pt_not (pt_val (pe_call (ok_is_scriptA T) (hr.mono (by decide)) (by rfl) T.g_is_scriptA T.F_is_scriptA.kp (b_is_scriptA T) .nil pass0 (pa_cons (pv 0) pa_nil)))) (pss_one (ps_raise rfl (takes_of rfl rfl rfl rfl) (pmk_own PySem.F.excBase_ValueError T.x_NoScript.1 T.gc_NoScript T.x_NoScript.2.1 (raises_own T.x_NoScript.2.2.1 T.x_NoScript.2.2.2) (by exact rfl)))) pss_nil)
      (pss_one (ps_ret (pe_callB (cr_sum rfl) (by rfl) T.z_sum (by decide +kernel) (pa_cons (pe_lc (own := [("piece", 3)]) (g := (gName 3)) (tt := tYes) (te := (tIf (tTest (tOp rEq (tOp (rIx K) (tVar 3) (tC (.int 0))) (tC (.str "put")))) (tOp rMulI (tVar 2) (tCall (sp_rows_in K) [] E0 (tCons (tVar 3) tNil))) (tVar 1))) rfl sc_priceA.nd (pi_tup (pv 0)) (blkOk_by (own := [("piece", 3)]) (N := N_priceA) (sc := defScope s_priceA) (by decide +kernel)) (fun _ _ _ _ _ => (pg_name (i := 3) sc_priceA.nd rfl (Or.inl rfl))) (fun _ _ _ _ _ => pts_nil) (fun _ _ _ _ _ => (pe_ifExp (pt_cmpR op_eq (pe_ix ix_seq (pv 3) pe_int (fun _ _ => rfl)) pe_str (nomark _)) (pe_op op_mul (pv 2) (pe_call (ok_rows_in T) (hr.mono (by decide)) (by rfl) T.g_rows_in T.F_rows_in.kp (b_rows_in T) .nil pass0 (pa_cons (pv 3) pa_nil))) (pv 1)))) pa_nil)))))
theorem b_longest_runs (T : Tx K mg) : Binds K T.fd_longest_runs ["base", "rows"] [] := T.F_longest_runs.bindsN fun _ _ _ _ _ _ us hl => match us, hl with | [_, _], _ => rfl
theorem ok_longest_runs (T : Tx K mg) : FnOk P w K mg base CX0 1 (He.fAd K ("longest_runs", none)) T.fd_longest_runs ["base", "rows"] (sp_longest_runs K) := by
  refine T.F_longest_runs.ok sc_longest_runs (fun vs H Q E h => len_longest_runs h) (fun cdv A outer s H vs Q E hr h => ⟨t_longest_runs K, PSs.nox ?_, pure_longest_runs h⟩)
  exact (pss_cons (ps_set (i := 2) sc_longest_runs.nd rfl (Or.inl rfl) (pe_lst pa_nil))
      (pss_cons (ps_set (i := 3) sc_longest_runs.nd rfl (Or.inr rfl) (pe_op op_rep (pe_lst (pa_cons pe_int pa_nil)) (pe_op op_add (pe_callB call_len (by rfl) T.z_len PySem.boot_len (pa_cons (pv 0) pa_nil)) pe_int)))
      (pss_cons (ps_for PassesOwn.never rfl (pi_revA (by rfl) T.z_reversed (pv 1)) (pg_name (i := 4) sc_longest_runs.nd rfl (Or.inr rfl)) (pss_cons (ps_set (i := 3) sc_longest_runs.nd rfl (Or.inr rfl) (pe_op op_cat (pe_lc (own := [("at", 6), ("text", 7)]) (g := (gTup K 2 (gCons (gName 6) (gCons (gName 7) gNil)))) (tt := tYes) (te := (tIf (tTest (tOp rEq (tVar 7) (tVar 4))) (tOp rAddI (tOp (rIx K) (tVar 3) (tOp rAddI (tVar 6) (tC (.int 1)))) (tC (.int 1))) (tC (.int 0)))) rfl sc_longest_runs.nd (pi_enumT (by rfl) T.z_enumerate (pa_cons (pv 0) pa_nil)) (blkOk_by (own := [("at", 6), ("text", 7)]) (N := N_longest_runs) (sc := defScope s_longest_runs) (by decide +kernel)) (fun _ _ _ _ _ => (pg_tup rfl (pgs_cons (pg_name (i := 6) sc_longest_runs.nd rfl (Or.inl rfl)) (pgs_cons (pg_name (i := 7) sc_longest_runs.nd rfl (Or.inl rfl)) pgs_nil)))) (fun _ _ _ _ _ => pts_nil) (fun _ _ _ _ _ => (pe_ifExp (pt_cmpR op_eq (pv 7) (pv 4) (nomark _)) (pe_op op_add (pe_ix ix_seq (pv 3) (pe_op op_add (pv 6) pe_int) (fun _ _ => rfl)) pe_int) pe_int))) (pe_lst (pa_cons pe_int pa_nil))))
      (pss_cons (ps_set (i := 5) sc_longest_runs.nd rfl (Or.inl rfl) (pe_callB (cr_max rfl) (by rfl) T.z_max (by decide +kernel) (pa_cons (pv 3) pa_nil)))
      (pss_one (ps_expr (pe_bm PySem.F.plainAttrs_list PySem.F.slot_list_append PySem.F.type_list_append mt_append (pv 2) (pa_cons (pe_tup (pa_cons (pe_bm PySem.F.plainAttrs_list PySem.F.slot_list_index PySem.F.type_list_index mt_index (pv 3) (pa_cons (pv 5) pa_nil)) (pa_cons (pv 5) pa_nil))) pa_nil)))))))
      (pss_one (ps_ret (pe_revL (pv 2)))))))
theorem b_are_boundsA (T : Tx K mg) : Binds K T.fd_are_boundsA ["base", "rows", "distances", "take", "put"] [] := T.F_are_boundsA.bindsN fun _ _ _ _ _ _ us hl => match us, hl with | [_, _, _, _, _], _ => rfl
theorem ok_are_boundsA (T : Tx K mg) : FnOk P w K mg base CX0 2 (He.fAd K ("are_bounds", none)) T.fd_are_boundsA ["base", "rows", "distances", "take", "put"] (sp_are_boundsA K) := by
  refine T.F_are_boundsA.ok sc_are_boundsA (fun vs H Q E h => len_are_boundsA h) (fun cdv A outer s H vs Q E hr h => ⟨t_are_boundsA K, PSs.nox ?_, pure_are_boundsA h⟩)
  exact (pss_cons (ps_set (i := 5) sc_are_boundsA.nd rfl (Or.inl rfl) (pe_call (ok_longest_runs T) (hr.mono (by decide)) (by rfl) T.g_longest_runs T.F_longest_runs.kp (b_longest_runs T) .nil pass0 (pa_cons (pv 0) (pa_cons (pv 1) pa_nil))))
      (pss_cons (ps_for PassesOwn.never rfl (pi_range1 (by rfl) T.z_range (pa_cons (pe_callB call_len (by rfl) T.z_len PySem.boot_len (pa_cons (pv 1) pa_nil)) pa_nil)) (pg_name (i := 6) sc_are_boundsA.nd rfl (Or.inl rfl)) (pss_cons (ps_if (pt_cmpR op_gt (pe_ix ix_seq (pv 2) (pe_op op_add (pv 6) pe_int) (fun _ _ => rfl)) (pe_op op_add (pe_ix ix_seq (pv 2) (pv 6) (fun _ _ => rfl)) (pv 4)) (nomark _)) (pss_one (ps_ret pe_bl)) pss_nil)
      (pss_one (ps_if (pt_cmpR op_gt (pe_callB (cr_maxT rfl hr.units) (by rfl) T.z_max (by decide +kernel) (pa_cons (pe_slice sl_tupA (pv 2) (po_some (pv 6)) (po_some (pe_op op_add (pe_op op_add (pv 6) (pe_ix ix_seq (pe_ix ix_seq (pv 5) (pv 6) (fun _ _ => rfl)) pe_int (fun _ _ => rfl))) pe_int))) pa_nil)) (pe_op op_add (pe_ix ix_seq (pv 2) (pv 6) (fun _ _ => rfl)) (pv 3)) (nomark _)) (pss_one (ps_ret pe_bl)) pss_nil))))
      (pss_one (ps_ret pe_bl))))
theorem b_right_leastA (T : Tx K mg) : ∃ ds, Vals [V.int 3, V.int 2] ds ∧ Binds K T.fd_right_leastA ["base", "rows", "thing", "take", "put"] ds := T.F_right_leastA.binds0 3 (by simp) rfl fun _ _ _ _ _ _ us ks hu hk => match us, ks, hu, hk with | [_, _, _], [_, _], _, _ => ⟨_, _, _, _, _, _, rfl, rfl, _, _, _, _, _, _, rfl, rfl, rfl⟩
theorem kb_right_leastA_put_take (T : Tx K mg) : ∃ mv : List Value, KBn K T.fd_right_leastA ["base", "rows", "thing", "take", "put"] 3 ["put", "take"] (fun us ws => us ++ ((ws.drop 1).take 1 ++ (ws.drop 0).take 1)) (fun us ws => (fun mv : List V => us ++ ((ws.drop 1).take 1 ++ (ws.drop 0).take 1)) []) :=
  T.F_right_leastA.kbinds0 3 ["put", "take"] [] (fun us mv ws => us ++ ((ws.drop 1).take 1 ++ (ws.drop 0).take 1)) (by simp) (by simp) (fun r1 r2 r3 => r1.append (((r3.drop 1).take 1).append ((r3.drop 0).take 1))) fun _ _ _ _ _ _ us mv ws hu hm hw => match us, mv, ws, hu, hm, hw with | [_, _, _], [], [_, _], _, _, _ => rfl
theorem kb_right_leastA_take (T : Tx K mg) : ∃ mv : List Value, KBn K T.fd_right_leastA ["base", "rows", "thing", "take", "put"] 3 ["take"] (fun us ws => us ++ ((ws.drop 0).take 1 ++ (mv.drop 0).take 1)) (fun us ws => (fun mv : List V => us ++ ((ws.drop 0).take 1 ++ (mv.drop 0).take 1)) [V.int 2]) :=
  T.F_right_leastA.kbinds0 3 ["take"] [("put", V.int 2)] (fun us mv ws => us ++ ((ws.drop 0).take 1 ++ (mv.drop 0).take 1)) (by simp) (by simp) (fun r1 r2 r3 => r1.append (((r3.drop 0).take 1).append ((r2.drop 0).take 1))) fun _ _ _ _ _ _ us mv ws hu hm hw => match us, mv, ws, hu, hm, hw with | [_, _, _], [_], [_], _, _, _ => ⟨_, _, _, _, _, _, rfl, rfl, rfl⟩
theorem ok_right_leastA (T : Tx K mg) : FnOk P w K mg base CX0 8 (He.fAd K ("right_least", none)) T.fd_right_leastA ["base", "rows", "thing", "take", "put"] (sp_right_leastA K) := by
  refine T.F_right_leastA.ok sc_right_leastA (fun vs H Q E h => len_right_leastA h) (fun cdv A outer s H vs Q E hr h => ⟨t_right_leastA K, PSs.nox ?_, pure_right_leastA h⟩)
  exact (pss_cons (ps_if (PW.pt (pw_or (pt_not (pt_val (pe_call (ok_is_pairB T) (hr.mono (by decide)) (by rfl) T.g_is_pairB T.F_is_pairB.kp (b_is_pairB T) .nil pass0 (pa_cons (pv 2) pa_nil)))) (pw_or (pt_not (pt_val (pe_call (ok_is_right_overA T) (hr.mono (by decide)) (by rfl) T.g_is_right_overA T.F_is_right_overA.kp (b_is_right_overA T) .nil pass0 (pa_cons (pv 0) (pa_cons (pe_ix ix_seq (pv 2) pe_int (fun _ _ => rfl)) pa_nil))))) (pw_or1 (pt_cmpR (op_neD hr.units) (pe_call (ok_made T) (hr.mono (by decide)) (by rfl) T.g_made T.F_made.kp (b_made T) .nil pass0 (pa_cons (pv 0) (pa_cons (pe_ix ix_seq (pv 2) pe_int (fun _ _ => rfl)) pa_nil))) (pv 1) (nomark _)))))) (pss_one (ps_ret pe_bl)) pss_nil)
      (pss_cons (ps_asg (pv 2) (pg_tup rfl (pgs_cons (pg_name (i := 5) sc_right_leastA.nd rfl (Or.inl rfl)) (pgs_cons (pg_name (i := 6) sc_right_leastA.nd rfl (Or.inl rfl)) pgs_nil))))
      (pss_cons (ps_if (PW.pt (pw_or (pt_not (pt_val (pe_call (ok_is_intsA T) (hr.mono (by decide)) (by rfl) T.g_is_intsA T.F_is_intsA.kp (b_is_intsA T) .nil pass0 (pa_cons (pv 6) pa_nil)))) (pw_or1 (pt_cmpR op_ne (pe_callB call_len (by rfl) T.z_len PySem.boot_len (pa_cons (pv 6) pa_nil)) (pe_op op_add (pe_callB call_len (by rfl) T.z_len PySem.boot_len (pa_cons (pv 1) pa_nil)) pe_int) (nomark _))))) (pss_one (ps_ret pe_bl)) pss_nil)
      (pss_cons (ps_if (PW.pt (pw_or (pt_cmpR op_ne (pe_ix ix_seq (pv 6) pe_int (fun _ _ => rfl)) pe_int (nomark _)) (pw_or1 (pt_cmpR op_ne (pe_ix ix_seq (pv 6) (pe_un un_neg pe_int) (fun _ _ => rfl)) (pe_callN (n := 1) (ks := ["take", "put"]) (ok_priceA T) (hr.mono (by decide)) (by rfl) T.g_priceA T.F_priceA.kp (kb_priceA_take_put T).choose_spec passL (pa_cons (pv 5) pa_nil) (pk_cons (pv 3) (pk_cons (pv 4) pk_nil))) (nomark _))))) (pss_one (ps_ret pe_bl)) pss_nil)
      (pss_one (ps_ret (pe_call (ok_are_boundsA T) (hr.mono (by decide)) (by rfl) T.g_are_boundsA T.F_are_boundsA.kp (b_are_boundsA T) .nil pass0 (pa_cons (pv 0) (pa_cons (pv 1) (pa_cons (pv 6) (pa_cons (pv 3) (pa_cons (pv 4) pa_nil))))))))))))
theorem b_l_deck (T : Tx K mg) : Binds K T.fd_l_deck ["_law_script_here"] [] := T.F_l_deck.bindsN fun _ _ _ _ _ _ us hl => match us, hl with | [_], _ => rfl
theorem ok_l_deck (T : Tx K mg) : FnOk P w K mg base CX0 1 (He.fAd K ("_law_deck", none)) T.fd_l_deck ["_law_script_here"] (sp_l_deck K) := by
  refine T.F_l_deck.ok sc_l_deck (fun vs H Q E h => len_l_deck h) (fun cdv A outer s H vs Q E hr h => ⟨t_l_deck K, PSs.nox ?_, pure_l_deck h⟩)
  exact (pss_one (ps_ret (pe_lst (pa_cons (pe_callTy call_list_of (by rfl) T.z_list (by decide +kernel) (pa_cons (pv 0) pa_nil)) (pa_cons pe_int (pa_cons pe_int (pa_cons pe_int pa_nil)))))))
theorem b_l_mixed (T : Tx K mg) : Binds K T.fd_l_mixed ["_law_cell", "_law_turn"] [] := T.F_l_mixed.bindsN fun _ _ _ _ _ _ us hl => match us, hl with | [_, _], _ => rfl
theorem ok_l_mixed (T : Tx K mg) : FnOk P w K mg base CX0 1 (He.fAd K ("_law_mixed", none)) T.fd_l_mixed ["_law_cell", "_law_turn"] (sp_l_mixed K) := by
  refine T.F_l_mixed.ok sc_l_mixed (fun vs H Q E h => len_l_mixed h) (fun cdv A outer s H vs Q E hr h => ⟨t_l_mixed K, PSs.nox ?_, pure_l_mixed h⟩)
  exact (pss_one (ps_ret (pe_op op_mod (pe_op op_pow (pe_op op_add (pe_op op_add (pe_op op_mod (pv 0) pe_int) (pe_op op_mul (pv 1) pe_int)) pe_int) pe_int) pe_int)))
theorem b_l_draw (T : Tx K mg) : Binds K T.fd_l_draw ["_law_deck_here", "_law_many"] [] := T.F_l_draw.bindsN fun _ _ _ _ _ _ us hl => match us, hl with | [_, _], _ => rfl
theorem ok_l_draw (T : Tx K mg) : FnOk P w K mg base CX0 2 (He.fAd K ("_law_draw", none)) T.fd_l_draw ["_law_deck_here", "_law_many"] (sp_l_draw K) := by
  refine T.F_l_draw.ok sc_l_draw (fun vs H Q E h => len_l_draw h) (fun cdv A outer s H vs Q E hr h => ⟨t_l_draw K, PSs.nox ?_, pure_l_draw h⟩)
  exact (pss_cons (ps_set (i := 2) sc_l_draw.nd rfl (Or.inl rfl) (pe_ix ix_seq (pv 0) pe_int (fun _ _ => rfl)))
      (pss_cons (ps_asg (pe_op op_add (pe_ix ix_seq (pv 0) pe_int (fun _ _ => rfl)) pe_int) (pg_sub (pv 0) pe_int set_list))
      (pss_cons (ps_if (PW.pt (pw_and (pt_cmpR op_eq (pe_ix ix_seq (pv 0) pe_int (fun _ _ => rfl)) pe_int (nomark _)) (pw_and1 (pt_cmpR op_lt (pe_ix ix_seq (pv 0) pe_int (fun _ _ => rfl)) (pe_callB call_len (by rfl) T.z_len PySem.boot_len (pa_cons (pv 2) pa_nil)) (nomark _))))) (pss_cons (ps_asg (pe_op op_add (pe_ix ix_seq (pv 0) pe_int (fun _ _ => rfl)) pe_int) (pg_sub (pv 0) pe_int set_list))
      (pss_cons (ps_if (pt_cmpR op_lt (pe_ix ix_seq (pv 2) (pe_op op_sub (pe_ix ix_seq (pv 0) pe_int (fun _ _ => rfl)) pe_int) (fun _ _ => rfl)) (pe_op op_pow pe_int pe_int) (nomark _)) (pss_one (ps_ret (pe_op op_mod (pe_call (ok_l_mixed T) (hr.mono (by decide)) (by rfl) T.g_l_mixed T.F_l_mixed.kp (b_l_mixed T) .nil pass0 (pa_cons (pe_ix ix_seq (pv 2) (pe_op op_sub (pe_ix ix_seq (pv 0) pe_int (fun _ _ => rfl)) pe_int) (fun _ _ => rfl)) (pa_cons (pe_ix ix_seq (pv 0) pe_int (fun _ _ => rfl)) pa_nil))) (pv 1)))) pss_nil)
      (pss_one (ps_asg (pe_ix ix_seq (pv 2) (pe_op op_sub (pe_ix ix_seq (pv 0) pe_int (fun _ _ => rfl)) pe_int) (fun _ _ => rfl)) (pg_sub (pv 0) pe_int set_list))))) pss_nil)
      (pss_cons (ps_if (pt_cmpR op_gt (pe_ix ix_seq (pv 0) pe_int (fun _ _ => rfl)) pe_int (nomark _)) (pss_cons (ps_set (i := 3) sc_l_draw.nd rfl (Or.inl rfl) (pe_op op_mod (pe_ix ix_seq (pv 0) pe_int (fun _ _ => rfl)) (pv 1)))
      (pss_cons (ps_asg (pe_op op_fdivW (pe_ix ix_seq (pv 0) pe_int (fun _ _ => rfl)) (pv 1)) (pg_sub (pv 0) pe_int set_list))
      (pss_one (ps_ret (pv 3))))) pss_nil)
      (pss_cons (ps_set (i := 4) sc_l_draw.nd rfl (Or.inl rfl) (pe_op op_mul (pe_ix ix_seq (pv 0) pe_int (fun _ _ => rfl)) pe_int))
      (pss_cons (ps_if (pt_cmpR op_gt (pe_callB call_len (by rfl) T.z_len PySem.boot_len (pa_cons (pv 2) pa_nil)) pe_int (nomark _)) (pss_one (ps_set (i := 4) sc_l_draw.nd rfl (Or.inl rfl) (pe_op op_add (pv 4) (pe_op op_mod (pe_ix ix_seq (pv 2) (pe_op op_mod (pe_op op_mul (pe_ix ix_seq (pv 0) pe_int (fun _ _ => rfl)) pe_int) (pe_callB call_len (by rfl) T.z_len PySem.boot_len (pa_cons (pv 2) pa_nil))) (fun _ _ => rfl)) pe_int)))) pss_nil)
      (pss_one (ps_ret (pe_op op_mod (pe_call (ok_l_mixed T) (hr.mono (by decide)) (by rfl) T.g_l_mixed T.F_l_mixed.kp (b_l_mixed T) .nil pass0 (pa_cons (pv 4) (pa_cons (pe_ix ix_seq (pv 0) pe_int (fun _ _ => rfl)) pa_nil))) (pv 1))))))))))
theorem b_l_text (T : Tx K mg) : Binds K T.fd_l_text ["_law_deck_here", "_law_size_here"] [] := T.F_l_text.bindsN fun _ _ _ _ _ _ us hl => match us, hl with | [_, _], _ => rfl
theorem ok_l_text (T : Tx K mg) : FnOk P w K mg base CX0 3 (He.fAd K ("_law_text", none)) T.fd_l_text ["_law_deck_here", "_law_size_here"] (sp_l_text K) := by
  refine T.F_l_text.ok sc_l_text (fun vs H Q E h => len_l_text h) (fun cdv A outer s H vs Q E hr h => ⟨t_l_text K, PSs.nox ?_, pure_l_text h⟩)
  exact (pss_cons (ps_set (i := 2) sc_l_text.nd rfl (Or.inr rfl) pe_str)
      (pss_cons (ps_if (pt_cmpR op_eq (pe_call (ok_l_draw T) (hr.mono (by decide)) (by rfl) T.g_l_draw T.F_l_draw.kp (b_l_draw T) .nil pass0 (pa_cons (pv 0) (pa_cons pe_int pa_nil))) pe_int (nomark _)) (pss_one (ps_set (i := 2) sc_l_text.nd rfl (Or.inr rfl) pe_str)) pss_nil)
      (pss_one (ps_ret (pe_join pe_str (pe_lc (own := [("_law_k", 3)]) (g := (gName 3)) (tt := tYes) (te := (tOp (rIx K) (tVar 2) (tCall (sp_l_draw K) [] E0 (tCons (tVar 0) (tCons (tCB (fLen K) (tCons (tVar 2) tNil)) tNil))))) rfl sc_l_text.nd (pi_range1 (by rfl) T.z_range (pa_cons (pe_call (ok_l_draw T) (hr.mono (by decide)) (by rfl) T.g_l_draw T.F_l_draw.kp (b_l_draw T) .nil pass0 (pa_cons (pv 0) (pa_cons (pe_op op_add (pv 1) pe_int) pa_nil))) pa_nil)) (blkOk_by (own := [("_law_k", 3)]) (N := N_l_text) (sc := defScope s_l_text) (by decide +kernel)) (fun _ _ _ _ _ => (pg_name (i := 3) sc_l_text.nd rfl (Or.inl rfl))) (fun _ _ _ _ _ => pts_nil) (fun _ _ _ _ _ => (pe_ix ix_seq (pv 2) (pe_call (ok_l_draw T) (hr.mono (by decide)) (by rfl) T.g_l_draw T.F_l_draw.kp (b_l_draw T) .nil pass0 (pa_cons (pv 0) (pa_cons (pe_callB call_len (by rfl) T.z_len PySem.boot_len (pa_cons (pv 2) pa_nil)) pa_nil))) (fun _ _ => rfl)))))))))
theorem b_l_int (T : Tx K mg) : Binds K T.fd_l_int ["_law_thing"] [] := T.F_l_int.bindsN fun _ _ _ _ _ _ us hl => match us, hl with | [_], _ => rfl
theorem ok_l_int (T : Tx K mg) : FnOk P w K mg base CX0 1 (He.fAd K ("_law_int", none)) T.fd_l_int ["_law_thing"] (sp_l_intA K) := by
  refine T.F_l_int.ok sc_l_int (fun vs H Q E h => len_l_intA h) (fun cdv A outer s H vs Q E hr h => ⟨t_l_int K, PSs.nox ?_, pure_l_intA h⟩)
  exact (pss_one (ps_ret (pe_and (pe_callB call_isi (by rfl) T.z_isinstance (by decide +kernel) (pa_cons (pv 0) (pa_cons (pe_bltn (v := .ty "int") (by rfl) T.z_int (by decide +kernel) rfl) pa_nil))) (pe_one (pe_not (pe_callB call_isi (by rfl) T.z_isinstance (by decide +kernel) (pa_cons (pv 0) (pa_cons (pe_bltn (v := .ty "bool") (by rfl) T.z_bool (by decide +kernel) rfl) pa_nil))))))))
theorem b_l_same (T : Tx K mg) : Binds K T.fd_l_same ["_law_found", "_law_due"] [] := T.F_l_same.bindsN fun _ _ _ _ _ _ us hl => match us, hl with | [_, _], _ => rfl
theorem ok_l_int0 (T : Tx K mg) : FnOk P w K mg base CX0 1 (He.fAd K ("_law_int", none)) T.fd_l_int ["_law_thing"] (sp_l_int K) := (ok_l_int T).imp fun vs H Q E h => by
  obtain ⟨i, rfl, q⟩ := h
  exact int_weak q
theorem ok_same2N (T : Tx K mg) : ∀ n : Nat, FnOk P w K mg base CX0 (n + 2) (He.fAd K ("_law_same", none)) T.fd_l_same ["_law_found", "_law_due"] (sp_same2N K n)
  | 0 => T.F_l_same.ok sc_l_same (fun vs H Q E h => len_same2N h) (fun cdv A outer s H vs Q E hr h => by
      obtain ⟨_, _, _, h, _⟩ := h
      exact h.elim)
  | n + 1 => by
    have G : FnOk P w K mg base CX0 (n + 2) (He.fAd K ("_law_same", none)) T.fd_l_same ["_law_found", "_law_due"] (sp_same2N K n) := ok_same2N T n
    refine T.F_l_same.ok sc_l_same (fun vs H Q E h => len_same2N h) (fun cdv A outer s H vs Q E hr h => ⟨t_l_same2 K n, PSs.nox ?_, pure_l_same2 h⟩)
    exact (pss_cons (ps_if (pt_val (pe_callB call_isiT (by rfl) T.z_isinstance (by decide +kernel) (pa_cons (pv 1) (pa_cons (pe_tup (pa_cons (pe_bltn (v := .ty "tuple") (by rfl) T.z_tuple (by decide +kernel) rfl) (pa_cons (pe_bltn (v := .ty "list") (by rfl) T.z_list (by decide +kernel) rfl) pa_nil))) pa_nil)))) (pss_cons (ps_if (PW.pt (pw_or (pt_cmpR op_ne (pe_callB call_isi (by rfl) T.z_isinstance (by decide +kernel) (pa_cons (pv 1) (pa_cons (pe_bltn (v := .ty "tuple") (by rfl) T.z_tuple (by decide +kernel) rfl) pa_nil))) (pe_callB call_isi (by rfl) T.z_isinstance (by decide +kernel) (pa_cons (pv 0) (pa_cons (pe_bltn (v := .ty "tuple") (by rfl) T.z_tuple (by decide +kernel) rfl) pa_nil))) (nomark _)) (pw_or1 (pt_cmpR op_ne (pe_callB call_isi (by rfl) T.z_isinstance (by decide +kernel) (pa_cons (pv 1) (pa_cons (pe_bltn (v := .ty "list") (by rfl) T.z_list (by decide +kernel) rfl) pa_nil))) (pe_callB call_isi (by rfl) T.z_isinstance (by decide +kernel) (pa_cons (pv 0) (pa_cons (pe_bltn (v := .ty "list") (by rfl) T.z_list (by decide +kernel) rfl) pa_nil))) (nomark _))))) (pss_one (ps_ret pe_bl)) pss_nil)
      (pss_cons (ps_if (pt_cmpR op_ne (pe_callB call_len (by rfl) T.z_len PySem.boot_len (pa_cons (pv 0) pa_nil)) (pe_callB call_len (by rfl) T.z_len PySem.boot_len (pa_cons (pv 1) pa_nil)) (nomark _)) (pss_one (ps_ret pe_bl)) pss_nil)
      (pss_cons (ps_for PassesOwn.never rfl (pi_range1 (by rfl) T.z_range (pa_cons (pe_callB call_len (by rfl) T.z_len PySem.boot_len (pa_cons (pv 1) pa_nil)) pa_nil)) (pg_name (i := 2) sc_l_same.nd rfl (Or.inl rfl)) (pss_one (ps_if (pt_not (pt_val (pe_call G hr (by rfl) T.g_l_same T.F_l_same.kp (b_l_same T) .nil pass0 (pa_cons (pe_ix ix_seq (pv 0) (pv 2) (fun _ _ => rfl)) (pa_cons (pe_ix ix_seq (pv 1) (pv 2) (fun _ _ => rfl)) pa_nil))))) (pss_one (ps_ret pe_bl)) pss_nil)))
      (pss_one (ps_ret pe_bl))))) pss_nil)
      (pss_cons (ps_if (pt_val (pe_callB call_isi (by rfl) T.z_isinstance (by decide +kernel) (pa_cons (pv 1) (pa_cons (pe_bltn (v := .ty "dict") (by rfl) T.z_dict (by decide +kernel) rfl) pa_nil)))) (pss_one ps_never) pss_nil)
      (pss_cons (ps_if (pt_val (pe_callB call_isi (by rfl) T.z_isinstance (by decide +kernel) (pa_cons (pv 1) (pa_cons (pe_bltn (v := .ty "bool") (by rfl) T.z_bool (by decide +kernel) rfl) pa_nil)))) (pss_one (ps_ret (pe_and (pe_callB call_isi (by rfl) T.z_isinstance (by decide +kernel) (pa_cons (pv 0) (pa_cons (pe_bltn (v := .ty "bool") (by rfl) T.z_bool (by decide +kernel) rfl) pa_nil))) (pe_one (pe_cmpR op_eq (pv 0) (pv 1) (nomark _)))))) pss_nil)
      (pss_cons (ps_if (pt_val (pe_callB call_isi (by rfl) T.z_isinstance (by decide +kernel) (pa_cons (pv 1) (pa_cons (pe_bltn (v := .ty "int") (by rfl) T.z_int (by decide +kernel) rfl) pa_nil)))) (pss_one (ps_ret (pe_and (pe_call (ok_l_int0 T) (hr.mono (by omega)) (by rfl) T.g_l_int T.F_l_int.kp (b_l_int T) .nil pass0 (pa_cons (pv 0) pa_nil)) (pe_one (pe_cmpR op_eq (pv 0) (pv 1) (nomark _)))))) pss_nil)
      (pss_cons (ps_if (pt_val (pe_callB call_isi (by rfl) T.z_isinstance (by decide +kernel) (pa_cons (pv 1) (pa_cons (pe_bltn (v := .ty "str") (by rfl) T.z_str (by decide +kernel) rfl) pa_nil)))) (pss_one (ps_ret (pe_and (pe_callB call_isi (by rfl) T.z_isinstance (by decide +kernel) (pa_cons (pv 0) (pa_cons (pe_bltn (v := .ty "str") (by rfl) T.z_str (by decide +kernel) rfl) pa_nil))) (pe_one (pe_cmpR op_eq (pv 0) (pv 1) (nomark _)))))) pss_nil)
      (pss_one (ps_ret (pe_and (pe_cmpR op_isN (pv 1) pe_non (nomark _)) (pe_one (pe_cmpR op_isN (pv 0) pe_non (nomark _)))))))))))
theorem ok_l_same (T : Tx K mg) : FnOk P w K mg base CX0 8 (He.fAd K ("_law_same", none)) T.fd_l_same ["_law_found", "_law_due"] (sp_l_same2 K) := ok_same2N T 6
theorem b_l_stock (T : Tx K mg) : Binds K T.fd_l_stock ["_law_deck_here"] [] := T.F_l_stock.bindsN fun _ _ _ _ _ _ us hl => match us, hl with | [_], _ => rfl
theorem ok_l_stock (T : Tx K mg) : FnOk P w K mg base CX0 4 (He.fAd K ("_law_stock", none)) T.fd_l_stock ["_law_deck_here"] (sp_l_stock K) := by
  refine T.F_l_stock.ok sc_l_stock (fun vs H Q E h => len_l_stock h) (fun cdv A outer s H vs Q E hr h => ⟨t_l_stock K, PSs.nox ?_, pure_l_stock h⟩)
  exact (pss_cons (ps_set (i := 1) sc_l_stock.nd rfl (Or.inr rfl) pe_int)
      (pss_cons (ps_if (pt_cmpR op_eq (pe_call (ok_l_draw T) (hr.mono (by decide)) (by rfl) T.g_l_draw T.F_l_draw.kp (b_l_draw T) .nil pass0 (pa_cons (pv 0) (pa_cons pe_int pa_nil))) pe_int (nomark _)) (pss_one (ps_set (i := 1) sc_l_stock.nd rfl (Or.inr rfl) pe_int)) pss_nil)
      (pss_one (ps_ret (pe_lc (own := [("_law_k", 2)]) (g := (gName 2)) (tt := tYes) (te := (tCall (sp_l_text K) [] E0 (tCons (tVar 0) (tCons (tVar 1) tNil)))) rfl sc_l_stock.nd (pi_range1 (by rfl) T.z_range (pa_cons (pe_op op_add pe_int (pe_call (ok_l_draw T) (hr.mono (by decide)) (by rfl) T.g_l_draw T.F_l_draw.kp (b_l_draw T) .nil pass0 (pa_cons (pv 0) (pa_cons pe_int pa_nil)))) pa_nil)) (blkOk_by (own := [("_law_k", 2)]) (N := N_l_stock) (sc := defScope s_l_stock) (by decide +kernel)) (fun _ _ _ _ _ => (pg_name (i := 2) sc_l_stock.nd rfl (Or.inl rfl))) (fun _ _ _ _ _ => pts_nil) (fun _ _ _ _ _ => (pe_call (ok_l_text T) (hr.mono (by decide)) (by rfl) T.g_l_text T.F_l_text.kp (b_l_text T) .nil pass0 (pa_cons (pv 0) (pa_cons (pv 1) pa_nil)))))))))
theorem b_l_lines (T : Tx K mg) : Binds K T.fd_l_lines ["_law_deck_here", "_law_stock_here", "_law_most"] [] := T.F_l_lines.bindsN fun _ _ _ _ _ _ us hl => match us, hl with | [_, _, _], _ => rfl
theorem ok_l_lines (T : Tx K mg) : FnOk P w K mg base CX0 3 (He.fAd K ("_law_lines", none)) T.fd_l_lines ["_law_deck_here", "_law_stock_here", "_law_most"] (sp_l_lines K) := by
  refine T.F_l_lines.ok sc_l_lines (fun vs H Q E h => len_l_lines h) (fun cdv A outer s H vs Q E hr h => ⟨t_l_lines K, PSs.nox ?_, pure_l_lines h⟩)
  exact (pss_one (ps_ret (pe_callTy call_tuple_of (by rfl) T.z_tuple (by decide +kernel) (pa_cons (pe_lc (own := [("_law_k", 3)]) (g := (gName 3)) (tt := tYes) (te := (tOp (rIx K) (tVar 1) (tCall (sp_l_draw K) [] E0 (tCons (tVar 0) (tCons (tCB (fLen K) (tCons (tVar 1) tNil)) tNil))))) rfl sc_l_lines.nd (pi_range1 (by rfl) T.z_range (pa_cons (pe_call (ok_l_draw T) (hr.mono (by decide)) (by rfl) T.g_l_draw T.F_l_draw.kp (b_l_draw T) .nil pass0 (pa_cons (pv 0) (pa_cons (pe_op op_add (pv 2) pe_int) pa_nil))) pa_nil)) (blkOk_by (own := [("_law_k", 3)]) (N := N_l_lines) (sc := defScope s_l_lines) (by decide +kernel)) (fun _ _ _ _ _ => (pg_name (i := 3) sc_l_lines.nd rfl (Or.inl rfl))) (fun _ _ _ _ _ => pts_nil) (fun _ _ _ _ _ => (pe_ix ix_seq (pv 1) (pe_call (ok_l_draw T) (hr.mono (by decide)) (by rfl) T.g_l_draw T.F_l_draw.kp (b_l_draw T) .nil pass0 (pa_cons (pv 0) (pa_cons (pe_callB call_len (by rfl) T.z_len PySem.boot_len (pa_cons (pv 1) pa_nil)) pa_nil))) (fun _ _ => rfl)))) pa_nil))))
theorem b_l_script (T : Tx K mg) : Binds K T.fd_l_script ["_law_deck_here", "_law_base", "_law_stock_here", "_law_most"] [] := T.F_l_script.bindsN fun _ _ _ _ _ _ us hl => match us, hl with | [_, _, _, _], _ => rfl
theorem ok_l_script (T : Tx K mg) : FnOk P w K mg base CX0 3 (He.fAd K ("_law_script", none)) T.fd_l_script ["_law_deck_here", "_law_base", "_law_stock_here", "_law_most"] (sp_l_script K) := by
  refine T.F_l_script.ok sc_l_script (fun vs H Q E h => len_l_script h) (fun cdv A outer s H vs Q E hr h => ⟨t_l_script K, PSs.nox ?_, pure_l_script h⟩)
  exact (pss_cons (ps_set (i := 4) sc_l_script.nd rfl (Or.inl rfl) (pe_lst pa_nil))
      (pss_cons (ps_set (i := 5) sc_l_script.nd rfl (Or.inl rfl) (pe_call (ok_l_draw T) (hr.mono (by decide)) (by rfl) T.g_l_draw T.F_l_draw.kp (b_l_draw T) .nil pass0 (pa_cons (pv 0) (pa_cons (pe_op op_add (pv 3) pe_int) pa_nil))))
      (pss_cons (ps_while PassesOwn.never (pt_cmpR op_gt (pv 5) pe_int (nomark _)) (pss_cons (ps_if (PW.pt (pw_and (pt_cmpR op_gt (pe_callB call_len (by rfl) T.z_len PySem.boot_len (pa_cons (pv 1) pa_nil)) pe_int (nomark _)) (pw_and1 (pt_cmpR op_gt (pe_call (ok_l_draw T) (hr.mono (by decide)) (by rfl) T.g_l_draw T.F_l_draw.kp (b_l_draw T) .nil pass0 (pa_cons (pv 0) (pa_cons pe_int pa_nil))) pe_int (nomark _))))) (pss_cons (ps_set (i := 6) sc_l_script.nd rfl (Or.inl rfl) (pe_call (ok_l_draw T) (hr.mono (by decide)) (by rfl) T.g_l_draw T.F_l_draw.kp (b_l_draw T) .nil pass0 (pa_cons (pv 0) (pa_cons (pe_callB call_len (by rfl) T.z_len PySem.boot_len (pa_cons (pv 1) pa_nil)) pa_nil))))
      (pss_cons (ps_set (i := 7) sc_l_script.nd rfl (Or.inl rfl) (pe_op op_add pe_int (pe_call (ok_l_draw T) (hr.mono (by decide)) (by rfl) T.g_l_draw T.F_l_draw.kp (b_l_draw T) .nil pass0 (pa_cons (pv 0) (pa_cons (pe_callB (call_min2 rfl) (by rfl) T.z_min (by decide +kernel) (pa_cons (pv 5) (pa_cons (pe_op op_sub (pe_callB call_len (by rfl) T.z_len PySem.boot_len (pa_cons (pv 1) pa_nil)) (pv 6)) pa_nil))) pa_nil)))))
      (pss_one (ps_expr (pe_bm PySem.F.plainAttrs_list PySem.F.slot_list_append PySem.F.type_list_append mt_append (pv 4) (pa_cons (pe_tup (pa_cons pe_str (pa_cons (pv 6) (pa_cons (pv 7) pa_nil)))) pa_nil)))))) (pss_cons (ps_set (i := 7) sc_l_script.nd rfl (Or.inl rfl) (pe_op op_add pe_int (pe_call (ok_l_draw T) (hr.mono (by decide)) (by rfl) T.g_l_draw T.F_l_draw.kp (b_l_draw T) .nil pass0 (pa_cons (pv 0) (pa_cons (pe_callB (call_min2 rfl) (by rfl) T.z_min (by decide +kernel) (pa_cons (pv 5) (pa_cons pe_int pa_nil))) pa_nil)))))
      (pss_one (ps_expr (pe_bm PySem.F.plainAttrs_list PySem.F.slot_list_append PySem.F.type_list_append mt_append (pv 4) (pa_cons (pe_tup (pa_cons pe_str (pa_cons (pe_callTy call_tuple_of (by rfl) T.z_tuple (by decide +kernel) (pa_cons (pe_lc (own := [("_law_k", 8)]) (g := (gName 8)) (tt := tYes) (te := (tOp (rIx K) (tVar 2) (tCall (sp_l_draw K) [] E0 (tCons (tVar 0) (tCons (tCB (fLen K) (tCons (tVar 2) tNil)) tNil))))) rfl sc_l_script.nd (pi_range1 (by rfl) T.z_range (pa_cons (pv 7) pa_nil)) (blkOk_by (own := [("_law_k", 8)]) (N := N_l_script) (sc := defScope s_l_script) (by decide +kernel)) (fun _ _ _ _ _ => (pg_name (i := 8) sc_l_script.nd rfl (Or.inl rfl))) (fun _ _ _ _ _ => pts_nil) (fun _ _ _ _ _ => (pe_ix ix_seq (pv 2) (pe_call (ok_l_draw T) (hr.mono (by decide)) (by rfl) T.g_l_draw T.F_l_draw.kp (b_l_draw T) .nil pass0 (pa_cons (pv 0) (pa_cons (pe_callB call_len (by rfl) T.z_len PySem.boot_len (pa_cons (pv 2) pa_nil)) pa_nil))) (fun _ _ => rfl)))) pa_nil)) pa_nil))) pa_nil))))))
      (pss_one (ps_set (i := 5) sc_l_script.nd rfl (Or.inl rfl) (pe_op op_sub (pv 5) (pv 7))))))
      (pss_one (ps_ret (pe_callTy call_tuple_of (by rfl) T.z_tuple (by decide +kernel) (pa_cons (pv 4) pa_nil)))))))
theorem b_l_made (T : Tx K mg) : Binds K T.fd_l_made ["_law_base", "_law_pieces"] [] := T.F_l_made.bindsN fun _ _ _ _ _ _ us hl => match us, hl with | [_, _], _ => rfl
theorem ok_l_made (T : Tx K mg) : FnOk P w K mg base CX0 1 (He.fAd K ("_law_made", none)) T.fd_l_made ["_law_base", "_law_pieces"] (sp_l_made K) := by
  refine T.F_l_made.ok sc_l_made (fun vs H Q E h => len_l_made h) (fun cdv A outer s H vs Q E hr h => ⟨t_l_made K, PSs.nox ?_, pure_l_made h⟩)
  exact (pss_cons (ps_set (i := 2) sc_l_made.nd rfl (Or.inl rfl) (pe_lst pa_nil))
      (pss_cons (ps_for PassesOwn.never rfl (pi_tup (pv 1)) (pg_name (i := 3) sc_l_made.nd rfl (Or.inl rfl)) (pss_one (ps_if (pt_cmpR op_eq (pe_ix ix_seq (pv 3) pe_int (fun _ _ => rfl)) pe_str (nomark _)) (pss_one (ps_for PassesOwn.never rfl (pi_range1 (by rfl) T.z_range (pa_cons (pe_ix ix_seq (pv 3) pe_int (fun _ _ => rfl)) pa_nil)) (pg_name (i := 4) sc_l_made.nd rfl (Or.inl rfl)) (pss_one (ps_expr (pe_bm PySem.F.plainAttrs_list PySem.F.slot_list_append PySem.F.type_list_append mt_append (pv 2) (pa_cons (pe_ix ix_seq (pv 0) (pe_op op_add (pe_ix ix_seq (pv 3) pe_int (fun _ _ => rfl)) (pv 4)) (fun _ _ => rfl)) pa_nil)))))) (pss_one (ps_for PassesOwn.never rfl (pi_tup (pe_ix ix_seq (pv 3) pe_int (fun _ _ => rfl))) (pg_name (i := 5) sc_l_made.nd rfl (Or.inl rfl)) (pss_one (ps_expr (pe_bm PySem.F.plainAttrs_list PySem.F.slot_list_append PySem.F.type_list_append mt_append (pv 2) (pa_cons (pv 5) pa_nil)))))))))
      (pss_one (ps_ret (pe_callTy call_tuple_of (by rfl) T.z_tuple (by decide +kernel) (pa_cons (pv 2) pa_nil))))))
theorem b_l_cost (T : Tx K mg) : Binds K T.fd_l_cost ["_law_pieces", "_law_by_take", "_law_by_put"] [] := T.F_l_cost.bindsN fun _ _ _ _ _ _ us hl => match us, hl with | [_, _, _], _ => rfl
theorem ok_l_cost (T : Tx K mg) : FnOk P w K mg base CX0 1 (He.fAd K ("_law_cost", none)) T.fd_l_cost ["_law_pieces", "_law_by_take", "_law_by_put"] (sp_l_cost K) := by
  refine T.F_l_cost.ok sc_l_cost (fun vs H Q E h => len_l_cost h) (fun cdv A outer s H vs Q E hr h => ⟨t_l_cost K, PSs.nox ?_, pure_l_cost h⟩)
  exact (pss_cons (ps_set (i := 3) sc_l_cost.nd rfl (Or.inl rfl) pe_int)
      (pss_cons (ps_for PassesOwn.never rfl (pi_tup (pv 0)) (pg_name (i := 4) sc_l_cost.nd rfl (Or.inl rfl)) (pss_one (ps_if (pt_cmpR op_eq (pe_ix ix_seq (pv 4) pe_int (fun _ _ => rfl)) pe_str (nomark _)) (pss_one (ps_set (i := 3) sc_l_cost.nd rfl (Or.inl rfl) (pe_op op_add (pv 3) (pv 1)))) (pss_one (ps_set (i := 3) sc_l_cost.nd rfl (Or.inl rfl) (pe_op op_add (pv 3) (pe_op op_mul (pv 2) (pe_callB call_len (by rfl) T.z_len PySem.boot_len (pa_cons (pe_ix ix_seq (pv 4) pe_int (fun _ _ => rfl)) pa_nil)))))))))
      (pss_one (ps_ret (pv 3)))))
theorem b_l_is_lineA (T : Tx K mg) : Binds K T.fd_l_is_lineA ["_law_thing"] [] := T.F_l_is_lineA.bindsN fun _ _ _ _ _ _ us hl => match us, hl with | [_], _ => rfl
theorem ok_l_is_lineA (T : Tx K mg) : FnOk P w K mg base CX0 1 (He.fAd K ("_law_is_line", none)) T.fd_l_is_lineA ["_law_thing"] (sp_l_is_lineA K) := by
  refine T.F_l_is_lineA.ok sc_l_is_lineA (fun vs H Q E h => len_l_is_lineA h) (fun cdv A outer s H vs Q E hr h => ⟨t_l_is_lineA K, PSs.nox ?_, pure_l_is_lineA h⟩)
  exact (pss_cons (ps_if (PW.pt (pw_or (pt_not (pt_val (pe_callB call_isi (by rfl) T.z_isinstance (by decide +kernel) (pa_cons (pv 0) (pa_cons (pe_bltn (v := .ty "str") (by rfl) T.z_str (by decide +kernel) rfl) pa_nil))))) (pw_or1 (pt_cmpR op_gt (pe_callB call_len (by rfl) T.z_len PySem.boot_len (pa_cons (pv 0) pa_nil)) pe_int (nomark _))))) (pss_one (ps_ret pe_bl)) pss_nil)
      (pss_cons (ps_for PassesOwn.never rfl (pi_str (pv 0)) (pg_name (i := 1) sc_l_is_lineA.nd rfl (Or.inl rfl)) (pss_one (ps_if (PW.pt (pw_or (pt_cmpR op_lt_str (pv 1) pe_str (nomark _)) (pw_or1 (pt_cmpR op_gt_str (pv 1) pe_str (nomark _))))) (pss_one (ps_ret pe_bl)) pss_nil)))
      (pss_one (ps_ret pe_bl))))
theorem b_l_sizeA (T : Tx K mg) : Binds K T.fd_l_sizeA ["_law_piece"] [] := T.F_l_sizeA.bindsN fun _ _ _ _ _ _ us hl => match us, hl with | [_], _ => rfl
theorem ok_l_sizeA (T : Tx K mg) : FnOk P w K mg base CX0 2 (He.fAd K ("_law_size", none)) T.fd_l_sizeA ["_law_piece"] (sp_l_sizeA K) := by
  refine T.F_l_sizeA.ok sc_l_sizeA (fun vs H Q E h => len_l_sizeA h) (fun cdv A outer s H vs Q E hr h => ⟨t_l_sizeA K, PSs.nox ?_, pure_l_sizeA h⟩)
  exact (pss_cons (ps_if (PW.pt (pw_or (pt_not (pt_val (pe_callB call_isi (by rfl) T.z_isinstance (by decide +kernel) (pa_cons (pv 0) (pa_cons (pe_bltn (v := .ty "tuple") (by rfl) T.z_tuple (by decide +kernel) rfl) pa_nil))))) (pw_or (pt_cmpR op_lt (pe_callB call_len (by rfl) T.z_len PySem.boot_len (pa_cons (pv 0) pa_nil)) pe_int (nomark _)) (pw_or1 (pt_not (pt_val (pe_callB call_isi (by rfl) T.z_isinstance (by decide +kernel) (pa_cons (pe_ix ix_seq (pv 0) pe_int (fun _ _ => rfl)) (pa_cons (pe_bltn (v := .ty "str") (by rfl) T.z_str (by decide +kernel) rfl) pa_nil))))))))) (pss_one (ps_ret pe_int)) pss_nil)
      (pss_cons (ps_if (PW.pt (pw_and (pt_cmpR op_eq (pe_ix ix_seq (pv 0) pe_int (fun _ _ => rfl)) pe_str (nomark _)) (pw_and (pt_cmpR op_eq (pe_callB call_len (by rfl) T.z_len PySem.boot_len (pa_cons (pv 0) pa_nil)) pe_int (nomark _)) (pw_and (pt_val (pe_call (ok_l_int T) (hr.mono (by decide)) (by rfl) T.g_l_int T.F_l_int.kp (b_l_int T) .nil pass0 (pa_cons (pe_ix ix_seq (pv 0) pe_int (fun _ _ => rfl)) pa_nil))) (pw_and1 (pt_val (pe_call (ok_l_int T) (hr.mono (by decide)) (by rfl) T.g_l_int T.F_l_int.kp (b_l_int T) .nil pass0 (pa_cons (pe_ix ix_seq (pv 0) pe_int (fun _ _ => rfl)) pa_nil)))))))) (pss_cons (ps_if (PW.pt (pw_and (pt_cmpR op_ge (pe_ix ix_seq (pv 0) pe_int (fun _ _ => rfl)) pe_int (nomark _)) (pw_and1 (pt_cmpR op_ge (pe_ix ix_seq (pv 0) pe_int (fun _ _ => rfl)) pe_int (nomark _))))) (pss_one (ps_ret (pe_ix ix_seq (pv 0) pe_int (fun _ _ => rfl)))) pss_nil)
      (pss_one (ps_ret pe_int))) pss_nil)
      (pss_cons (ps_if (PW.pt (pw_or (pt_cmpR op_ne (pe_ix ix_seq (pv 0) pe_int (fun _ _ => rfl)) pe_str (nomark _)) (pw_or (pt_cmpR op_ne (pe_callB call_len (by rfl) T.z_len PySem.boot_len (pa_cons (pv 0) pa_nil)) pe_int (nomark _)) (pw_or1 (pt_not (pt_val (pe_callB call_isi (by rfl) T.z_isinstance (by decide +kernel) (pa_cons (pe_ix ix_seq (pv 0) pe_int (fun _ _ => rfl)) (pa_cons (pe_bltn (v := .ty "tuple") (by rfl) T.z_tuple (by decide +kernel) rfl) pa_nil))))))))) (pss_one (ps_ret pe_int)) pss_nil)
      (pss_cons (ps_for PassesOwn.never rfl (pi_tup (pe_ix ix_seq (pv 0) pe_int (fun _ _ => rfl))) (pg_name (i := 1) sc_l_sizeA.nd rfl (Or.inl rfl)) (pss_one (ps_if (pt_not (pt_val (pe_call (ok_l_is_lineA T) (hr.mono (by decide)) (by rfl) T.g_l_is_lineA T.F_l_is_lineA.kp (b_l_is_lineA T) .nil pass0 (pa_cons (pv 1) pa_nil)))) (pss_one (ps_ret pe_int)) pss_nil)))
      (pss_one (ps_ret (pe_callB call_len (by rfl) T.z_len PySem.boot_len (pa_cons (pe_ix ix_seq (pv 0) pe_int (fun _ _ => rfl)) pa_nil))))))))
theorem b_l_is_scriptA (T : Tx K mg) : Binds K T.fd_l_is_scriptA ["_law_thing"] [] := T.F_l_is_scriptA.bindsN fun _ _ _ _ _ _ us hl => match us, hl with | [_], _ => rfl
theorem ok_l_is_scriptA (T : Tx K mg) : FnOk P w K mg base CX0 3 (He.fAd K ("_law_is_script", none)) T.fd_l_is_scriptA ["_law_thing"] (sp_l_is_scriptA K) := by
  refine T.F_l_is_scriptA.ok sc_l_is_scriptA (fun vs H Q E h => len_l_is_scriptA h) (fun cdv A outer s H vs Q E hr h => ⟨t_l_is_scriptA K, PSs.nox ?_, pure_l_is_scriptA h⟩)
  exact (pss_cons (ps_if (pt_not (pt_val (pe_callB call_isi (by rfl) T.z_isinstance (by decide +kernel) (pa_cons (pv 0) (pa_cons (pe_bltn (v := .ty "tuple") (by rfl) T.z_tuple (by decide +kernel) rfl) pa_nil))))) (pss_one (ps_ret pe_bl)) pss_nil)
      (pss_cons (ps_set (i := 1) sc_l_is_scriptA.nd rfl (Or.inl rfl) pe_int)
      (pss_cons (ps_for PassesOwn.never rfl (pi_tup (pv 0)) (pg_name (i := 2) sc_l_is_scriptA.nd rfl (Or.inl rfl)) (pss_cons (ps_if (pt_cmpR op_eq (pe_call (ok_l_sizeA T) (hr.mono (by decide)) (by rfl) T.g_l_sizeA T.F_l_sizeA.kp (b_l_sizeA T) .nil pass0 (pa_cons (pv 2) pa_nil)) pe_int (nomark _)) (pss_one (ps_ret pe_bl)) pss_nil)
      (pss_one (ps_set (i := 1) sc_l_is_scriptA.nd rfl (Or.inl rfl) (pe_op op_add (pv 1) (pe_call (ok_l_sizeA T) (hr.mono (by decide)) (by rfl) T.g_l_sizeA T.F_l_sizeA.kp (b_l_sizeA T) .nil pass0 (pa_cons (pv 2) pa_nil)))))))
      (pss_one (ps_ret (pe_cmpR op_le (pv 1) pe_int (nomark _)))))))
theorem b_l_fitsA (T : Tx K mg) : Binds K T.fd_l_fitsA ["_law_base", "_law_thing"] [] := T.F_l_fitsA.bindsN fun _ _ _ _ _ _ us hl => match us, hl with | [_, _], _ => rfl
theorem ok_l_fitsA (T : Tx K mg) : FnOk P w K mg base CX0 4 (He.fAd K ("_law_fits", none)) T.fd_l_fitsA ["_law_base", "_law_thing"] (sp_l_fitsA K) := by
  refine T.F_l_fitsA.ok sc_l_fitsA (fun vs H Q E h => len_l_fitsA h) (fun cdv A outer s H vs Q E hr h => ⟨t_l_fitsA K, PSs.nox ?_, pure_l_fitsA h⟩)
  exact (pss_cons (ps_if (pt_not (pt_val (pe_call (ok_l_is_scriptA T) (hr.mono (by decide)) (by rfl) T.g_l_is_scriptA T.F_l_is_scriptA.kp (b_l_is_scriptA T) .nil pass0 (pa_cons (pv 1) pa_nil)))) (pss_one (ps_ret pe_bl)) pss_nil)
      (pss_cons (ps_for PassesOwn.never rfl (pi_tup (pv 1)) (pg_name (i := 2) sc_l_fitsA.nd rfl (Or.inl rfl)) (pss_one (ps_if (PW.pt (pw_and (pt_cmpR op_eq (pe_ix ix_seq (pv 2) pe_int (fun _ _ => rfl)) pe_str (nomark _)) (pw_and1 (pt_cmpR op_gt (pe_op op_add (pe_ix ix_seq (pv 2) pe_int (fun _ _ => rfl)) (pe_ix ix_seq (pv 2) pe_int (fun _ _ => rfl))) (pe_callB call_len (by rfl) T.z_len PySem.boot_len (pa_cons (pv 0) pa_nil)) (nomark _))))) (pss_one (ps_ret pe_bl)) pss_nil)))
      (pss_one (ps_ret pe_bl))))
theorem b_l_odd (T : Tx K mg) : Binds K T.fd_l_odd ["_law_deck_here"] [] := T.F_l_odd.bindsN fun _ _ _ _ _ _ us hl => match us, hl with | [_], _ => rfl
theorem ok_l_odd (T : Tx K mg) : FnOk P w K mg base CX0 3 (He.fAd K ("_law_odd", none)) T.fd_l_odd ["_law_deck_here"] (sp_l_odd K) := by
  refine T.F_l_odd.ok sc_l_odd (fun vs H Q E h => len_l_odd h) (fun cdv A outer s H vs Q E hr h => ⟨t_l_odd K, PSs.nox ?_, pure_l_odd h⟩)
  exact (pss_cons (ps_set (i := 1) sc_l_odd.nd rfl (Or.inl rfl) (pe_lst (pa_cons pe_non (pa_cons pe_bl (pa_cons pe_bl (pa_cons (pe_un un_neg pe_int) (pa_cons pe_int (pa_cons pe_int (pa_cons pe_int (pa_cons pe_int (pa_cons pe_int (pa_cons pe_int (pa_cons (pe_op op_pow pe_int pe_int) (pa_cons pe_str (pa_cons pe_str (pa_cons pe_str (pa_cons pe_str (pa_cons (pe_tup pa_nil) (pa_cons (pe_lst pa_nil) (pa_cons pe_dnewK (pa_cons (pe_tup (pa_cons pe_int pa_nil)) (pa_cons (pe_tup (pa_cons pe_int (pa_cons pe_int pa_nil))) (pa_cons (pe_lst (pa_cons pe_int pa_nil)) pa_nil)))))))))))))))))))))))
      (pss_cons (ps_set (i := 1) sc_l_odd.nd rfl (Or.inl rfl) (pe_op op_cat (pv 1) (pe_lst (pa_cons (pe_tup (pa_cons (pe_tup pa_nil) pa_nil)) (pa_cons (pe_tup (pa_cons (pe_tup pa_nil) (pa_cons (pe_tup pa_nil) pa_nil))) (pa_cons (pe_tup (pa_cons pe_str pa_nil)) (pa_cons (pe_lst (pa_cons pe_str pa_nil)) (pa_cons (pe_tup (pa_cons (pe_op op_repS pe_str pe_int) pa_nil)) (pa_cons (pe_tup (pa_cons pe_str pa_nil)) (pa_cons (pe_op op_repT (pe_tup (pa_cons pe_str pa_nil)) pe_int) (pa_cons (pe_tup (pa_cons pe_int pa_nil)) (pa_cons (pe_tup (pa_cons pe_non pa_nil)) (pa_cons (pe_disp (pps_cons pe_int pe_int pps_nil) (by rfl) (by rfl) (fun z => by cases z) (by decide)) pa_nil)))))))))))))
      (pss_cons (ps_set (i := 1) sc_l_odd.nd rfl (Or.inl rfl) (pe_op op_cat (pv 1) (pe_lst (pa_cons (pe_tup (pa_cons pe_str (pa_cons pe_int (pa_cons pe_int pa_nil)))) (pa_cons (pe_tup (pa_cons pe_str (pa_cons pe_int (pa_cons pe_int pa_nil)))) (pa_cons (pe_tup (pa_cons pe_str (pa_cons (pe_un un_neg pe_int) (pa_cons pe_int pa_nil)))) (pa_cons (pe_tup (pa_cons pe_str (pa_cons pe_bl (pa_cons pe_int pa_nil)))) (pa_cons (pe_tup (pa_cons pe_str (pa_cons pe_int (pa_cons pe_int (pa_cons pe_int pa_nil))))) (pa_cons (pe_tup (pa_cons pe_str (pa_cons pe_int pa_nil))) pa_nil)))))))))
      (pss_cons (ps_set (i := 1) sc_l_odd.nd rfl (Or.inl rfl) (pe_op op_cat (pv 1) (pe_lst (pa_cons (pe_tup (pa_cons pe_str (pa_cons (pe_tup pa_nil) pa_nil))) (pa_cons (pe_tup (pa_cons pe_str (pa_cons (pe_tup (pa_cons pe_str pa_nil)) pa_nil))) (pa_cons (pe_tup (pa_cons pe_str (pa_cons pe_str pa_nil))) (pa_cons (pe_tup (pa_cons pe_str pa_nil)) (pa_cons (pe_tup (pa_cons pe_str (pa_cons (pe_tup (pa_cons pe_int pa_nil)) pa_nil))) (pa_cons (pe_tup (pa_cons pe_str (pa_cons pe_int (pa_cons pe_int pa_nil)))) (pa_cons (pe_tup (pa_cons pe_str (pa_cons (pe_tup (pa_cons pe_int pa_nil)) pa_nil))) pa_nil))))))))))
      (pss_cons (ps_set (i := 1) sc_l_odd.nd rfl (Or.inl rfl) (pe_op op_cat (pv 1) (pe_lst (pa_cons (pe_tup (pa_cons pe_str (pa_cons (pe_tup pa_nil) (pa_cons (pe_tup pa_nil) pa_nil)))) (pa_cons (pe_tup (pa_cons pe_str (pa_cons (pe_tup (pa_cons pe_int pa_nil)) (pa_cons (pe_tup pa_nil) pa_nil)))) (pa_cons (pe_tup (pa_cons pe_int (pa_cons pe_int (pa_cons pe_non pa_nil)))) (pa_cons (pe_tup (pa_cons pe_int (pa_cons pe_non (pa_cons pe_int pa_nil)))) (pa_cons (pe_tup (pa_cons (pe_tup (pa_cons (pe_tup (pa_cons (pe_tup (pa_cons (pe_tup (pa_cons (pe_tup (pa_cons (pe_tup (pa_cons (pe_tup (pa_cons (pe_tup (pa_cons (pe_tup (pa_cons pe_int pa_nil)) pa_nil)) pa_nil)) pa_nil)) pa_nil)) pa_nil)) pa_nil)) pa_nil)) pa_nil)) pa_nil)) pa_nil))))))))
      (pss_one (ps_ret (pe_ix ix_seq (pv 1) (pe_call (ok_l_draw T) (hr.mono (by decide)) (by rfl) T.g_l_draw T.F_l_draw.kp (b_l_draw T) .nil pass0 (pa_cons (pv 0) (pa_cons (pe_callB call_len (by rfl) T.z_len PySem.boot_len (pa_cons (pv 1) pa_nil)) pa_nil))) (fun _ _ => rfl)))))))))
theorem b_l_bent (T : Tx K mg) : Binds K T.fd_l_bent ["_law_deck_here", "_law_thing", "_law_deep_in"] [] := T.F_l_bent.bindsN fun _ _ _ _ _ _ us hl => match us, hl with | [_, _, _], _ => rfl
theorem ok_bentN (T : Tx K mg) : ∀ n : Nat, FnOk P w K mg base CX0 (n + 4) (He.fAd K ("_law_bent", none)) T.fd_l_bent ["_law_deck_here", "_law_thing", "_law_deep_in"] (sp_bentN K n)
  | 0 => T.F_l_bent.ok sc_l_bent (fun vs H Q E h => len_bentN h) (fun cdv A outer s H vs Q E hr h => by
      obtain ⟨_, _, _, _, _, _, _, h, _⟩ := h
      exact (Nat.lt_irrefl 0 h).elim)
  | n + 1 => by
    have G : FnOk P w K mg base CX0 (n + 4) (He.fAd K ("_law_bent", none)) T.fd_l_bent ["_law_deck_here", "_law_thing", "_law_deep_in"] (sp_bentN K n) := ok_bentN T n
    refine T.F_l_bent.ok sc_l_bent (fun vs H Q E h => len_bentN h) (fun cdv A outer s H vs Q E hr h => ⟨t_l_bent K n, PSs.nox ?_, pure_l_bent h⟩)
    exact (pss_cons (ps_set (i := 3) sc_l_bent.nd rfl (Or.inl rfl) (pe_call (ok_l_draw T) (hr.mono (by omega)) (by rfl) T.g_l_draw T.F_l_draw.kp (b_l_draw T) .nil pass0 (pa_cons (pv 0) (pa_cons pe_int pa_nil))))
      (pss_cons (ps_if (PW.pt (pw_or (pt_cmpR op_eq (pv 2) pe_int (nomark _)) (pw_or (pt_cmpR op_eq (pv 3) pe_int (nomark _)) (pw_or1 (pt_not (pt_val (pe_callB call_isi (by rfl) T.z_isinstance (by decide +kernel) (pa_cons (pv 1) (pa_cons (pe_bltn (v := .ty "tuple") (by rfl) T.z_tuple (by decide +kernel) rfl) pa_nil))))))))) (pss_cons (ps_if (PW.pt (pw_and (pt_val (pe_call (ok_l_int T) (hr.mono (by omega)) (by rfl) T.g_l_int T.F_l_int.kp (b_l_int T) .nil pass0 (pa_cons (pv 1) pa_nil))) (pw_and1 (pt_cmpR op_gt (pv 3) pe_int (nomark _))))) (pss_one (ps_ret (pe_op op_add (pv 1) (pe_ix ix_seq (pe_lst (pa_cons (pe_un un_neg pe_int) (pa_cons pe_int (pa_cons pe_int (pa_cons (pe_un un_neg pe_int) (pa_cons (pe_op op_sub (pe_un un_neg (pv 1)) pe_int) (pa_cons pe_int pa_nil))))))) (pe_call (ok_l_draw T) (hr.mono (by omega)) (by rfl) T.g_l_draw T.F_l_draw.kp (b_l_draw T) .nil pass0 (pa_cons (pv 0) (pa_cons pe_int pa_nil))) (fun _ _ => rfl))))) pss_nil)
      (pss_cons (ps_if (PW.pt (pw_and (pt_val (pe_callB call_isi (by rfl) T.z_isinstance (by decide +kernel) (pa_cons (pv 1) (pa_cons (pe_bltn (v := .ty "str") (by rfl) T.z_str (by decide +kernel) rfl) pa_nil)))) (pw_and1 (pt_cmpR op_gt (pv 3) pe_int (nomark _))))) (pss_one (ps_ret (pe_op op_add_str (pe_op op_add_str (pe_slice sl_str (pv 1) po_none (po_some pe_int)) (pe_ix ix_seq pe_str (pe_call (ok_l_draw T) (hr.mono (by omega)) (by rfl) T.g_l_draw T.F_l_draw.kp (b_l_draw T) .nil pass0 (pa_cons (pv 0) (pa_cons pe_int pa_nil))) (fun _ _ => rfl))) (pe_slice sl_str (pv 1) (po_some pe_int) po_none)))) pss_nil)
      (pss_one (ps_ret (pe_call (ok_l_odd T) (hr.mono (by omega)) (by rfl) T.g_l_odd T.F_l_odd.kp (b_l_odd T) .nil pass0 (pa_cons (pv 0) pa_nil)))))) pss_nil)
      (pss_cons (ps_if (pt_cmpR op_eq (pv 3) pe_int (nomark _)) (pss_one (ps_ret (pe_callTy call_list_of (by rfl) T.z_list (by decide +kernel) (pa_cons (pv 1) pa_nil)))) pss_nil)
      (pss_cons (ps_if (pt_cmpR op_eq (pe_callB call_len (by rfl) T.z_len PySem.boot_len (pa_cons (pv 1) pa_nil)) pe_int (nomark _)) (pss_one (ps_ret (pe_tup (pa_cons (pe_call (ok_l_odd T) (hr.mono (by omega)) (by rfl) T.g_l_odd T.F_l_odd.kp (b_l_odd T) .nil pass0 (pa_cons (pv 0) pa_nil)) pa_nil)))) pss_nil)
      (pss_cons (ps_set (i := 4) sc_l_bent.nd rfl (Or.inl rfl) (pe_call (ok_l_draw T) (hr.mono (by omega)) (by rfl) T.g_l_draw T.F_l_draw.kp (b_l_draw T) .nil pass0 (pa_cons (pv 0) (pa_cons (pe_callB call_len (by rfl) T.z_len PySem.boot_len (pa_cons (pv 1) pa_nil)) pa_nil))))
      (pss_cons (ps_if (pt_cmpR op_eq (pv 3) pe_int (nomark _)) (pss_one (ps_ret (pe_op op_catA (pe_slice sl_tupA (pv 1) po_none (po_some (pv 4))) (pe_slice sl_tupA (pv 1) (po_some (pe_op op_add (pv 4) pe_int)) po_none)))) pss_nil)
      (pss_cons (ps_if (pt_cmpR op_eq (pv 3) pe_int (nomark _)) (pss_one (ps_ret (pe_op op_catA (pe_slice sl_tupA (pv 1) po_none (po_some (pe_op op_add (pv 4) pe_int))) (pe_slice sl_tupA (pv 1) (po_some (pv 4)) po_none)))) pss_nil)
      (pss_cons (ps_if (pt_cmpR op_eq (pv 3) pe_int (nomark _)) (pss_one (ps_ret (pe_op op_catA (pe_op op_catA (pe_op op_catA (pe_slice sl_tupA (pv 1) po_none (po_some (pv 4))) (pe_slice sl_tupA (pv 1) (po_some (pe_op op_add (pv 4) pe_int)) (po_some (pe_op op_add (pv 4) pe_int)))) (pe_tup (pa_cons (pe_ix ix_seq (pv 1) (pv 4) (fun _ _ => rfl)) pa_nil))) (pe_slice sl_tupA (pv 1) (po_some (pe_op op_add (pv 4) pe_int)) po_none)))) pss_nil)
      (pss_one (ps_ret (pe_op op_catA (pe_op op_catA (pe_slice sl_tupA (pv 1) po_none (po_some (pv 4))) (pe_tup (pa_cons (pe_call G hr (by rfl) T.g_l_bent T.F_l_bent.kp (b_l_bent T) .nil pass0 (pa_cons (pv 0) (pa_cons (pe_ix ix_seq (pv 1) (pv 4) (fun _ _ => rfl)) (pa_cons (pe_op op_sub (pv 2) pe_int) pa_nil)))) pa_nil))) (pe_slice sl_tupA (pv 1) (po_some (pe_op op_add (pv 4) pe_int)) po_none))))))))))))
theorem ok_l_bent (T : Tx K mg) : FnOk P w K mg base CX0 9 (He.fAd K ("_law_bent", none)) T.fd_l_bent ["_law_deck_here", "_law_thing", "_law_deep_in"] (sp_l_bent K) := ok_bentN T 5
theorem b_l_spoiled (T : Tx K mg) : Binds K T.fd_l_spoiled ["_law_deck_here", "_law_thing", "_law_times"] [] := T.F_l_spoiled.bindsN fun _ _ _ _ _ _ us hl => match us, hl with | [_, _, _], _ => rfl
theorem ok_l_spoiled (T : Tx K mg) : FnOk P w K mg base CX0 10 (He.fAd K ("_law_spoiled", none)) T.fd_l_spoiled ["_law_deck_here", "_law_thing", "_law_times"] (sp_l_spoiled K) := by
  refine T.F_l_spoiled.ok sc_l_spoiled (fun vs H Q E h => len_l_spoiled h) (fun cdv A outer s H vs Q E hr h => ⟨t_l_spoiled K, PSs.nox ?_, pure_l_spoiled h⟩)
  exact (pss_cons (ps_for PassesOwn.never rfl (pi_range1 (by rfl) T.z_range (pa_cons (pv 2) pa_nil)) (pg_name (i := 3) sc_l_spoiled.nd rfl (Or.inl rfl)) (pss_one (ps_set (i := 1) sc_l_spoiled.nd rfl (Or.inl rfl) (pe_call (ok_l_bent T) (hr.mono (by decide)) (by rfl) T.g_l_bent T.F_l_bent.kp (b_l_bent T) .nil pass0 (pa_cons (pv 0) (pa_cons (pv 1) (pa_cons pe_int pa_nil)))))))
      (pss_one (ps_ret (pv 1))))
theorem b_l_stands (T : Tx K mg) : Binds K T.fd_l_stands ["_law_base", "_law_part"] [] := T.F_l_stands.bindsN fun _ _ _ _ _ _ us hl => match us, hl with | [_, _], _ => rfl
theorem ok_l_stands (T : Tx K mg) : FnOk P w K mg base CX0 1 (He.fAd K ("_law_stands", none)) T.fd_l_stands ["_law_base", "_law_part"] (sp_l_stands K) := by
  refine T.F_l_stands.ok sc_l_stands (fun vs H Q E h => len_l_stands h) (fun cdv A outer s H vs Q E hr h => ⟨t_l_stands K, PSs.nox ?_, pure_l_stands h⟩)
  exact (pss_cons (ps_for PassesOwn.never rfl (pi_range1 (by rfl) T.z_range (pa_cons (pe_op op_add (pe_op op_sub (pe_callB call_len (by rfl) T.z_len PySem.boot_len (pa_cons (pv 0) pa_nil)) (pe_callB call_len (by rfl) T.z_len PySem.boot_len (pa_cons (pv 1) pa_nil))) pe_int) pa_nil)) (pg_name (i := 2) sc_l_stands.nd rfl (Or.inl rfl)) (pss_one (ps_if (pt_cmpR (op_eqD hr.units) (pe_slice sl_tupA (pv 0) (po_some (pv 2)) (po_some (pe_op op_add (pv 2) (pe_callB call_len (by rfl) T.z_len PySem.boot_len (pa_cons (pv 1) pa_nil))))) (pv 1) (nomark _)) (pss_one (ps_ret pe_bl)) pss_nil)))
      (pss_one (ps_ret pe_bl)))
theorem b_l_firsts (T : Tx K mg) : Binds K T.fd_l_firsts ["_law_base", "_law_lines_here", "_law_by_take", "_law_by_put"] [] := T.F_l_firsts.bindsN fun _ _ _ _ _ _ us hl => match us, hl with | [_, _, _, _], _ => rfl
theorem ok_l_firsts (T : Tx K mg) : FnOk P w K mg base CX0 2 (He.fAd K ("_law_firsts", none)) T.fd_l_firsts ["_law_base", "_law_lines_here", "_law_by_take", "_law_by_put"] (sp_l_firsts K) := by
  refine T.F_l_firsts.ok sc_l_firsts (fun vs H Q E h => len_l_firsts h) (fun cdv A outer s H vs Q E hr h => ⟨t_l_firsts K, PSs.nox ?_, pure_l_firsts h⟩)
  exact (pss_cons (ps_set (i := 4) sc_l_firsts.nd rfl (Or.inl rfl) (pe_lst (pa_cons pe_int pa_nil)))
      (pss_cons (ps_for PassesOwn.never rfl (pi_range2 (by rfl) T.z_range (pa_cons pe_int (pa_cons (pe_op op_add (pe_callB call_len (by rfl) T.z_len PySem.boot_len (pa_cons (pv 1) pa_nil)) pe_int) pa_nil))) (pg_name (i := 5) sc_l_firsts.nd rfl (Or.inl rfl)) (pss_cons (ps_set (i := 6) sc_l_firsts.nd rfl (Or.inl rfl) (pe_op op_add (pe_ix ix_seq (pv 4) (pe_op op_sub (pv 5) pe_int) (fun _ _ => rfl)) (pv 3)))
      (pss_cons (ps_for PassesOwn.never rfl (pi_range1 (by rfl) T.z_range (pa_cons (pv 5) pa_nil)) (pg_name (i := 7) sc_l_firsts.nd rfl (Or.inl rfl)) (pss_one (ps_if (PW.pt (pw_and (pt_cmpR op_lt (pe_op op_add (pe_ix ix_seq (pv 4) (pv 7) (fun _ _ => rfl)) (pv 2)) (pv 6) (nomark _)) (pw_and1 (pt_val (pe_call (ok_l_stands T) (hr.mono (by decide)) (by rfl) T.g_l_stands T.F_l_stands.kp (b_l_stands T) .nil pass0 (pa_cons (pv 0) (pa_cons (pe_slice sl_tupA (pv 1) (po_some (pv 7)) (po_some (pv 5))) pa_nil))))))) (pss_one (ps_set (i := 6) sc_l_firsts.nd rfl (Or.inl rfl) (pe_op op_add (pe_ix ix_seq (pv 4) (pv 7) (fun _ _ => rfl)) (pv 2)))) pss_nil)))
      (pss_one (ps_expr (pe_bm PySem.F.plainAttrs_list PySem.F.slot_list_append PySem.F.type_list_append mt_append (pv 4) (pa_cons (pv 6) pa_nil)))))))
      (pss_one (ps_ret (pv 4)))))
theorem b_l_is_leastA (T : Tx K mg) : Binds K T.fd_l_is_leastA ["_law_base", "_law_lines_here", "_law_thing", "_law_by_take", "_law_by_put"] [] := T.F_l_is_leastA.bindsN fun _ _ _ _ _ _ us hl => match us, hl with | [_, _, _, _, _], _ => rfl
theorem ok_l_is_leastA (T : Tx K mg) : FnOk P w K mg base CX0 5 (He.fAd K ("_law_is_least", none)) T.fd_l_is_leastA ["_law_base", "_law_lines_here", "_law_thing", "_law_by_take", "_law_by_put"] (sp_l_is_leastA K) := by
  refine T.F_l_is_leastA.ok sc_l_is_leastA (fun vs H Q E h => len_l_is_leastA h) (fun cdv A outer s H vs Q E hr h => ⟨t_l_is_leastA K, PSs.nox ?_, pure_l_is_leastA h⟩)
  exact (pss_cons (ps_if (PW.pt (pw_or (pt_not (pt_val (pe_callB call_isi (by rfl) T.z_isinstance (by decide +kernel) (pa_cons (pv 2) (pa_cons (pe_bltn (v := .ty "tuple") (by rfl) T.z_tuple (by decide +kernel) rfl) pa_nil))))) (pw_or (pt_cmpR op_ne (pe_callB call_len (by rfl) T.z_len PySem.boot_len (pa_cons (pv 2) pa_nil)) pe_int (nomark _)) (pw_or1 (pt_not (pt_val (pe_call (ok_l_fitsA T) (hr.mono (by decide)) (by rfl) T.g_l_fitsA T.F_l_fitsA.kp (b_l_fitsA T) .nil pass0 (pa_cons (pv 0) (pa_cons (pe_ix ix_seq (pv 2) pe_int (fun _ _ => rfl)) pa_nil))))))))) (pss_one (ps_ret pe_bl)) pss_nil)
      (pss_cons (ps_set (i := 5) sc_l_is_leastA.nd rfl (Or.inl rfl) (pe_ix ix_seq (pv 2) pe_int (fun _ _ => rfl)))
      (pss_cons (ps_if (PW.pt (pw_or (pt_not (pt_val (pe_callB call_isi (by rfl) T.z_isinstance (by decide +kernel) (pa_cons (pv 5) (pa_cons (pe_bltn (v := .ty "tuple") (by rfl) T.z_tuple (by decide +kernel) rfl) pa_nil))))) (pw_or1 (pt_cmpR op_ne (pe_callB call_len (by rfl) T.z_len PySem.boot_len (pa_cons (pv 5) pa_nil)) (pe_op op_add (pe_callB call_len (by rfl) T.z_len PySem.boot_len (pa_cons (pv 1) pa_nil)) pe_int) (nomark _))))) (pss_one (ps_ret pe_bl)) pss_nil)
      (pss_cons (ps_for PassesOwn.never rfl (pi_tup (pv 5)) (pg_name (i := 6) sc_l_is_leastA.nd rfl (Or.inl rfl)) (pss_one (ps_if (pt_not (pt_val (pe_call (ok_l_int T) (hr.mono (by decide)) (by rfl) T.g_l_int T.F_l_int.kp (b_l_int T) .nil pass0 (pa_cons (pv 6) pa_nil)))) (pss_one (ps_ret pe_bl)) pss_nil)))
      (pss_cons (ps_if (PW.pt (pw_or (pt_cmpR (op_neD hr.units) (pe_call (ok_l_made T) (hr.mono (by decide)) (by rfl) T.g_l_made T.F_l_made.kp (b_l_made T) .nil pass0 (pa_cons (pv 0) (pa_cons (pe_ix ix_seq (pv 2) pe_int (fun _ _ => rfl)) pa_nil))) (pv 1) (nomark _)) (pw_or1 (pt_cmpR op_ne (pe_ix ix_seq (pv 5) pe_int (fun _ _ => rfl)) pe_int (nomark _))))) (pss_one (ps_ret pe_bl)) pss_nil)
      (pss_cons (ps_if (pt_cmpR op_ne (pe_ix ix_seq (pv 5) (pe_callB call_len (by rfl) T.z_len PySem.boot_len (pa_cons (pv 1) pa_nil)) (fun _ _ => rfl)) (pe_call (ok_l_cost T) (hr.mono (by decide)) (by rfl) T.g_l_cost T.F_l_cost.kp (b_l_cost T) .nil pass0 (pa_cons (pe_ix ix_seq (pv 2) pe_int (fun _ _ => rfl)) (pa_cons (pv 3) (pa_cons (pv 4) pa_nil)))) (nomark _)) (pss_one (ps_ret pe_bl)) pss_nil)
      (pss_cons (ps_for PassesOwn.never rfl (pi_range2 (by rfl) T.z_range (pa_cons pe_int (pa_cons (pe_op op_add (pe_callB call_len (by rfl) T.z_len PySem.boot_len (pa_cons (pv 1) pa_nil)) pe_int) pa_nil))) (pg_name (i := 7) sc_l_is_leastA.nd rfl (Or.inl rfl)) (pss_cons (ps_if (pt_cmpR op_gt (pe_ix ix_seq (pv 5) (pv 7) (fun _ _ => rfl)) (pe_op op_add (pe_ix ix_seq (pv 5) (pe_op op_sub (pv 7) pe_int) (fun _ _ => rfl)) (pv 4)) (nomark _)) (pss_one (ps_ret pe_bl)) pss_nil)
      (pss_one (ps_for PassesOwn.never rfl (pi_range1 (by rfl) T.z_range (pa_cons (pv 7) pa_nil)) (pg_name (i := 8) sc_l_is_leastA.nd rfl (Or.inl rfl)) (pss_one (ps_if (PW.pt (pw_and (pt_cmpR op_gt (pe_ix ix_seq (pv 5) (pv 7) (fun _ _ => rfl)) (pe_op op_add (pe_ix ix_seq (pv 5) (pv 8) (fun _ _ => rfl)) (pv 3)) (nomark _)) (pw_and1 (pt_val (pe_call (ok_l_stands T) (hr.mono (by decide)) (by rfl) T.g_l_stands T.F_l_stands.kp (b_l_stands T) .nil pass0 (pa_cons (pv 0) (pa_cons (pe_slice sl_tupA (pv 1) (po_some (pv 8)) (po_some (pv 7))) pa_nil))))))) (pss_one (ps_ret pe_bl)) pss_nil))))))
      (pss_one (ps_ret pe_bl)))))))))
theorem b_l_least_script (T : Tx K mg) : Binds K T.fd_l_least_script ["_law_base", "_law_lines_here", "_law_by_take", "_law_by_put", "_law_firsts_here"] [] := T.F_l_least_script.bindsN fun _ _ _ _ _ _ us hl => match us, hl with | [_, _, _, _, _], _ => rfl
theorem ok_l_least_script (T : Tx K mg) : FnOk P w K mg base CX0 1 (He.fAd K ("_law_least_script", none)) T.fd_l_least_script ["_law_base", "_law_lines_here", "_law_by_take", "_law_by_put", "_law_firsts_here"] (sp_l_least_script K) := by
  refine T.F_l_least_script.ok sc_l_least_script (fun vs H Q E h => len_l_least_script h) (fun cdv A outer s H vs Q E hr h => ⟨t_l_least_script K, PSs.nox ?_, pure_l_least_script h⟩)
  exact (pss_cons (ps_set (i := 5) sc_l_least_script.nd rfl (Or.inl rfl) (pe_lst pa_nil))
      (pss_cons (ps_set (i := 6) sc_l_least_script.nd rfl (Or.inl rfl) (pe_callB call_len (by rfl) T.z_len PySem.boot_len (pa_cons (pv 1) pa_nil)))
      (pss_cons (ps_while PassesOwn.never (pt_cmpR op_gt (pv 6) pe_int (nomark _)) (pss_cons (ps_set (i := 7) sc_l_least_script.nd rfl (Or.inl rfl) (pe_tup (pa_cons pe_str (pa_cons (pe_slice sl_tupA (pv 1) (po_some (pe_op op_sub (pv 6) pe_int)) (po_some (pv 6))) pa_nil))))
      (pss_cons (ps_set (i := 8) sc_l_least_script.nd rfl (Or.inl rfl) pe_int)
      (pss_cons (ps_for PassesOwn.never rfl (pi_range1 (by rfl) T.z_range (pa_cons (pv 6) pa_nil)) (pg_name (i := 9) sc_l_least_script.nd rfl (Or.inl rfl)) (pss_one (ps_if (PW.pt (pw_and (pt_cmpR op_eq (pe_op op_add (pe_ix ix_seq (pv 4) (pv 9) (fun _ _ => rfl)) (pv 2)) (pe_ix ix_seq (pv 4) (pv 6) (fun _ _ => rfl)) (nomark _)) (pw_and1 (pt_cmpR op_eq (pv 8) pe_int (nomark _))))) (pss_cons (ps_set (i := 10) sc_l_least_script.nd rfl (Or.inl rfl) (pe_op op_sub (pv 6) (pv 9)))
      (pss_one (ps_for PassesOwn.never rfl (pi_range1 (by rfl) T.z_range (pa_cons (pe_op op_add (pe_op op_sub (pe_callB call_len (by rfl) T.z_len PySem.boot_len (pa_cons (pv 0) pa_nil)) (pv 10)) pe_int) pa_nil)) (pg_name (i := 11) sc_l_least_script.nd rfl (Or.inl rfl)) (pss_one (ps_if (PW.pt (pw_and (pt_cmpR op_eq (pe_ix ix_seq (pv 7) pe_int (fun _ _ => rfl)) pe_str (nomark _)) (pw_and1 (pt_cmpR (op_eqD hr.units) (pe_slice sl_tupA (pv 0) (po_some (pv 11)) (po_some (pe_op op_add (pv 11) (pv 10)))) (pe_slice sl_tupA (pv 1) (po_some (pv 9)) (po_some (pv 6))) (nomark _))))) (pss_cons (ps_set (i := 7) sc_l_least_script.nd rfl (Or.inl rfl) (pe_tup (pa_cons pe_str (pa_cons (pv 11) (pa_cons (pv 10) pa_nil)))))
      (pss_one (ps_set (i := 8) sc_l_least_script.nd rfl (Or.inl rfl) (pv 10)))) pss_nil))))) pss_nil)))
      (pss_cons (ps_expr (pe_bm PySem.F.plainAttrs_list PySem.F.slot_list_insert PySem.F.type_list_insert mt_insert (pv 5) (pa_cons pe_int (pa_cons (pv 7) pa_nil))))
      (pss_one (ps_set (i := 6) sc_l_least_script.nd rfl (Or.inl rfl) (pe_op op_sub (pv 6) (pv 8)))))))))
      (pss_one (ps_ret (pe_callTy call_tuple_of (by rfl) T.z_tuple (by decide +kernel) (pa_cons (pv 5) pa_nil)))))))
theorem b_l_numbers (T : Tx K mg) : Binds K T.fd_l_numbers ["_law_deck_here", "_law_firsts_here", "_law_total"] [] := T.F_l_numbers.bindsN fun _ _ _ _ _ _ us hl => match us, hl with | [_, _, _], _ => rfl
theorem ok_l_numbers (T : Tx K mg) : FnOk P w K mg base CX0 3 (He.fAd K ("_law_numbers", none)) T.fd_l_numbers ["_law_deck_here", "_law_firsts_here", "_law_total"] (sp_l_numbers K) := by
  refine T.F_l_numbers.ok sc_l_numbers (fun vs H Q E h => len_l_numbers h) (fun cdv A outer s H vs Q E hr h => ⟨t_l_numbers K, PSs.nox ?_, pure_l_numbers h⟩)
  exact (pss_cons (ps_set (i := 3) sc_l_numbers.nd rfl (Or.inl rfl) (pe_call (ok_l_draw T) (hr.mono (by decide)) (by rfl) T.g_l_draw T.F_l_draw.kp (b_l_draw T) .nil pass0 (pa_cons (pv 0) (pa_cons pe_int pa_nil))))
      (pss_cons (ps_set (i := 4) sc_l_numbers.nd rfl (Or.inl rfl) (pe_callTy call_list_of (by rfl) T.z_list (by decide +kernel) (pa_cons (pv 1) pa_nil)))
      (pss_cons (ps_if (pt_cmpR op_eq (pv 3) pe_int (nomark _)) (pss_one (ps_asg (pv 2) (pg_sub (pv 4) (pe_un un_neg pe_int) set_list))) pss_nil)
      (pss_cons (ps_if (pt_cmpR op_eq (pv 3) pe_int (nomark _)) (pss_cons (ps_set (i := 4) sc_l_numbers.nd rfl (Or.inl rfl) (pe_op op_rep (pe_lst (pa_cons pe_int pa_nil)) (pe_callB call_len (by rfl) T.z_len PySem.boot_len (pa_cons (pv 4) pa_nil))))
      (pss_one (ps_asg (pv 2) (pg_sub (pv 4) (pe_un un_neg pe_int) set_list)))) pss_nil)
      (pss_cons (ps_if (pt_cmpR op_eq (pv 3) pe_int (nomark _)) (pss_cons (ps_set (i := 5) sc_l_numbers.nd rfl (Or.inl rfl) (pe_call (ok_l_draw T) (hr.mono (by decide)) (by rfl) T.g_l_draw T.F_l_draw.kp (b_l_draw T) .nil pass0 (pa_cons (pv 0) (pa_cons (pe_callB call_len (by rfl) T.z_len PySem.boot_len (pa_cons (pv 4) pa_nil)) pa_nil))))
      (pss_one (ps_asg (pe_op op_sub (pe_op op_add (pe_ix ix_seq (pv 4) (pv 5) (fun _ _ => rfl)) pe_int) (pe_op op_mul pe_int (pe_call (ok_l_draw T) (hr.mono (by decide)) (by rfl) T.g_l_draw T.F_l_draw.kp (b_l_draw T) .nil pass0 (pa_cons (pv 0) (pa_cons pe_int pa_nil))))) (pg_sub (pv 4) (pv 5) set_list)))) pss_nil)
      (pss_cons (ps_if (pt_cmpR op_eq (pv 3) pe_int (nomark _)) (pss_cons (ps_set (i := 5) sc_l_numbers.nd rfl (Or.inl rfl) (pe_call (ok_l_draw T) (hr.mono (by decide)) (by rfl) T.g_l_draw T.F_l_draw.kp (b_l_draw T) .nil pass0 (pa_cons (pv 0) (pa_cons (pe_callB call_len (by rfl) T.z_len PySem.boot_len (pa_cons (pv 4) pa_nil)) pa_nil))))
      (pss_one (ps_asg (pe_op op_sub (pe_ix ix_seq (pv 4) (pv 5) (fun _ _ => rfl)) (pe_call (ok_l_draw T) (hr.mono (by decide)) (by rfl) T.g_l_draw T.F_l_draw.kp (b_l_draw T) .nil pass0 (pa_cons (pv 0) (pa_cons (pe_op op_pow pe_int pe_int) pa_nil)))) (pg_sub (pv 4) (pv 5) set_list)))) pss_nil)
      (pss_cons (ps_if (pt_cmpR op_eq (pv 3) pe_int (nomark _)) (pss_one (ps_set (i := 4) sc_l_numbers.nd rfl (Or.inl rfl) (pe_op op_cat (pv 4) (pe_lst (pa_cons (pv 2) pa_nil))))) pss_nil)
      (pss_one (ps_ret (pe_callTy call_tuple_of (by rfl) T.z_tuple (by decide +kernel) (pa_cons (pv 4) pa_nil)))))))))))
theorem b_law (T : Tx K mg) : Binds K T.fd_law ["_law_script_here"] [] := T.F_law.bindsN fun _ _ _ _ _ _ us hl => match us, hl with | [_], _ => rfl
theorem ok_law (T : Tx K mg) : FnOk P w K mg base CX0 11 (He.fAd K ("law", none)) T.fd_law ["_law_script_here"] (sp_law K) := by
  refine T.F_law.ok sc_law (fun vs H Q E h => len_law h) (fun cdv A outer s H vs Q E hr h => ⟨t_law K, PSs.nox ?_, pure_law h⟩)
  exact (pss_cons (ps_set (i := 1) sc_law.nd rfl (Or.inl rfl) (pe_call (ok_l_deck T) (hr.mono (by decide)) (by rfl) T.g_l_deck T.F_l_deck.kp (b_l_deck T) .nil pass0 (pa_cons (pv 0) pa_nil)))
      (pss_cons (ps_set (i := 2) sc_law.nd rfl (Or.inl rfl) (pe_call (ok_l_stock T) (hr.mono (by decide)) (by rfl) T.g_l_stock T.F_l_stock.kp (b_l_stock T) .nil pass0 (pa_cons (pv 1) pa_nil)))
      (pss_cons (ps_for PassesOwn.never rfl (pi_range1 (by rfl) T.z_range (pa_cons (pe_op op_add pe_int (pe_op op_fdivW (pe_callB (call_min2 rfl) (by rfl) T.z_min (by decide +kernel) (pa_cons (pe_callB call_len (by rfl) T.z_len PySem.boot_len (pa_cons (pv 0) pa_nil)) (pa_cons pe_int pa_nil))) pe_int)) pa_nil)) (pg_name (i := 3) sc_law.nd rfl (Or.inl rfl)) (pss_cons (ps_set (i := 4) sc_law.nd rfl (Or.inl rfl) (pe_op op_mul (pe_call (ok_l_draw T) (hr.mono (by decide)) (by rfl) T.g_l_draw T.F_l_draw.kp (b_l_draw T) .nil pass0 (pa_cons (pv 1) (pa_cons pe_int pa_nil))) (pe_call (ok_l_draw T) (hr.mono (by decide)) (by rfl) T.g_l_draw T.F_l_draw.kp (b_l_draw T) .nil pass0 (pa_cons (pv 1) (pa_cons pe_int pa_nil)))))
      (pss_cons (ps_set (i := 5) sc_law.nd rfl (Or.inl rfl) (pe_call (ok_l_draw T) (hr.mono (by decide)) (by rfl) T.g_l_draw T.F_l_draw.kp (b_l_draw T) .nil pass0 (pa_cons (pv 1) (pa_cons pe_int pa_nil))))
      (pss_cons (ps_set (i := 6) sc_law.nd rfl (Or.inl rfl) (pe_ix ix_seq (pe_lst (pa_cons pe_int (pa_cons pe_int pa_nil))) (pe_call (ok_l_draw T) (hr.mono (by decide)) (by rfl) T.g_l_draw T.F_l_draw.kp (b_l_draw T) .nil pass0 (pa_cons (pv 1) (pa_cons pe_int pa_nil))) (fun _ _ => rfl)))
      (pss_cons (ps_set (i := 7) sc_law.nd rfl (Or.inl rfl) (pe_call (ok_l_lines T) (hr.mono (by decide)) (by rfl) T.g_l_lines T.F_l_lines.kp (b_l_lines T) .nil pass0 (pa_cons (pv 1) (pa_cons (pv 2) (pa_cons pe_int pa_nil)))))
      (pss_cons (ps_set (i := 8) sc_law.nd rfl (Or.inl rfl) (pe_call (ok_l_script T) (hr.mono (by decide)) (by rfl) T.g_l_script T.F_l_script.kp (b_l_script T) .nil pass0 (pa_cons (pv 1) (pa_cons (pv 7) (pa_cons (pv 2) (pa_cons pe_int pa_nil))))))
      (pss_cons (ps_set (i := 9) sc_law.nd rfl (Or.inl rfl) (pe_call (ok_l_made T) (hr.mono (by decide)) (by rfl) T.g_l_made T.F_l_made.kp (b_l_made T) .nil pass0 (pa_cons (pv 7) (pa_cons (pv 8) pa_nil))))
      (pss_cons (ps_set (i := 10) sc_law.nd rfl (Or.inl rfl) (pe_call (ok_l_draw T) (hr.mono (by decide)) (by rfl) T.g_l_draw T.F_l_draw.kp (b_l_draw T) .nil pass0 (pa_cons (pv 1) (pa_cons (pv 6) pa_nil))))
      (pss_cons (ps_set (i := 11) sc_law.nd rfl (Or.inl rfl) (pe_call (ok_l_draw T) (hr.mono (by decide)) (by rfl) T.g_l_draw T.F_l_draw.kp (b_l_draw T) .nil pass0 (pa_cons (pv 1) (pa_cons (pv 6) pa_nil))))
      (pss_cons (ps_if (pt_cmpR op_eq (pe_call (ok_l_draw T) (hr.mono (by decide)) (by rfl) T.g_l_draw T.F_l_draw.kp (b_l_draw T) .nil pass0 (pa_cons (pv 1) (pa_cons pe_int pa_nil))) pe_int (nomark _)) (pss_cons (ps_set (i := 10) sc_law.nd rfl (Or.inl rfl) pe_int)
      (pss_one (ps_set (i := 11) sc_law.nd rfl (Or.inl rfl) pe_int))) pss_nil)
      (pss_cons (ps_set (i := 12) sc_law.nd rfl (Or.inl rfl) (pe_call (ok_l_firsts T) (hr.mono (by decide)) (by rfl) T.g_l_firsts T.F_l_firsts.kp (b_l_firsts T) .nil pass0 (pa_cons (pv 7) (pa_cons (pv 9) (pa_cons (pv 10) (pa_cons (pv 11) pa_nil))))))
      (pss_cons (ps_if (pt_cmpR op_eq (pv 5) pe_int (nomark _)) (pss_one (ps_set (i := 8) sc_law.nd rfl (Or.inl rfl) (pe_call (ok_l_least_script T) (hr.mono (by decide)) (by rfl) T.g_l_least_script T.F_l_least_script.kp (b_l_least_script T) .nil pass0 (pa_cons (pv 7) (pa_cons (pv 9) (pa_cons (pv 10) (pa_cons (pv 11) (pa_cons (pv 12) pa_nil)))))))) pss_nil)
      (pss_cons (ps_set (i := 13) sc_law.nd rfl (Or.inl rfl) (pe_call (ok_l_numbers T) (hr.mono (by decide)) (by rfl) T.g_l_numbers T.F_l_numbers.kp (b_l_numbers T) .nil pass0 (pa_cons (pv 1) (pa_cons (pv 12) (pa_cons (pe_call (ok_l_cost T) (hr.mono (by decide)) (by rfl) T.g_l_cost T.F_l_cost.kp (b_l_cost T) .nil pass0 (pa_cons (pv 8) (pa_cons (pv 10) (pa_cons (pv 11) pa_nil)))) pa_nil)))))
      (pss_cons (ps_set (i := 14) sc_law.nd rfl (Or.inl rfl) (pe_call (ok_l_spoiled T) (hr.mono (by decide)) (by rfl) T.g_l_spoiled T.F_l_spoiled.kp (b_l_spoiled T) .nil pass0 (pa_cons (pv 1) (pa_cons (pe_tup (pa_cons (pv 8) (pa_cons (pv 13) pa_nil))) (pa_cons (pv 4) pa_nil)))))
      (pss_cons (ps_set (i := 15) sc_law.nd rfl (Or.inl rfl) (pe_call (ok_l_is_leastA T) (hr.mono (by decide)) (by rfl) T.g_l_is_leastA T.F_l_is_leastA.kp (b_l_is_leastA T) .nil pass0 (pa_cons (pv 7) (pa_cons (pv 9) (pa_cons (pv 14) (pa_cons (pv 10) (pa_cons (pv 11) pa_nil)))))))
      (pss_cons (ps_if (pt_not (pt_val (pe_call (ok_l_same T) (hr.mono (by decide)) (by rfl) T.g_l_same T.F_l_same.kp (b_l_same T) .nil pass0 (pa_cons (pe_callN (n := 3) (ks := ["put", "take"]) (ok_right_leastA T) (hr.mono (by decide)) (by rfl) T.g_right_leastA T.F_right_leastA.kp (kb_right_leastA_put_take T).choose_spec pass0 (pa_cons (pv 7) (pa_cons (pv 9) (pa_cons (pv 14) pa_nil))) (pk_cons (pv 11) (pk_cons (pv 10) pk_nil))) (pa_cons (pv 15) pa_nil))))) (pss_one (ps_ret pe_bl)) pss_nil)
      (pss_cons (ps_set (i := 15) sc_law.nd rfl (Or.inl rfl) (pe_call (ok_l_is_leastA T) (hr.mono (by decide)) (by rfl) T.g_l_is_leastA T.F_l_is_leastA.kp (b_l_is_leastA T) .nil pass0 (pa_cons (pv 7) (pa_cons (pv 9) (pa_cons (pv 14) (pa_cons pe_int (pa_cons pe_int pa_nil)))))))
      (pss_cons (ps_if (pt_not (pt_val (pe_call (ok_l_same T) (hr.mono (by decide)) (by rfl) T.g_l_same T.F_l_same.kp (b_l_same T) .nil pass0 (pa_cons (pe_call (ok_right_leastA T) (hr.mono (by decide)) (by rfl) T.g_right_leastA T.F_right_leastA.kp (b_right_leastA T).choose_spec.2 (b_right_leastA T).choose_spec.1 pass0 (pa_cons (pv 7) (pa_cons (pv 9) (pa_cons (pv 14) pa_nil)))) (pa_cons (pv 15) pa_nil))))) (pss_one (ps_ret pe_bl)) pss_nil)
      (pss_cons (ps_set (i := 15) sc_law.nd rfl (Or.inl rfl) (pe_call (ok_l_is_leastA T) (hr.mono (by decide)) (by rfl) T.g_l_is_leastA T.F_l_is_leastA.kp (b_l_is_leastA T) .nil pass0 (pa_cons (pv 7) (pa_cons (pv 9) (pa_cons (pv 14) (pa_cons (pv 10) (pa_cons pe_int pa_nil)))))))
      (pss_one (ps_if (pt_not (pt_val (pe_call (ok_l_same T) (hr.mono (by decide)) (by rfl) T.g_l_same T.F_l_same.kp (b_l_same T) .nil pass0 (pa_cons (pe_callN (n := 3) (ks := ["take"]) (ok_right_leastA T) (hr.mono (by decide)) (by rfl) T.g_right_leastA T.F_right_leastA.kp (kb_right_leastA_take T).choose_spec pass0 (pa_cons (pv 7) (pa_cons (pv 9) (pa_cons (pv 14) pa_nil))) (pk_cons (pv 10) pk_nil)) (pa_cons (pv 15) pa_nil))))) (pss_one (ps_ret pe_bl)) pss_nil)))))))))))))))))))))
      (pss_one (ps_ret pe_bl)))))
end
def d_is_intA : He.DefD := ⟨("is_int", none), "is_int", "is_int", defArgs s_is_intA, defBody s_is_intA, defScope s_is_intA, [], []⟩
def d_is_signA : He.DefD := ⟨("is_sign", none), "is_sign", "is_sign", defArgs s_is_signA, defBody s_is_signA, defScope s_is_signA, [], []⟩
def d_is_textA : He.DefD := ⟨("is_text", none), "is_text", "is_text", defArgs s_is_textA, defBody s_is_textA, defScope s_is_textA, [], []⟩
def d_is_pairB : He.DefD := ⟨("is_pair", none), "is_pair", "is_pair", defArgs s_is_pairB, defBody s_is_pairB, defScope s_is_pairB, [], []⟩
def d_is_rowA : He.DefD := ⟨("is_row", none), "is_row", "is_row", defArgs s_is_rowA, defBody s_is_rowA, defScope s_is_rowA, [], []⟩
def d_is_intsA : He.DefD := ⟨("is_ints", none), "is_ints", "is_ints", defArgs s_is_intsA, defBody s_is_intsA, defScope s_is_intsA, [], []⟩
def d_are_putA : He.DefD := ⟨("are_put", none), "are_put", "are_put", defArgs s_are_putA, defBody s_are_putA, defScope s_are_putA, [], []⟩
def d_rows_in : He.DefD := ⟨("rows_in", none), "rows_in", "rows_in", defArgs s_rows_in, defBody s_rows_in, defScope s_rows_in, [], []⟩
def d_is_pieceA : He.DefD := ⟨("is_piece", none), "is_piece", "is_piece", defArgs s_is_pieceA, defBody s_is_pieceA, defScope s_is_pieceA, [], []⟩
def d_is_scriptA : He.DefD := ⟨("is_script", none), "is_script", "is_script", defArgs s_is_scriptA, defBody s_is_scriptA, defScope s_is_scriptA, [], []⟩
def d_is_right_overA : He.DefD := ⟨("is_right_over", none), "is_right_over", "is_right_over", defArgs s_is_right_overA, defBody s_is_right_overA, defScope s_is_right_overA, [], []⟩
def d_made : He.DefD := ⟨("made", none), "made", "made", defArgs s_made, defBody s_made, defScope s_made, [], []⟩
def d_priceA : He.DefD := ⟨("price", none), "price", "price", defArgs s_priceA, defBody s_priceA, defScope s_priceA, [], [("take", .int 3), ("put", .int 2)]⟩
def d_longest_runs : He.DefD := ⟨("longest_runs", none), "longest_runs", "longest_runs", defArgs s_longest_runs, defBody s_longest_runs, defScope s_longest_runs, [], []⟩
def d_are_boundsA : He.DefD := ⟨("are_bounds", none), "are_bounds", "are_bounds", defArgs s_are_boundsA, defBody s_are_boundsA, defScope s_are_boundsA, [], []⟩
def d_right_leastA : He.DefD := ⟨("right_least", none), "right_least", "right_least", defArgs s_right_leastA, defBody s_right_leastA, defScope s_right_leastA, [], [("take", .int 3), ("put", .int 2)]⟩
def d_l_deck : He.DefD := ⟨("_law_deck", none), "_law_deck", "_law_deck", defArgs s_l_deck, defBody s_l_deck, defScope s_l_deck, [], []⟩
def d_l_mixed : He.DefD := ⟨("_law_mixed", none), "_law_mixed", "_law_mixed", defArgs s_l_mixed, defBody s_l_mixed, defScope s_l_mixed, [], []⟩
def d_l_draw : He.DefD := ⟨("_law_draw", none), "_law_draw", "_law_draw", defArgs s_l_draw, defBody s_l_draw, defScope s_l_draw, [], []⟩
def d_l_text : He.DefD := ⟨("_law_text", none), "_law_text", "_law_text", defArgs s_l_text, defBody s_l_text, defScope s_l_text, [], []⟩
def d_l_int : He.DefD := ⟨("_law_int", none), "_law_int", "_law_int", defArgs s_l_int, defBody s_l_int, defScope s_l_int, [], []⟩
def d_l_same : He.DefD := ⟨("_law_same", none), "_law_same", "_law_same", defArgs s_l_same, defBody s_l_same, defScope s_l_same, [], []⟩
def d_l_stock : He.DefD := ⟨("_law_stock", none), "_law_stock", "_law_stock", defArgs s_l_stock, defBody s_l_stock, defScope s_l_stock, [], []⟩
def d_l_lines : He.DefD := ⟨("_law_lines", none), "_law_lines", "_law_lines", defArgs s_l_lines, defBody s_l_lines, defScope s_l_lines, [], []⟩
def d_l_script : He.DefD := ⟨("_law_script", none), "_law_script", "_law_script", defArgs s_l_script, defBody s_l_script, defScope s_l_script, [], []⟩
def d_l_made : He.DefD := ⟨("_law_made", none), "_law_made", "_law_made", defArgs s_l_made, defBody s_l_made, defScope s_l_made, [], []⟩
def d_l_cost : He.DefD := ⟨("_law_cost", none), "_law_cost", "_law_cost", defArgs s_l_cost, defBody s_l_cost, defScope s_l_cost, [], []⟩
def d_l_is_lineA : He.DefD := ⟨("_law_is_line", none), "_law_is_line", "_law_is_line", defArgs s_l_is_lineA, defBody s_l_is_lineA, defScope s_l_is_lineA, [], []⟩
def d_l_sizeA : He.DefD := ⟨("_law_size", none), "_law_size", "_law_size", defArgs s_l_sizeA, defBody s_l_sizeA, defScope s_l_sizeA, [], []⟩
def d_l_is_scriptA : He.DefD := ⟨("_law_is_script", none), "_law_is_script", "_law_is_script", defArgs s_l_is_scriptA, defBody s_l_is_scriptA, defScope s_l_is_scriptA, [], []⟩
def d_l_fitsA : He.DefD := ⟨("_law_fits", none), "_law_fits", "_law_fits", defArgs s_l_fitsA, defBody s_l_fitsA, defScope s_l_fitsA, [], []⟩
def d_l_odd : He.DefD := ⟨("_law_odd", none), "_law_odd", "_law_odd", defArgs s_l_odd, defBody s_l_odd, defScope s_l_odd, [], []⟩
def d_l_bent : He.DefD := ⟨("_law_bent", none), "_law_bent", "_law_bent", defArgs s_l_bent, defBody s_l_bent, defScope s_l_bent, [], []⟩
def d_l_spoiled : He.DefD := ⟨("_law_spoiled", none), "_law_spoiled", "_law_spoiled", defArgs s_l_spoiled, defBody s_l_spoiled, defScope s_l_spoiled, [], []⟩
def d_l_stands : He.DefD := ⟨("_law_stands", none), "_law_stands", "_law_stands", defArgs s_l_stands, defBody s_l_stands, defScope s_l_stands, [], []⟩
def d_l_firsts : He.DefD := ⟨("_law_firsts", none), "_law_firsts", "_law_firsts", defArgs s_l_firsts, defBody s_l_firsts, defScope s_l_firsts, [], []⟩
def d_l_is_leastA : He.DefD := ⟨("_law_is_least", none), "_law_is_least", "_law_is_least", defArgs s_l_is_leastA, defBody s_l_is_leastA, defScope s_l_is_leastA, [], []⟩
def d_l_least_script : He.DefD := ⟨("_law_least_script", none), "_law_least_script", "_law_least_script", defArgs s_l_least_script, defBody s_l_least_script, defScope s_l_least_script, [], []⟩
def d_l_numbers : He.DefD := ⟨("_law_numbers", none), "_law_numbers", "_law_numbers", defArgs s_l_numbers, defBody s_l_numbers, defScope s_l_numbers, [], []⟩
def d_law : He.DefD := ⟨("law", none), "law", "law", defArgs s_law, defBody s_law, defScope s_law, [], []⟩
def fn : List He.DefD := [d_is_intA, d_is_signA, d_is_textA, d_is_pairB, d_is_rowA, d_is_intsA, d_are_putA, d_rows_in, d_is_pieceA, d_is_scriptA, d_is_right_overA, d_made, d_priceA, d_longest_runs, d_are_boundsA, d_right_leastA, d_l_deck, d_l_mixed, d_l_draw, d_l_text, d_l_int, d_l_same, d_l_stock, d_l_lines, d_l_script, d_l_made, d_l_cost, d_l_is_lineA, d_l_sizeA, d_l_is_scriptA, d_l_fitsA, d_l_odd, d_l_bent, d_l_spoiled, d_l_stands, d_l_firsts, d_l_is_leastA, d_l_least_script, d_l_numbers, d_law]
def fa : List He.Fa := [.glo "is_int", .glo "is_sign", .glo "is_text", .glo "is_pair", .glo "is_row", .glo "is_ints", .glo "are_put", .glo "rows_in", .glo "is_piece", .glo "is_script", .glo "is_right_over", .glo "made", .glo "price", .glo "longest_runs", .glo "are_bounds", .glo "right_least", .glo "_law_deck", .glo "_law_mixed", .glo "_law_draw", .glo "_law_text", .glo "_law_int", .glo "_law_same", .glo "_law_stock", .glo "_law_lines", .glo "_law_script", .glo "_law_made", .glo "_law_cost", .glo "_law_is_line", .glo "_law_size", .glo "_law_is_script", .glo "_law_fits", .glo "_law_odd", .glo "_law_bent", .glo "_law_spoiled", .glo "_law_stands", .glo "_law_firsts", .glo "_law_is_least", .glo "_law_least_script", .glo "_law_numbers", .glo "law", .free "all", .free "bool", .free "dict", .free "enumerate", .free "int", .free "isinstance", .free "len", .free "list", .free "max", .free "min", .free "ord", .free "range", .free "reversed", .free "str", .free "sum", .free "tuple", .int "BARRED_SIGN" 37, .int "MOST_ROWS" 40, .int "MOST_SIGNS" 40, .int "PUT" 2, .int "TAKE" 3, .glo "NoScript", .exc "NoScript"]
abbrev R : PySem.W.OpenRow := PySem.W.OpenLaw.row PySem.Challenge.rw_fewasks_k39_papers_looked_at
abbrev hk : PySem.W.Hook := He.hookD 4 fa fn
def ob (s : PySem.W.SharedT) : He.AlD := He.obsDG 4 fa fn (HandSHeadRun.getT s)
theorem ob_eq (s : PySem.W.SharedT) : ob s = hk.obs s.abs := He.obsDG_eq (HandSHeadRun.getT_eq s)
def loose : List Str := [("HouseError" : Str), ("NoScript" : Str), ("is_int" : Str), ("is_text" : Str), ("is_sign" : Str), ("is_pair" : Str), ("is_ints" : Str), ("is_row" : Str), ("is_script" : Str), ("is_piece" : Str), ("are_put" : Str), ("rows_in" : Str), ("is_right_over" : Str), ("made" : Str), ("price" : Str), ("right_least" : Str), ("are_bounds" : Str), ("longest_runs" : Str), ("_law_deck" : Str), ("_law_mixed" : Str), ("_law_draw" : Str), ("_law_text" : Str), ("_law_int" : Str), ("_law_same" : Str), ("_law_stock" : Str), ("_law_lines" : Str), ("_law_script" : Str), ("_law_made" : Str), ("_law_cost" : Str), ("_law_is_line" : Str), ("_law_size" : Str), ("_law_is_script" : Str), ("_law_fits" : Str), ("_law_odd" : Str), ("_law_bent" : Str), ("_law_spoiled" : Str), ("_law_stands" : Str), ("_law_firsts" : Str), ("_law_is_least" : Str), ("_law_least_script" : Str), ("_law_numbers" : Str), ("BARRED_SIGN" : Str), ("MOST_ROWS" : Str), ("MOST_SIGNS" : Str), ("PUT" : Str), ("TAKE" : Str)]
theorem run (w : World) : HandSHeadRun.RunEq R (PySem.W.view R.prog [50]) hk ob 4000 loose w := by
  intro os
  kernel_rfl
theorem facts {P : Program} {w : World} {K : PySem.W.Frag} {h : Heap} {mg : Str → Option Value} {f : Addr} (X : K.In h) (G : h.Ns mainGlobals mg) (hfa : mg ("law" : Str) = some (.ref f)) (c : He.SaysD fa fn K) :
    ∃ fd : FuncData, (∀ (s : Shared) (v : Value), BindsTo s fd ⟨[v], []⟩ [("_law_script_here", v)]) ∧ ∀ base : Heap, K.In base → base.Ns mainGlobals mg → FnOk P w K mg base CX0 11 f fd ["_law_script_here"] (sp_law K) := by
  obtain ⟨fd0, F0⟩ := c.def_ 0 (d := d_is_intA) rfl
  obtain ⟨fd1, F1⟩ := c.def_ 1 (d := d_is_signA) rfl
  obtain ⟨fd2, F2⟩ := c.def_ 2 (d := d_is_textA) rfl
  obtain ⟨fd3, F3⟩ := c.def_ 3 (d := d_is_pairB) rfl
  obtain ⟨fd4, F4⟩ := c.def_ 4 (d := d_is_rowA) rfl
  obtain ⟨fd5, F5⟩ := c.def_ 5 (d := d_is_intsA) rfl
  obtain ⟨fd6, F6⟩ := c.def_ 6 (d := d_are_putA) rfl
  obtain ⟨fd7, F7⟩ := c.def_ 7 (d := d_rows_in) rfl
  obtain ⟨fd8, F8⟩ := c.def_ 8 (d := d_is_pieceA) rfl
  obtain ⟨fd9, F9⟩ := c.def_ 9 (d := d_is_scriptA) rfl
  obtain ⟨fd10, F10⟩ := c.def_ 10 (d := d_is_right_overA) rfl
  obtain ⟨fd11, F11⟩ := c.def_ 11 (d := d_made) rfl
  obtain ⟨fd12, F12⟩ := c.def_ 12 (d := d_priceA) rfl
  obtain ⟨fd13, F13⟩ := c.def_ 13 (d := d_longest_runs) rfl
  obtain ⟨fd14, F14⟩ := c.def_ 14 (d := d_are_boundsA) rfl
  obtain ⟨fd15, F15⟩ := c.def_ 15 (d := d_right_leastA) rfl
  obtain ⟨fd16, F16⟩ := c.def_ 16 (d := d_l_deck) rfl
  obtain ⟨fd17, F17⟩ := c.def_ 17 (d := d_l_mixed) rfl
  obtain ⟨fd18, F18⟩ := c.def_ 18 (d := d_l_draw) rfl
  obtain ⟨fd19, F19⟩ := c.def_ 19 (d := d_l_text) rfl
  obtain ⟨fd20, F20⟩ := c.def_ 20 (d := d_l_int) rfl
  obtain ⟨fd21, F21⟩ := c.def_ 21 (d := d_l_same) rfl
  obtain ⟨fd22, F22⟩ := c.def_ 22 (d := d_l_stock) rfl
  obtain ⟨fd23, F23⟩ := c.def_ 23 (d := d_l_lines) rfl
  obtain ⟨fd24, F24⟩ := c.def_ 24 (d := d_l_script) rfl
  obtain ⟨fd25, F25⟩ := c.def_ 25 (d := d_l_made) rfl
  obtain ⟨fd26, F26⟩ := c.def_ 26 (d := d_l_cost) rfl
  obtain ⟨fd27, F27⟩ := c.def_ 27 (d := d_l_is_lineA) rfl
  obtain ⟨fd28, F28⟩ := c.def_ 28 (d := d_l_sizeA) rfl
  obtain ⟨fd29, F29⟩ := c.def_ 29 (d := d_l_is_scriptA) rfl
  obtain ⟨fd30, F30⟩ := c.def_ 30 (d := d_l_fitsA) rfl
  obtain ⟨fd31, F31⟩ := c.def_ 31 (d := d_l_odd) rfl
  obtain ⟨fd32, F32⟩ := c.def_ 32 (d := d_l_bent) rfl
  obtain ⟨fd33, F33⟩ := c.def_ 33 (d := d_l_spoiled) rfl
  obtain ⟨fd34, F34⟩ := c.def_ 34 (d := d_l_stands) rfl
  obtain ⟨fd35, F35⟩ := c.def_ 35 (d := d_l_firsts) rfl
  obtain ⟨fd36, F36⟩ := c.def_ 36 (d := d_l_is_leastA) rfl
  obtain ⟨fd37, F37⟩ := c.def_ 37 (d := d_l_least_script) rfl
  obtain ⟨fd38, F38⟩ := c.def_ 38 (d := d_l_numbers) rfl
  obtain ⟨fd39, F39⟩ := c.def_ 39 (d := d_law) rfl
  have e := hfa.symm.trans (He.glo_ok X G (c.fact 39 (f := .glo "law") rfl))
  cases e
  have b := FunD.bindsA (ps := ["_law_script_here"]) F39 fun _ _ _ _ _ _ us hl => match us, hl with | [_], _ => rfl
  exact ⟨fd39, fun s v => b s [v] rfl, fun base _ _ => ok_law (⟨fd0, F0, (He.glo_ok X G (c.fact 0 (f := .glo "is_int") rfl)), fd1, F1, (He.glo_ok X G (c.fact 1 (f := .glo "is_sign") rfl)), fd2, F2, (He.glo_ok X G (c.fact 2 (f := .glo "is_text") rfl)), fd3, F3, (He.glo_ok X G (c.fact 3 (f := .glo "is_pair") rfl)), fd4, F4, (He.glo_ok X G (c.fact 4 (f := .glo "is_row") rfl)), fd5, F5, (He.glo_ok X G (c.fact 5 (f := .glo "is_ints") rfl)), fd6, F6, (He.glo_ok X G (c.fact 6 (f := .glo "are_put") rfl)), fd7, F7, (He.glo_ok X G (c.fact 7 (f := .glo "rows_in") rfl)), fd8, F8, (He.glo_ok X G (c.fact 8 (f := .glo "is_piece") rfl)), fd9, F9, (He.glo_ok X G (c.fact 9 (f := .glo "is_script") rfl)), fd10, F10, (He.glo_ok X G (c.fact 10 (f := .glo "is_right_over") rfl)), fd11, F11, (He.glo_ok X G (c.fact 11 (f := .glo "made") rfl)), fd12, F12, (He.glo_ok X G (c.fact 12 (f := .glo "price") rfl)), fd13, F13, (He.glo_ok X G (c.fact 13 (f := .glo "longest_runs") rfl)), fd14, F14, (He.glo_ok X G (c.fact 14 (f := .glo "are_bounds") rfl)), fd15, F15, (He.glo_ok X G (c.fact 15 (f := .glo "right_least") rfl)), fd16, F16, (He.glo_ok X G (c.fact 16 (f := .glo "_law_deck") rfl)), fd17, F17, (He.glo_ok X G (c.fact 17 (f := .glo "_law_mixed") rfl)), fd18, F18, (He.glo_ok X G (c.fact 18 (f := .glo "_law_draw") rfl)), fd19, F19, (He.glo_ok X G (c.fact 19 (f := .glo "_law_text") rfl)), fd20, F20, (He.glo_ok X G (c.fact 20 (f := .glo "_law_int") rfl)), fd21, F21, (He.glo_ok X G (c.fact 21 (f := .glo "_law_same") rfl)), fd22, F22, (He.glo_ok X G (c.fact 22 (f := .glo "_law_stock") rfl)), fd23, F23, (He.glo_ok X G (c.fact 23 (f := .glo "_law_lines") rfl)), fd24, F24, (He.glo_ok X G (c.fact 24 (f := .glo "_law_script") rfl)), fd25, F25, (He.glo_ok X G (c.fact 25 (f := .glo "_law_made") rfl)), fd26, F26, (He.glo_ok X G (c.fact 26 (f := .glo "_law_cost") rfl)), fd27, F27, (He.glo_ok X G (c.fact 27 (f := .glo "_law_is_line") rfl)), fd28, F28, (He.glo_ok X G (c.fact 28 (f := .glo "_law_size") rfl)), fd29, F29, (He.glo_ok X G (c.fact 29 (f := .glo "_law_is_script") rfl)), fd30, F30, (He.glo_ok X G (c.fact 30 (f := .glo "_law_fits") rfl)), fd31, F31, (He.glo_ok X G (c.fact 31 (f := .glo "_law_odd") rfl)), fd32, F32, (He.glo_ok X G (c.fact 32 (f := .glo "_law_bent") rfl)), fd33, F33, (He.glo_ok X G (c.fact 33 (f := .glo "_law_spoiled") rfl)), fd34, F34, (He.glo_ok X G (c.fact 34 (f := .glo "_law_stands") rfl)), fd35, F35, (He.glo_ok X G (c.fact 35 (f := .glo "_law_firsts") rfl)), fd36, F36, (He.glo_ok X G (c.fact 36 (f := .glo "_law_is_least") rfl)), fd37, F37, (He.glo_ok X G (c.fact 37 (f := .glo "_law_least_script") rfl)), fd38, F38, (He.glo_ok X G (c.fact 38 (f := .glo "_law_numbers") rfl)), fd39, F39, (He.free_ok X G (c.fact 40 (f := .free "all") rfl)), (He.free_ok X G (c.fact 41 (f := .free "bool") rfl)), (He.free_ok X G (c.fact 42 (f := .free "dict") rfl)), (He.free_ok X G (c.fact 43 (f := .free "enumerate") rfl)), (He.free_ok X G (c.fact 44 (f := .free "int") rfl)), (He.free_ok X G (c.fact 45 (f := .free "isinstance") rfl)), (He.free_ok X G (c.fact 46 (f := .free "len") rfl)), (He.free_ok X G (c.fact 47 (f := .free "list") rfl)), (He.free_ok X G (c.fact 48 (f := .free "max") rfl)), (He.free_ok X G (c.fact 49 (f := .free "min") rfl)), (He.free_ok X G (c.fact 50 (f := .free "ord") rfl)), (He.free_ok X G (c.fact 51 (f := .free "range") rfl)), (He.free_ok X G (c.fact 52 (f := .free "reversed") rfl)), (He.free_ok X G (c.fact 53 (f := .free "str") rfl)), (He.free_ok X G (c.fact 54 (f := .free "sum") rfl)), (He.free_ok X G (c.fact 55 (f := .free "tuple") rfl)), (He.int_ok X G (c.fact 56 (f := .int "BARRED_SIGN" 37) rfl)), (He.int_ok X G (c.fact 57 (f := .int "MOST_ROWS" 40) rfl)), (He.int_ok X G (c.fact 58 (f := .int "MOST_SIGNS" 40) rfl)), (He.int_ok X G (c.fact 59 (f := .int "PUT" 2) rfl)), (He.int_ok X G (c.fact 60 (f := .int "TAKE" 3) rfl)), (He.glo_ok X G (c.fact 61 (f := .glo "NoScript") rfl)), (He.exc_ok (c.fact 62 (f := .exc "NoScript") rfl))⟩ : Tx K mg)⟩
end K39
open PySem PySem.W PySem.Calls PyProof.Rows
set_option maxRecDepth 100000 in
set_option maxHeartbeats 0 in
theorem PySem.Challenge.cw_fewasks_k39_papers_looked_at_holds : PySem.Challenge.rw_fewasks_k39_papers_looked_at.Holds := by
  w_on; o_law
  refine HandSHeadRun.head_any (r := OpenLaw.row PySem.Challenge.rw_fewasks_k39_papers_looked_at) (q := view (OpenLaw.row PySem.Challenge.rw_fewasks_k39_papers_looked_at).prog [50]) (H := K39.hk) (ob := K39.ob) (M := 4000) (loose := K39.loose) (d := HandSHeadRun.topDef (OpenLaw.row PySem.Challenge.rw_fewasks_k39_papers_looked_at).prog 50) (kwd := []) K39.ob_eq
    (by kernel_rfl) (fun s => by kernel_rfl) K39.run (by kernel_rfl) (by kernel_rfl) (by kernel_rfl) (by rfl) (by first | assumption | decide +kernel) (by decide +kernel) ⟨rfl, rfl, rfl, rfl, rfl, by decide +kernel⟩ ?hw ?hc
  case hw => w_witness2
  case hc =>
    refine L2.walk_ofE (l := PySem.Challenge.rw_fewasks_k39_papers_looked_at) (n := 63) (k := 11) (x := "_law_script_here") (CX := L2.CX0) rfl (by decide) (by kernel_rfl) ⟨rfl, by decide, by decide⟩ ?F (fun _ _ _ _ z => z)
    intro w mg fa h Y G hmg0
    obtain ⟨K, KX, c⟩ := Y
    have hmg : mg ("law" : PySem.Str) = some (.ref fa) := by
      have e : (HandSHeadRun.topDef (OpenLaw.row PySem.Challenge.rw_fewasks_k39_papers_looked_at).prog 50).name = ("law" : PySem.Str) := by kernel_rfl
      rw [← e]
      exact hmg0
    obtain ⟨fd, hb, hF⟩ := K39.facts (P := (PySem.Challenge.rw_fewasks_k39_papers_looked_at).prog) (w := w) KX G hmg c
    exact ⟨K, fd, Fw.sp_law K, KX, hb, fun H a ns hl _ hS => ⟨a, ns, rfl, hS, hl, fun _ => rfl⟩, hF⟩
