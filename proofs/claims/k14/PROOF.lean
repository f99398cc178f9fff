import PyProof.Rows.All
import Wide.All
import OpenK.AllK
import Wide.FinOn
import PySem.Challenge.RW_afterwise_k14_whole_gates
import HandS.ForMost
import HandS.ForExc
import HandS.IsInst
import HandS.More
import HandS.Style
import HandS.Zip
import HandS.ExcIs
import KE.KExcIs
import HandS.RaiseMore
import PyProof.ReprHeads
import PyProof.ReprDict
import PyProof.StrHeap
import PyProof.StrBlock2
import PyProof.StrLawsRepr
import PyProof.P3Eq
import HandS.OwnEq
import KE.KCallOwn
import HandS.Flow
import PyProof.Draws
import HandS.TupMul
import HandS.Walk
import HandS.ClsMeth
set_option Elab.async false
set_option linter.all false
set_option maxRecDepth 100000
set_option maxHeartbeats 0
namespace Ow
open PySem PySem.Spec PyProof.Rows L2 TL
/-- a def that keeps its promise, ready to be called -/
def Kp (P : Program) (w : World) (K : PySem.W.Frag) (mg : Str → Option Value) (base : Heap) (CX : CXT) (k : Nat) (f : Addr) (ps : List Str) (sp : Sp) : Prop :=
  ∃ fd, FnOk P w K mg base CX k f fd ps sp ∧ Binds K fd ps [] ∧ PySem.W.keepIn K (.ref f) = true
/-! ## heaps -/
theorem same_new {H : Hp} {p : Addr} {o : HO} (h : H p = none) : Same H (upd H p o) := fun b x e => (upd_ne (ne_of_none e h)).trans e
theorem Same.sqT {K : PySem.W.Frag} {H H' : Hp} {a : Addr} {xs : List V} (e : Same H H') (h : SqT K H a xs) : SqT K H' a xs := by
  rcases h with (h | ⟨o, h⟩) | h
  · exact .inl (.inl (e _ _ h))
  · exact .inl (.inr ⟨o, e _ _ h⟩)
  · exact .inr h
/-- all but one stand as they stood -/
def But (s : Addr) (H H' : Hp) : Prop := ∀ b o, H b = some o → b ≠ s → H' b = some o
theorem But.refl {s : Addr} (H : Hp) : But s H H := fun _ _ h _ => h
theorem But.trans {s : Addr} {H H1 H2 : Hp} (a : But s H H1) (b : But s H1 H2) : But s H H2 := fun c o h n => b c o (a c o h n) n
theorem But.of {s : Addr} {H H' : Hp} (a : Same H H') : But s H H' := fun c o h _ => a c o h
theorem But.upd {s : Addr} {H : Hp} {o : HO} : But s H (upd H s o) := fun _ _ h n => (upd_ne n).trans h
theorem But.seqL {s : Addr} {K : PySem.W.Frag} {H H' : Hp} {a : Addr} {xs : List V} (e : But s H H') (n : a ≠ s) (h : SqL K H a xs) : SqL K H' a xs := by
  rcases h with (h | ⟨o, h⟩) | h
  · exact .inl (.inl (e _ _ h n))
  · exact .inl (.inr ⟨o, e _ _ h n⟩)
  · exact .inr h
theorem But.free {s : Addr} {H H' : Hp} (e : But s H H') {l : Addr} (n : l ≠ s) (h : H' l = none) : H l = none := by
  cases q : H l with
  | none => rfl
  | some o => rw [e l o q n] at h; cases h
/-- a source of draws stands at p -/
def Src (H : Hp) (p : Addr) : Prop := ∃ a b c : Int, H p = some (.lst [.int a, .int b, .int c]) ∧ 0 ≤ a ∧ 0 ≤ b ∧ b < 2147483647
theorem Src.same {H H' : Hp} {p : Addr} (h : Src H p) (e : Same H H') : Src H' p := by
  obtain ⟨a, b, c, h1, h2⟩ := h
  exact ⟨a, b, c, e _ _ h1, h2⟩
theorem Src.but {H H' : Hp} {p s : Addr} (h : Src H p) (e : But s H H') (n : p ≠ s) : Src H' p := by
  obtain ⟨a, b, c, h1, h2⟩ := h
  exact ⟨a, b, c, e _ _ h1 n, h2⟩
theorem Src.some {H : Hp} {p : Addr} (h : Src H p) : ∃ o, H p = some o := by
  obtain ⟨a, b, c, h1, h2⟩ := h
  exact ⟨_, h1⟩
theorem iteN {p A B : Prop} [Decidable p] (h : ¬ p) (b : B) : if decide p = true then A else B := by
  rw [decide_eq_false h]
  exact iteF b
theorem iteY {p A B : Prop} [Decidable p] (h : p) (a : A) : if decide p = true then A else B := by
  rw [decide_eq_true h]
  exact iteT a
section
variable {X : Cx}
/-- x is True, x is False: x no object -/
def rIsB1 : R2 := fun x y H Q => ∃ b : Bool, y = .bl b ∧ (match x with | .non => True | .bl _ => True | .int _ => True | .str _ => True | _ => False) ∧ Q (.bl (decide (x = .bl b))) H
theorem op_isB1 : OpR X (compareOp .Is) rIsB1 := by
  intro pins s σ H x y v u Q I rx ry h
  obtain ⟨b, rfl, hx, q⟩ := h
  cases (show u = Value.bool b from ry)
  cases x with
  | non =>
    cases (show v = Value.none from rx)
    exact wpAny_is_other rfl (fun z => nomatch z) ⟨.bl false, H, I, rfl, by simpa using q⟩
  | bl a =>
    cases (show v = Value.bool a from rx)
    by_cases e : a = b
    · subst e
      exact wpAny_is_self rfl ⟨.bl true, H, I, rfl, by simpa using q⟩
    · exact wpAny_is_other rfl (fun z => e (Value.bool.inj z)) ⟨.bl false, H, I, rfl, by simpa [e] using q⟩
  | int i =>
    obtain ⟨t, rfl⟩ := rx
    exact wpAny_is_other rfl (fun z => nomatch z) ⟨.bl false, H, I, rfl, by simpa using q⟩
  | str i =>
    obtain ⟨t, rfl⟩ := rx
    exact wpAny_is_other rfl (fun z => nomatch z) ⟨.bl false, H, I, rfl, by simpa using q⟩
  | _ => exact hx.elim
end
/-! ## comprehensions over a text, over two lists -/
section
variable {K : PySem.W.Frag} {g : TG} {tt : TT} {te : TE} {vs : List Nat} {σ : L2.St} {H1 : Hp} {D : Addr} {Qd : Hp → Prop}
/-- a turn of a comprehension without a test: what its element gives is put behind the list at D -/
abbrev LcTurn (g : TG) (tt : TT) (te : TE) (vs : List Nat) (σ : L2.St) (D : Addr) (Nx : Hp → Prop) (x : V) (H : Hp) : Prop :=
  g x (wipe σ vs) H fun σ2 H2 => wipe σ2 vs = wipe σ vs ∧ tt σ2 H2 fun b H3 => if b = true then te σ2 H3 fun y H4 => ∃ acc, H4 D = some (.lst acc) ∧ acc.length < sizeLine ∧ Nx (upd H4 D (.lst (acc ++ [y]))) else Nx H3
theorem yes_go {σ : L2.St} {H : Hp} {A B : Hp → Prop} (h : A H) : tYes σ H fun b H3 => if b = true then A H3 else B H3 := by
  show (if true = true then A H else B H)
  rw [if_pos rfl]
  exact h
theorem lc_text {z : Str} (Pv : Nat → Hp → Prop) (h0 : Pv 0 (upd H1 D (.lst [])))
    (hs : ∀ (i : Nat) (c : Nat) (H : Hp), z.cps.toList[i]? = some c → Pv i H → LcTurn g tt te vs σ D (Pv (i + 1)) (.str ⟨#[c]⟩) H) (hd : ∀ H, Pv z.cps.toList.length H → Qd H) :
    ∃ W : Nat → Nat → Hp → Prop, (∃ m, W 0 m (upd H1 D (.lst []))) ∧ ∀ i m H, W i m H →
      ((Its z).stop i H ∧ Qd H) ∨ ((Its z).go i H ∧ ∃ Nx : Hp → Prop, (∀ H', Nx H' → ∃ m', m' < m ∧ W (i + 1) m' H') ∧ ∀ x H', (Its z).yld i H x H' → LcTurn g tt te vs σ D Nx x H') := by
  have ez : z.cps.toList.length = z.cps.size := Array.length_toList
  refine ⟨fun i m H => m + i = z.cps.size ∧ Pv i H, ⟨z.cps.size, rfl, h0⟩, ?_⟩
  intro i m H ⟨hm, pv⟩
  by_cases hlt : i < z.cps.size
  · refine .inr ⟨hlt, Pv (i + 1), fun H' p' => ⟨m - 1, by omega, by omega, p'⟩, fun x H' hy => ?_⟩
    obtain ⟨rfl, c, hc, rfl⟩ := hy
    exact hs i c H' (by rw [Array.getElem?_toList]; exact hc) pv
  · have e : i = z.cps.size := by omega
    refine .inl ⟨by show z.cps.size ≤ i; omega, hd H ?_⟩
    rw [ez, ← e]
    exact pv
theorem lc_zip {a b : Addr} {xs ys : List V} (Pv : Nat → Hp → Prop) (h0 : Pv 0 (upd H1 D (.lst []))) (hq : ∀ i H, Pv i H → SqL K H a xs ∧ SqL K H b ys)
    (hs : ∀ (i : Nat) (x y : V) (U : Addr) (H : Hp), xs[i]? = some x → ys[i]? = some y → Pv i H → H U = none → LcTurn g tt te vs σ D (Pv (i + 1)) (.ref U) (upd H U (.tup [x, y])))
    (hd : ∀ H, Pv (min xs.length ys.length) H → Qd H) :
    ∃ W : Nat → Nat → Hp → Prop, (∃ m, W 0 m (upd H1 D (.lst []))) ∧ ∀ i m H, W i m H →
      ((Itz K a b).stop i H ∧ Qd H) ∨ ((Itz K a b).go i H ∧ ∃ Nx : Hp → Prop, (∀ H', Nx H' → ∃ m', m' < m ∧ W (i + 1) m' H') ∧ ∀ x H', (Itz K a b).yld i H x H' → LcTurn g tt te vs σ D Nx x H') := by
  refine ⟨fun i m H => m + i = min xs.length ys.length ∧ Pv i H, ⟨min xs.length ys.length, rfl, h0⟩, ?_⟩
  intro i m H ⟨hm, pv⟩
  obtain ⟨qa, qb⟩ := hq i H pv
  by_cases hlt : i < min xs.length ys.length
  · have h1 : i < xs.length := by omega
    have h2 : i < ys.length := by omega
    refine .inr ⟨⟨xs, ys, _, _, qa, qb, List.getElem?_eq_getElem h1, List.getElem?_eq_getElem h2⟩, Pv (i + 1), fun H' p' => ⟨m - 1, by omega, by omega, p'⟩, fun v H' hy => ?_⟩
    obtain ⟨U, x, y, rfl, hU, rfl, f1, f2⟩ := hy
    exact hs i x y U H (f1 xs qa) (f2 ys qb) pv hU
  · have e : i = min xs.length ys.length := by omega
    refine .inl ⟨⟨xs, ys, qa, qb, by omega⟩, hd H ?_⟩
    rw [← e]
    exact pv
end
theorem TyX.mono {K : PySem.W.Frag} {H H' : Hp} (e : Same H H') {x : V} {t : Value} (h : TyX K H x t) : TyX K H' x t := by
  cases h with
  | base b =>
    refine .base ?_
    cases b with
    | non => exact .non
    | bl y => exact .bl y
    | int i => exact .int i
    | str y => exact .str y
    | flt y => exact .flt y
    | lst q => exact .lst (e _ _ q)
    | frz q => exact .frz (e _ _ q)
    | tup q => exact .tup (e _ _ q)
    | dK q => exact .dK (e _ _ q)
    | dT q => exact .dT (e _ _ q)
    | ins q c1 c2 c3 c4 c5 => exact .ins (e _ _ q) c1 c2 c3 c4 c5
  | byt b => exact .byt b
  | set q => exact .set (e _ _ q)
  | kList q c => exact .kList q c
  | kTuple q c => exact .kTuple q c
  | kDict q c => exact .kDict q c
  | fTuple q => exact .fTuple (e _ _ q)
  | fDict q => exact .fDict (e _ _ q)
theorem tl_empty : tl (Str.ofString "") = [] := by decide +kernel
theorem join_signs (L : List Nat) : ∀ ys : List Str, (∀ y ∈ ys, ∃ c ∈ L, y = ⟨#[c]⟩) → (∀ c ∈ joinL [] (ys.map tl), c ∈ L) ∧ (joinL [] (ys.map tl)).length = ys.length
  | [], _ => ⟨(fun c h => nomatch h), rfl⟩
  | [y], h => by
    obtain ⟨c, hc, rfl⟩ := h y List.mem_cons_self
    refine ⟨fun d hd => ?_, rfl⟩
    have e : d = c := List.mem_singleton.mp hd
    rw [e]
    exact hc
  | y :: z :: r, h => by
    obtain ⟨c, hc, rfl⟩ := h y List.mem_cons_self
    obtain ⟨k1, k2⟩ := join_signs L (z :: r) fun x hx => h x (List.mem_cons_of_mem _ hx)
    have e : joinL [] ((⟨#[c]⟩ :: z :: r : List Str).map tl) = c :: joinL [] ((z :: r).map tl) := rfl
    rw [e]
    refine ⟨fun d hd => ?_, ?_⟩
    · rcases List.mem_cons.mp hd with rfl | hd
      · exact hc
      · exact k1 d hd
    · rw [List.length_cons, k2]
      rfl
theorem sum_ones : ∀ ys : List Str, (∀ y ∈ ys, y.length = 1) → (ys.map (·.length)).sum = ys.length
  | [], _ => rfl
  | y :: r, h => by
    rw [List.map_cons, List.sum_cons, sum_ones r fun x hx => h x (List.mem_cons_of_mem _ hx), h y List.mem_cons_self, List.length_cons]
    omega
theorem iteNN {p A B : Prop} [Decidable p] (h : ¬ p) (a : A) : if (!decide p) = true then A else B := by
  rw [decide_eq_false h]
  exact iteT a
/-! ## asks and rows as the program judges them -/
def plc (c : Nat) : Int := Txt.find (Str.ofString "abcdefgh") ⟨#[c]⟩
/-- each number below the next one -/
def ups : List Int → List Bool
  | a :: b :: r => decide (a < b) :: ups (b :: r)
  | _ => []
def asksB (z : Str) : Bool := decide (1 ≤ z.length) && (decide (z.length ≤ 4) && (decide (0 ≤ ((z.cps.toList.map plc).getD 0 0)) && (ups (z.cps.toList.map plc)).all id))
def asksV : V → Bool
  | .str z => asksB z
  | _ => false
def rowB (a z : Str) : Bool := decide (z.length ≤ 2000) && z.cps.toList.all fun c => decide (c ∈ a.cps.toList)
def rowV (a : Str) : V → Bool
  | .str z => rowB a z
  | _ => false
theorem ups_len : ∀ l : List Int, (ups l).length = l.length - 1
  | [] => rfl
  | [_] => rfl
  | a :: b :: r => by
    show (ups (b :: r)).length + 1 = r.length + 1 + 1 - 1
    rw [ups_len (b :: r)]
    show r.length + 1 - 1 + 1 = r.length + 1 + 1 - 1
    omega
theorem ups_get : ∀ (l : List Int) (i : Nat) (x y : Int), l[i]? = some x → l[i + 1]? = some y → (ups l)[i]? = some (decide (x < y))
  | [], _, _, _, h, _ => by simp at h
  | [_], 0, _, _, _, h => by simp at h
  | [_], i + 1, _, _, h, _ => by simp at h
  | a :: b :: r, 0, x, y, h, h2 => by
    have e1 : a = x := Option.some.inj h
    have e2 : b = y := Option.some.inj h2
    rw [← e1, ← e2]
    rfl
  | a :: b :: r, i + 1, x, y, h, h2 => ups_get (b :: r) i x y h h2
theorem get_int {l : List Int} {i : Nat} {x : V} (h : (l.map V.int)[i]? = some x) : ∃ z, l[i]? = some z ∧ x = V.int z := by
  rw [List.getElem?_map] at h
  cases e : l[i]? with
  | none =>
    rw [e] at h
    cases h
  | some z =>
    rw [e] at h
    exact ⟨z, rfl, (Option.some.inj h).symm⟩
theorem cut_tail (l : List Int) : cutV (l.map V.int) (some 1) none = (l.drop 1).map V.int := by
  unfold cutV
  rw [show HT.sIx (l.map V.int).length 0 (some 1) = min 1 (l.map V.int).length from HT.sIx_nat _ _ 1, HT.sIx_none, ← List.map_drop]
  cases l with
  | nil => rfl
  | cons x r =>
    rw [List.length_map, List.length_cons, Nat.min_eq_left (by omega), List.take_of_length_le (by rw [List.length_map, List.length_drop, List.length_cons]; omega)]
section
variable {K : PySem.W.Frag}
/-- what may be asked: a text, or a thing whose kind is known to be another -/
def Known (K : PySem.W.Frag) (H : Hp) (x : V) : Prop := (∃ z, x = .str z ∧ z.length ≤ sizeLine) ∨ ((∀ z, x ≠ .str z) ∧ ∃ t, TyX K H x t ∧ PySem.W.kitOne K t (.type "str") = some false)
theorem Known.mono {H H' : Hp} (e : Same H H') {x : V} (h : Known K H x) : Known K H' x := by
  rcases h with h | ⟨h1, t, h2, h3⟩
  · exact .inl h
  · exact .inr ⟨h1, t, TyX.mono e h2, h3⟩
end
def spCell (K : PySem.W.Frag) : Sp := fun vs H Q _ => ∃ (l : Addr) (ns : List Int) (k : Nat), vs = [.ref l, .int (k : Int)] ∧ SqL K H l (ns.map V.int) ∧ ∀ (z : Int) (H' : Hp), Same H H' → Q (.int z) H'
theorem cut_first (ns : List Int) : cutV (ns.map V.int) none (some 1) = (ns.take 1).map V.int := by
  unfold cutV
  rw [show HT.sIx (ns.map V.int).length (ns.map V.int).length (some 1) = min 1 (ns.map V.int).length from HT.sIx_nat _ _ 1, HT.sIx_none, List.drop_zero, Nat.sub_zero]
  cases ns with
  | nil => rfl
  | cons x r => simp
def spDraw : Sp := fun vs H Q _ => ∃ (p : Addr) (m : Int), vs = [.ref p, .int m] ∧ Src H p ∧ 0 < m ∧ m < 1000000000 ∧ ∀ (d : Int) (H' : Hp), 0 ≤ d → d < m → Src H' p → But p H H' → Q (.int d) H'
def spSrc (K : PySem.W.Frag) : Sp := fun vs H Q _ => ∃ (l : Addr) (ns : List Int) (k : Nat), vs = [.ref l, .int (k : Int)] ∧ SqL K H l (ns.map V.int) ∧ ∀ (p : Addr) (H' : Hp), Same H H' → H p = none → Src H' p → Q (.ref p) H'
def menuA : List Str := ["ab", "ab", "bf", "acd", "ah", "a", "ab", "ce"]
def spLAsks : Sp := fun vs H Q _ => ∃ (p : Addr), vs = [.ref p] ∧ Src H p ∧ ∀ (z : Str) (H' : Hp), z ∈ menuA → Src H' p → But p H H' → Q (.str z) H'
def spEx0 : Sp := fun vs H Q _ => ∃ a : Str, vs = [.str a, .str a] ∧ Q (.bl true) H
def spEx1 : Sp := fun vs H Q _ => ∃ (p q : Addr) (xs : List Str), vs = [.ref p, .ref q] ∧ H p = some (.tup (xs.map V.str)) ∧ H q = some (.tup (xs.map V.str)) ∧ ∀ H', Same H H' → Q (.bl true) H'
def spLRow : Sp := fun vs H Q _ => ∃ (p : Addr) (z : Str) (m : Int), vs = [.ref p, .str z, .int m] ∧ Src H p ∧ 0 < z.length ∧ z.length ≤ 100 ∧ 0 ≤ m ∧ m ≤ 1000 ∧
  ∀ (y : Str) (H' : Hp), (∀ c ∈ y.cps.toList, c ∈ z.cps.toList) → (y.length : Int) ≤ m → Src H' p → But p H H' → Q (.str y) H'
end Ow
namespace PySem
namespace LowX
open PySem.W PySem.Calls PyProof.Rows PySem.HandSPX
/-! ### the text of __init__ -/
def iA (p1 p2 : Pos) : Arguments := { posonlyargs := [], args := [{ arg := "self", annotation := none, pos := p1 }, { arg := "thing", annotation := none, pos := p2 }], vararg := none, kwonlyargs := [], kw_defaults := [], kwarg := none, defaults := [] }
def iB (q1 q2 q3 q4 : Pos) : List Stmt := [.Assign [.Attribute (.Name "self" q1) "thing" q2] (.Name "thing" q3) q4]
def iS : Scope := { kind := .function, names := [(PySem.Str.ofString "self", .local), (PySem.Str.ofString "thing", .local)], isGenerator := false, isCoroutine := false, more := [] }
/-- what the written part says of Low, at C, and of its __init__, at fI -/
structure LowTxt (K : Frag) (mg : Str → Option Value) (x : Str) (C fI : Addr) : Prop where
  gC : mg x = some (.ref C)
  cls : ∃ nm q N bs bm sn sub ab col dd k0 k1 k2 k3 k5, K.lookup C = some (excClassObj nm q C N bs bm true sn sub ab col dd k0 k1 k2 k3 k5 "ValueError.__new__") ∧ refsVE bm = true
  sa : findIn K (.ref C) "__setattr__" = some (some (.builtin "object.__setattr__"))
  ga : findIn K (.ref C) "__getattribute__" = some (some (.builtin "BaseException.__getattribute__"))
  gg : findIn K (.ref C) "__getattr__" = some none
  noN : findIn K (.ref C) "thing" = some none
  iC : findIn K (.ref C) "__init__" = some (some (.ref fI))
  tC : typeIn K (.ref fI) = some (.type "function")
  kC : keepIn K (.ref C) = true
  exC : subIn K (.ref C) (.type "BaseException") = some true
  tyC : typeIn K (.ref C) = some (.type "type")
  hdC : hasDictIn K C = true
  te : exmOne K (.ref C) (.ref C) = some true
  fn : ∃ (oc : Value) (od : Option Addr) (doc pm : Value) (an : Option Addr) (cdv ct : Value) (osl : Array (Option Value)) (p1 p2 q1 q2 q3 q4 : Pos),
    K.lookup fI = some ⟨oc, od, .func (fnOf "__init__" "WrongThing.__init__" (iA p1 p2) (iB q1 q2 q3 q4) iS .none .none doc pm an cdv ct), osl⟩ ∧ codeIn K cdv "WrongThing.__init__" = true
theorem one_size (v : Value) : [v].length ≤ sizeLine := by
  rw [sizeLine_eq]
  exact (by decide : 1 ≤ 16777216)
theorem kept_but {K : Frag} {h h' : Heap} {x : Addr} (X : K.In h) (hx : K.lookup x = none) (k : ∀ b o, b ≠ x → h.get? b = some o → h'.get? b = some o) : K.In h' := fun a o e =>
  k a o (fun z => by rw [z, hx] at e; cases e) (X a o e)
theorem ldC {M : Model} {s : Shared} {name : Str} {scope : Scope} {L a : Addr} {cd : Value} {m : Str → Option Value} {x : Str} {pos : Pos} {v : Value} {Q : Value → Shared → Prop} {A : Around} {E : Value → Shared → Prop} (hn : s.heap.Ns L m) (hv : m x = some v) (h : Q v s)
    (hk : scope.kind = .function := by rfl) (hl : (envOfC name scope L a cd).kindOf x = some .local := by rfl) (hd : (x == ("__debug__" : Str)) = false := by decide) :
    wpAny M A (eval (.Name x pos) (envOfC name scope L a cd)) Q E s := wpAny_Name (wpAny_loadName_local hk hl hn hv h) hd
/-- what __init__ leaves of a fresh exception at x -/
structure InitEnd (h h' : Heap) (x C dx t1 : Addr) (v : Value) : Prop where
  keep : ∀ b o, b ≠ x → h.get? b = some o → h'.get? b = some o
  obj : h'.get? x = some { cls := .ref C, dict := some dx, data := .fields #[.ref t1, .none, .none, .none, .bool false, .none] }
  dbig : h.objs.size ≤ dx
  dne : dx ≠ x
  ns : h'.Ns1 dx (fun y => if y = "thing" then some v else none)
/-- a made Low -/
structure OwnMade (h h' : Heap) (e C d : Addr) (v : Value) : Prop where
  keep : ∀ b o, h.get? b = some o → h'.get? b = some o
  new : h.objs.size ≤ e
  obj : ∃ oe vs, h'.get? e = some oe ∧ oe.cls = .ref C ∧ oe.dict = some d ∧ oe.data = .fields vs ∧ vs[1]? = some .none
  dbig : h.objs.size ≤ d
  dne : d ≠ e
  ns : h'.Ns1 d (fun y => if y = "thing" then some v else none)
section
variable {prog : Program} {w : World} {A : Around} {E : Value → Shared → Prop} {R : Result → Shared → Prop} {s : Shared} {K : Frag} {mg : Str → Option Value} {C fI : Addr} {x : Str}
theorem low_init (T : LowTxt K mg x C fI) {x t0 : Addr} {v : Value} (X : K.In s.heap) (hlim : s.heap.NoLimit) (hx : s.heap.get? x = some (excO C t0)) (hnx : K.lookup x = none) (hroom : A.depth < recursionLimit)
    (hq : ∀ h' tk dx, InitEnd s.heap h' x C dx t0 v → R (.ok (.ret .none)) { s with heap := h', toks := tk }) :
    codeAny (model prog w) A (.call (.ref fI) ⟨[.ref x, v], []⟩) R s := by
  obtain ⟨oc, od, doc, pm, an, cdv, ct, osl, p1, p2, q1, q2, q3, q4, ho, hcd⟩ := T.fn
  obtain ⟨nm, q, N, bs, bm, sn, sub, ab, col, dd, k0, k1, k2, k3, k5, hC, hbm⟩ := T.cls
  have hcl : clsIn K C = some { name := nm, bases := bs, mro := .ref C :: bm, ns := N, qualname := q, hasDict := true, slotNames := sn, subclasses := sub, abstract := ab, collection := col, hasDel := false } := by unfold clsIn; rw [hC] <;> rfl
  refine Att.call_fn (binds := [("self", .ref x), ("thing", v)]) X hlim ho hcd hroom (BindsTo.of_eq (by first | rfl | with_unfolding_all rfl)) (by first | rfl | decide | with_unfolding_all rfl) (fun s₁ IC => ?_) rfl rfl rfl
  obtain ⟨h₁, tk₁, rfl⟩ := IC.toInCall.same
  have k : ∀ b o, s.heap.get? b = some o → h₁.get? b = some o := IC.toInCall.keep
  have hn := IC.toInCall.ns
  have hxL : s.heap.objs.size ≠ x := Nat.ne_of_gt (Heap.lt_size hx)
  have X₁ : K.In h₁ := X.keeps k
  have hx₁ := k _ _ hx
  -- self.by = by
  show wpAny _ _ (execs _ _) _ _ _
  refine wpAny_execs_cons (plainObj_wpAny_Assign_Attribute ?_)
  refine ldC (v := v) hn (by first | rfl | with_unfolding_all rfl | kernel_rfl) (ldC (v := .ref x) hn (by first | rfl | with_unfolding_all rfl | kernel_rfl) ?_)
  refine set_plain X₁ (ox := excO C t0) (od := none) ⟨hx₁, rfl, rfl, trivial⟩ T.sa ?_
  refine exc_osa X₁ hx₁ hcl (show refsVE (.ref C :: bm) = true from hbm) rfl T.noN (fun h₃ tk₃ dx k₃ dn dne hx₃ hn₃ => ?_)
  show wpAny _ _ (execs _ _) _ _ _
  have z : s.heap.objs.size < h₁.objs.size := hn.lt
  exact wpAny_execs_nil (hq h₃ tk₃ dx ⟨fun b o hb e => k₃ b o hb (k b o e), hx₃, Nat.le_of_lt (Nat.lt_of_lt_of_le z dn), dne, hn₃⟩)
theorem low_made (T : LowTxt K mg x C fI) {v : Value} (X : K.In s.heap) (hlim : s.heap.NoLimit) (hroom : A.depth + 1 < recursionLimit)
    (hq : ∀ h' tk e d, OwnMade s.heap h' e C d v → R (.ok (.ret (.ref e))) { s with heap := h', toks := tk }) :
    codeAny (model prog w) A (.call (.ref C) ⟨[v], []⟩) R s := by
  obtain ⟨nm, q, N, bs, bm, sn, sub, ab, col, dd, k0, k1, k2, k3, k5, hC, hbm⟩ := T.cls
  obtain ⟨hp, g, dr, tk, os⟩ := s
  have k : ∀ b o, hp.get? b = some o → ((hp.push (kdv_tup [v])).push (excO C hp.objs.size)).get? b = some o := fun b o e => Heap.get?_push_of_some _ (Heap.get?_push_of_some _ e)
  have hget : ((hp.push (kdv_tup [v])).push (excO C hp.objs.size)).get? (hp.objs.size + 1) = some (excO C hp.objs.size) := by heap_get
  have hnx : K.lookup (hp.objs.size + 1) = none := by
    cases e : K.lookup (hp.objs.size + 1) with
    | none => rfl
    | some o =>
      have z : hp.get? (hp.objs.size + 1) = some o := X _ _ e
      exact absurd (Nat.lt_of_succ_lt (Heap.lt_size z)) (Nat.lt_irrefl _)
  refine call_own F.excBase_ValueError (fun X => refsVE_contains X bm hbm) (X _ _ hC) (looks_findIn X T.iC) (fun self => bind_fn X self T.tC) (one_size v) ?_
  refine low_init (s := ⟨(hp.push (kdv_tup [v])).push (excO C hp.objs.size), g, dr, tk, os⟩) T (X.keeps k) (hlim.keeps k) hget hnx ?_ fun h' tk' dx ⟨k', hx, dn, dne, hns⟩ => ?_
  · show A.depth + 1 < recursionLimit
    exact hroom
  · have old : ∀ b o, hp.get? b = some o → h'.get? b = some o := fun b o e => k' b o (Nat.ne_of_lt (Nat.lt_succ_of_lt (Heap.lt_size e))) (k b o e)
    have z : hp.objs.size + 1 + 1 ≤ dx := by
      first
        | (simpa only [Heap.size_push] using dn)
        | exact dn
        | (have q := dn; rw [Heap.size_push, Heap.size_push] at q; exact q)
    exact ⟨rfl, hq h' tk' (hp.objs.size + 1) dx ⟨old, Nat.le_succ _, ⟨_, _, hx, rfl, rfl, rfl, rfl⟩, Nat.le_trans (Nat.le_trans (Nat.le_succ _) (Nat.le_succ _)) z, dne, hns⟩⟩
end
end LowX
end PySem
namespace L2
open PySem PySem.Spec PyProof.Rows
theorem relO_thing {v : V} {v' : Value} (r : RelV v v') (f : Str) : RelO (List.lookup f [(("thing" : Str), v)]) (if f = "thing" then some v' else none) := by
  by_cases hw : f = "thing"
  · subst hw
    rw [if_pos rfl]
    have q : List.lookup ("thing" : Str) [(("thing" : Str), v)] = some v := by simp [List.lookup]
    rw [q]
    exact r
  · rw [if_neg hw]
    have qw : (f == ("thing" : Str)) = false := by simpa using hw
    have q2 : List.lookup f [(("thing" : Str), v)] = none := by simp [List.lookup, qw]
    rw [q2]
    trivial
section
variable {X : Cx} {C fI : Addr}
/-- Low(e) -/
def tMkTh (C : Addr) (ta : TA) : St → Hp → XK → Prop := fun σ H Q => ta σ H fun vs H1 => ∃ v, vs = [v] ∧ ∀ d, H1 d = none → Q (.ref C) (some d) (upd H1 d (.xd [(("thing" : Str), v)]))
theorem pmk_thing {a : Expr} {ta : TA} {p pos : Pos} {k : Nat} (T : PySem.LowX.LowTxt X.K X.mg x C fI) (hr : Room k X.A) (ha : PA X [a] ta) (hg : Gl X x := by rfl) (hdb : (x == ("__debug__" : Str)) = false := by decide)
    (he : starEach (a :: []) X.env = (false, eval a X.env) :: starEach [] X.env := by rfl) (hpl : (backTo pos (starEach [] X.env)).any (·.1) = false := by rfl) :
    PMk X (.Call (.Name x p) [a] [] pos) (tMkTh C ta) := by
  intro pins s σ H Q I h
  refine wpAny_Call_Name_kw (ld_glob I hg T.gC ?_ hdb)
  refine PySem.W.callWith_K (h₀ := X.base) I.ok.mod.kin T.kC (thn (ha.run pos pins s σ H _ I h) fun us s1 hh => ?_) he hpl
  obtain ⟨vs, H1, I1, r1, v, ev, q1⟩ := hh
  subst ev
  refine ⟨I1.kIn, ?_⟩
  cases r1 with
  | cons rv rn =>
    rename_i v' us'
    cases rn
    show wpAny _ _ (call (.ref C) [v']) _ _ _
    have hlim := I1.nolimit
    obtain ⟨hp, g, dr, tk, os⟩ := s1
    refine wpAny_call (PySem.LowX.low_made T I1.kIn hlim (by have := hr.dp; omega) fun h' tk' e d M => ?_)
    show MkP X pins σ Q (.ref e) ⟨h', g, dr, tk', os⟩
    obtain ⟨oe, fv, hoe, hc, hd, hdat, h1⟩ := M.obj
    have hns := M.ns
    obtain ⟨G', g1, g2⟩ := restrict h' fun b => decide (b ≠ e)
    have gk : ∀ b, b ≠ e → G'.get? b = h'.get? b := fun b hb => g1 b (decide_eq_true hb)
    have ge : G'.get? e = none := g2 e (by simp)
    have old : ∀ b o, hp.get? b = some o → G'.get? b = some o := fun b o q => (gk b (Nat.ne_of_lt (Nat.lt_of_lt_of_le (Heap.lt_size q) M.new))).trans (M.keep b o q)
    have ob : ObjOk X.prog X.w (upd H1 d (.xd [(("thing" : Str), v)])) G' d (.xd [(("thing" : Str), v)]) :=
      ⟨_, hns.at (fun o q => (gk d M.dne).trans q), fun f => relO_thing rv f⟩
    have J : Inv X pins σ (upd H1 d (.xd [(("thing" : Str), v)])) ⟨G', g, dr, tk', os⟩ := I1.laid (t' := tk') old M.dbig ob
    refine ⟨e, oe, fv, ⟨G', g, dr, tk', os⟩, _, .ref C, some d, rfl, J, fun b o q => ?_, ge, hoe, ⟨hc, hd⟩, hdat, h1, ?_, rfl, I1.bare, raises_own T.exC T.tyC, q1 d (I1.hok.fresh M.dbig)⟩
    · by_cases hb : b = e
      · have q' : G'.get? b = some o := q
        rw [hb, ge] at q'; cases q'
      · exact (gk b hb).symm.trans q
    · rw [upd_ne (Ne.symm M.dne)]
      exact I1.hok.fresh M.new
/-- raise Low(e) -/
def tRaiseTh (C : Addr) (W : WX) (ta : TA) : TS := fun _ σ H => tMkTh C ta σ H fun cls d H' => W cls d σ H'
theorem ps_raiseTh {a : Expr} {ta : TA} {W : WX} {p pos pos2 : Pos} {k : Nat} (hc : X.calm = true) (T : PySem.LowX.LowTxt X.K X.mg x C fI) (hr : Room k X.A) (tk : Takes X W) (ha : PA X [a] ta) (hg : Gl X x := by rfl) (hdb : (x == ("__debug__" : Str)) = false := by decide)
    (he : starEach (a :: []) X.env = (false, eval a X.env) :: starEach [] X.env := by rfl) (hpl : (backTo pos (starEach [] X.env)).any (·.1) = false := by rfl) :
    PS X (.Raise (some (.Call (.Name x p) [a] [] pos)) none pos2) (tRaiseTh C W ta) := ps_raise hc tk (pmk_thing T hr ha hg hdb he hpl)
/-- low.by, low the exception that the suite holds (at a; its class cls, its dict d) -/
def tThing (C : Addr) (a : Addr) (cls : Value) (d : Option Addr) (te : TE) : TE := fun σ H Q => te σ H fun x H1 => x = .ref a ∧ cls = .ref C ∧ ∃ (dd : Addr) (v : V), d = some dd ∧ H1 dd = some (.xd [(("thing" : Str), v)]) ∧ Q v H1
theorem pe_thing {a : Addr} {oe : Obj} {cls : Value} {d : Option Addr} {pn : List (Addr × Obj)} {e : Expr} {te : TE} {pos : Pos} (T : PySem.LowX.LowTxt X.K X.mg x C fI) (hz : Zc cls d oe) (hf : ∃ vs, oe.data = .fields vs) (he : PE (X.suite a ((a, oe) :: pn)) e te)
    (hb : attributeBase e "thing" X.env (eval e X.env) = eval e X.env := by rfl) :
    PE (X.suite a ((a, oe) :: pn)) (.Attribute e "thing" pos) (tThing C a cls d te) := by
  refine ⟨fun pins s σ H Q I h => ?_⟩
  refine attr_of hb (thn (he.run pins s σ H _ I h) fun u s1 hh => ?_)
  obtain ⟨x, H1, I1, rx, ex, ec, dd, v, ed, ea, q⟩ := hh
  subst ex
  obtain rfl : u = Value.ref a := rx
  subst ec
  subst ed
  obtain ⟨ha, _⟩ := I1.pin (a, oe) (List.mem_append_left _ List.mem_cons_self)
  obtain ⟨vs, hd⟩ := hf
  have hx : ObjOk X.prog X.w H1 s1.heap dd (.xd [(("thing" : Str), v)]) := I1.hok dd _ ea
  obtain ⟨mA, hns, hr⟩ := hx
  obtain ⟨od, ho, hl⟩ := lookIn_ns hns
  have l : List.lookup ("thing" : Str) [(("thing" : Str), v)] = some v := by simp [List.lookup]
  obtain ⟨u, hu, ru⟩ := RelO.some_of (v := v) (o := mA "thing") (by rw [← l]; exact hr "thing")
  have J : PySem.W.InstAt s1.heap a oe C (some od) := ⟨ha, hz.1, by unfold PySem.W.notCls; rw [hd] <;> rfl, by rw [hz.2]; exact ho⟩
  exact HandSPX.exc_get I1.kIn J T.ga T.gg T.exC (PySem.W.findObj_own T.hdC T.noN rfl (by rw [hl, hu])) (handed_of ru) ⟨v, H1, I1.tok _, ru, q⟩
end
end L2


namespace Ow
open PySem PySem.Spec PyProof.Rows L2
/-! ## isinstance of an error that bears a thing, in the suite that holds it -/
def rIsT (K : PySem.W.Frag) (a : Addr) (cls : Value) (d : Option Addr) : List V → Hp → VK → Prop := fun xs H Q =>
  ∃ (D dd : Addr) (fs : List (Str × V)) (c : V) (cv : Value) (b : Bool), cls = .ref D ∧ d = some dd ∧ H dd = some (.xd fs) ∧ ExcC K D ∧ xs = [.ref a, c] ∧ (∀ u, RelV c u → u = cv) ∧ PySem.W.kitOne K (.ref D) cv = some b ∧ Q (.bl b) H
theorem call_isT {X : Cx} {a : Addr} {cls : Value} {d : Option Addr} {oe : Obj} {pn : List (Addr × Obj)} (hz : Zc cls d oe) (hf : ∃ vs, oe.data = .fields vs) :
    CallR (X.suite a ((a, oe) :: pn)) (.builtin "isinstance") (rIsT X.K a cls d) := by
  intro pins s σ H xs us Q I r h
  obtain ⟨D, dd, fs, c, cv, b, rfl, rfl, hdd, C, rfl, hcv, e, q⟩ := h
  obtain ⟨u1, u2, rfl, r1, r2⟩ := vals2 r
  obtain rfl : u1 = Value.ref a := r1
  obtain rfl := hcv _ r2
  have hge := (I.pin (a, oe) (List.mem_append_left _ List.mem_cons_self)).1
  obtain ⟨vs, hv⟩ := hf
  obtain ⟨mA, hns, _⟩ : ObjOk X.prog X.w H s.heap dd (.xd fs) := I.hok dd _ hdd
  obtain ⟨od, ho, _⟩ := lookIn_ns hns
  have hcl : (PySem.W.clsIn X.K D).isSome = true := by
    have z := C.hd
    unfold PySem.W.hasDictIn at z
    cases q2 : PySem.W.clsIn X.K D with
    | none => rw [q2] at z; exact absurd z (by decide)
    | some cd => rfl
  have J : PySem.W.InstAt s.heap a oe D (some od) := ⟨hge, hz.1, by unfold PySem.W.notCls; rw [hv] <;> rfl, by rw [hz.2]; exact ho⟩
  exact PySem.W.kia_one (PySem.W.kitx_exc hcl C.hg C.hk C.hs C.ha C.hn C.ht C.hm) I.kIn J e (fun z => nomatch z) fun tk => ⟨.bl b, H, I.kept (t' := tk) fun _ _ z => z, rfl, q⟩
/-! ## several clauses, each with the same name -/
/-- the ends of a suite whose name, in slot i, goes behind it -/
def outAs (i : Nat) (D : Ends) : Ends := { nx := fun σ' H' => D.nx (σ'.set i none) H', rt := D.rt, bk := fun σ' H' => D.bk (σ'.set i none) H', ct := fun σ' H' => D.ct (σ'.set i none) H' }
abbrev Cl := Value × (Addr → Value → Option Addr → TS)
def wClauses (K : PySem.W.Frag) (i : Nat) (Wo : WX) (D : Ends) : List Cl → WX
  | [] => Wo
  | k :: r => fun cls d σ H => ∃ b, PySem.W.exmOne K cls k.1 = some b ∧ (b = true → ∀ a, H a = none → k.2 a cls d (outAs i D) (σ.set i (some (.ref a))) H) ∧ (b = false → wClauses K i Wo D r cls d σ H)
inductive ClOk (X : Cx) (n : Str) : List ExceptHandler → List Cl → Prop
  | nil : ClOk X n [] []
  | cons {x : Str} {c : Value} {ts : Addr → Value → Option Addr → TS} {b0 : Stmt} {su : List Stmt} {p1 p2 : Pos} {hds : List ExceptHandler} {l : List Cl} (nm : Names X x c)
      (hsu : ∀ (a : Addr) (oe : Obj) (cls : Value) (d : Option Addr) (pn : List (Addr × Obj)), Zc cls d oe → (∃ vs, oe.data = .fields vs) → PSs (X.suite a ((a, oe) :: pn)) (b0 :: su) (ts a cls d)) (r : ClOk X n hds l) :
      ClOk X n (.ExceptHandler (some (.Name x p1)) (some n) (b0 :: su) p2 :: hds) ((c, ts) :: l)
section
variable {X : Cx} {n : Str} {i : Nat} {body : List Stmt} {pos : Pos} {tb : WX → TS} {Wo : WX}
/-- a caught exception at a goes through the clauses -/
theorem clauses_run (stk : X.stack = X.env :: X.outer) (frm : X.env.frame = some X.env.locals) (nd : X.N.Nodup) (ix : X.N[i]? = some n) (loc : X.env.kindOf n = some .local) (tk : Takes X Wo) {pins : List (Addr × Obj)} {D : Ends} {a : Addr} {B : Heap} {sI s3 : Shared} {σ : L2.St} {H : Hp} {cls : Value} {d : Option Addr}
    (J : Inv X pins σ H sI) (nb : ∀ b o, sI.heap.get? b = some o → b ∉ frs X.stack → B.get? b = some o) (up : sI.heap.UpToSlots s3.heap) (fl : HandSPX.FlyingZ B (X.env :: X.outer) a (Zc cls d) s3.heap) (na : H a = none) (os : s3.os = sI.os) (ag : AllBare s3.gens) :
    ∀ {hds : List ExceptHandler} {l : List Cl}, ClOk X n hds l → wClauses X.K i Wo D l cls d σ H → wpAny (model X.prog X.w) X.A (handleBy (.ref a) X.env hds) (SP X pins D) X.xe s3 := by
  have frames : X.A.frames = some (X.env :: X.outer) := J.ok.frames.trans (congrArg some stk)
  obtain ⟨oe3, vs3, he3, hz3, hd3⟩ := fl.there
  have out : a ∉ frs (X.env :: X.outer) := fun hm => by
    obtain ⟨_, o, eo, hnf⟩ := fl.2.2.1.mem hm
    rw [he3] at eo
    cases eo
    exact hnf _ hd3
  have aL : a ≠ X.env.locals := fun z => out (List.mem_filterMap.mpr ⟨X.env, List.mem_cons_self, by rw [frm, z]⟩)
  have aF : a ∉ X.fs := fun hm => by
    obtain ⟨e, he, q⟩ := List.mem_filterMap.mp hm
    exact out (List.mem_filterMap.mpr ⟨e, List.mem_cons_of_mem _ he, q⟩)
  have J3 : Inv X pins σ H s3 := J.landed nb fl.1 up os ag
  have S3 := J3.suite he3 hd3 na aL aF
  intro hds l hk
  induction hk with
  | nil =>
    intro wish
    refine wpAny_handleBy_nil ?_
    obtain ⟨_, _, _, oe, vs, U, oU, us, he, hz, hd, h1, _⟩ := id fl
    unfold PySem.passOn
    refine wpAny_bind (wpAny_field he hd h1 ?_)
    rw [if_neg (by simp : ¬ ((Value.ref U == Value.none) = true))]
    have last : wpAny (model X.prog X.w) X.A (setFlight (.ref a) X.env.frame) (fun _ s4 => wpAny (model X.prog X.w) X.A (throw (.ref a) : Sem Flow) (SP X pins D) X.xe s4) X.xe s3 := by
      rw [frm]
      refine HandSPX.setFlight_upZ fl fun h4 held up4 => wpAny_throw (tk _ _ ⟨a, B, sI, pins, σ, H, cls, d, rfl, J, nb, up.trans up4, .inr (.inr (by rw [stk]; exact held)), na, os, ag, wish⟩)
    first
      | exact wpAny_bind (wpAny_pure (wpAny_bind last))
      | exact wpAny_bind last
  | @cons x c ts b0 su p1 p2 hds2 l2 nm hsu r ih =>
    rintro ⟨b, hb, yes, no⟩
    refine wpAny_handleBy_cons (codeAny_handlers_test ?_) (fun q => by cases q)
    have ty : PySem.W.Looks (model X.prog X.w) s3.heap (typeOf (.ref a)) cls := fun A Q E s k q => wpAny_typeOf_ref (k _ _ he3) (by rw [hz3.1]; exact q)
    have meets := PySem.W.exm_one (M := model X.prog X.w) J3.kIn ty hb
    have named : ∀ {Q E : Value → Shared → Prop}, Q c s3 → wpAny (model X.prog X.w) (X.A.mark (some (.ref a))) (eval (.Name x p1) X.env) Q E s3 := fun {Q E} q => by
      obtain ⟨g1, g2, g3 | ⟨g3, g4, g5⟩⟩ := nm
      · exact ld_glob (X := X.suite a ((a, oe3) :: (X.pn ++ pins))) S3 g1 g3 q g2
      · exact ld_blt (X := X.suite a ((a, oe3) :: (X.pn ++ pins))) S3 g1 g3 g4 q g5 g2
    refine named (meets.here ?_)
    cases b with
    | false =>
      show wpAny _ X.A (handleBy (.ref a) X.env hds2) _ _ _
      exact ih (no rfl)
    | true =>
      refine codeAny_handlers_suite_as (HandSPX.lands_againZ fl fun h4 fl4 up4 => ?_)
      have J4 : Inv X pins σ H { s3 with heap := h4 } := J.landed nb fl4.1 (up.trans up4) os ag
      obtain ⟨oe4, vs4, he4, hz4, hd4⟩ := fl4.there
      have S4 := J4.suite he4 hd4 na aL aF
      refine store_ok (X := X.suite a ((a, oe4) :: (X.pn ++ pins))) (v := .ref a) S4 nd ix (.inl loc) rfl (fun s5 S5 => ?_) (.inr loc)
      have gone : ∀ {σ6 : L2.St} {H6 : Hp} {s6 : Shared} {Q : Shared → Prop}, Inv (X.suite a ((a, oe4) :: (X.pn ++ pins))) [] σ6 H6 s6 → (∀ s7, Inv X pins (σ6.set i none) H6 s7 → Q s7) →
          wpAny (model X.prog X.w) X.A (do bindName X.env n .none; unbindBehindTheSuite X.env n p2) (fun _ s7 => Q s7) X.xe s6 := fun S6 hq => gone_ok (S6.unsuite J.ok) nd ix loc hq
      refine wpAny_mono ((hsu a oe4 cls d (X.pn ++ pins) hz4 ⟨_, hd4⟩).run [] s5 _ H _ S5 (yes rfl a na)) (fun f s6 hsp => ?_) (fun _ _ z => z.elim)
      cases f with
      | ret u =>
        obtain ⟨v6, σ6, H6, S6, r6, q6⟩ := hsp
        exact gone S6 fun s7 J7 => ⟨v6, _, H6, J7, r6, q6⟩
      | next =>
        obtain ⟨σ6, H6, S6, q6⟩ := hsp
        exact gone S6 fun s7 J7 => ⟨_, H6, J7, q6⟩
      | brk =>
        obtain ⟨σ6, H6, S6, q6⟩ := hsp
        exact gone S6 fun s7 J7 => ⟨_, H6, J7, q6⟩
      | cont =>
        obtain ⟨σ6, H6, S6, q6⟩ := hsp
        exact gone S6 fun s7 J7 => ⟨_, H6, J7, q6⟩
theorem ps_try_clauses {h0 : ExceptHandler} {hds : List ExceptHandler} {l : List Cl} (stk : X.stack = X.env :: X.outer) (frm : X.env.frame = some X.env.locals) (nd : X.N.Nodup) (ix : X.N[i]? = some n) (loc : X.env.kindOf n = some .local) (tk : Takes X Wo)
    (hb : ∀ (W : WX) (pn : List (Addr × Obj)) (xe : Value → Shared → Prop), Takes (X.tr pn xe) W → PassesOwn (model X.prog X.w) X.A X.env xe → PSs (X.tr pn xe) body (tb W))
    (cl : ClOk X n (h0 :: hds) l) : PS X (.Try body (h0 :: hds) [] [] pos) (fun D σ H => tb (wClauses X.K i Wo D l) D σ H) := by
  refine ⟨fun pins s σ H D I h => wpAny_Try_except ?_⟩
  have frames : X.A.frames = some (X.env :: X.outer) := I.ok.frames.trans (congrArg some stk)
  refine wpAny_mono ((hb (wClauses X.K i Wo D l) (X.pn ++ pins) (fun e s1 => wpAny (model X.prog X.w) X.A (noteFrame e X.env) (fun _ s2 => wpAny (model X.prog X.w) X.A (setFlight e none) (fun _ s3 =>
    wpAny (model X.prog X.w) X.A (handleBy e X.env (h0 :: hds)) (SP X pins D) X.xe s3) X.xe s2) X.xe s1) (fun u s1 fell => ?_) PassesOwn.looking).run [] s σ H D (I.toTry _) h) (fun f s1 went => ?_) (fun _ _ z => z)
  · obtain ⟨a, B, sI, ps, σ', H', cls, d, rfl, J', nb, up, sky, na, os, ag, wish⟩ := fell
    rw [show (X.tr (X.pn ++ pins) (fun e s1 => wpAny (model X.prog X.w) X.A (noteFrame e X.env) (fun _ s2 => wpAny (model X.prog X.w) X.A (setFlight e none) (fun _ s3 =>
      wpAny (model X.prog X.w) X.A (handleBy e X.env (h0 :: hds)) (SP X pins D) X.xe s3) X.xe s2) X.xe s1)).stack = X.env :: X.outer from stk] at sky
    show wpAny (model X.prog X.w) X.A (noteFrame (.ref a) X.env) _ _ _
    exact Sky.land Zc.steady frames frm sky fun h3 fl3 up3 => clauses_run stk frm nd ix loc tk (s3 := { s1 with heap := h3 }) (J'.ofTry I.ok) nb (up.trans up3) fl3 na os ag cl wish
  · cases f with
    | ret u =>
      obtain ⟨v, σ', H', J', r, q⟩ := went
      exact ⟨v, σ', H', J'.ofTry I.ok, r, q⟩
    | next =>
      obtain ⟨σ', H', J', q⟩ := went
      exact wpAny_execs_nil ⟨σ', H', J'.ofTry I.ok, q⟩
    | brk =>
      obtain ⟨σ', H', J', q⟩ := went
      exact ⟨σ', H', J'.ofTry I.ok, q⟩
    | cont =>
      obtain ⟨σ', H', J', q⟩ := went
      exact ⟨σ', H', J'.ofTry I.ok, q⟩
end
end Ow
namespace Ow
open PySem PySem.Spec PyProof.Rows L2
def onL (a : Addr) : Code × Pos → Bool := fun
  | (.builtin "list.__repr__.loop" ⟨v :: _, _⟩, _) => Builtin.List.listSameRef v (.ref a)
  | _ => false
theorem onL_pos (a : Addr) (c : Code) (p : Pos) : onL a (c, p) = onL a (c, default) := by
  unfold onL
  split
  · next heq => cases heq; rfl
  · next h =>
    split
    · next heq => cases heq; exact absurd rfl (h _ _ _ _)
    · rfl
theorem onL_off (a : Addr) (c : Code) (p : Pos) (hc : c.isGuard = false) : onL a (c, p) = false := by
  unfold onL
  split
  · next heq => cases heq; simp [Code.isGuard, guardIds] at hc
  · rfl
def runs (f : Code × Pos → Bool) (g : List Code) : Bool := g.any fun c => f (c, default)
theorem runs_no {f : Code × Pos → Bool} {g : List Code} (h : runs f g = false) : ∀ c ∈ g, f (c, default) = false := fun c hc => by
  have z := List.any_eq_false.mp h c hc
  simpa using z
section
variable {prog : Program} {w : World} {A : Around} {E : Value → Shared → Prop} {s : Shared} {a : Addr} {o : Obj} {g : List Code}
theorem rep_list_on {x : Value} {l : List Value} {n : Nat} {Q : Value → Shared → Prop} (hg : A.guards = some g) (hr : runs (onL a) g = true) (ha : s.heap.get? a = some o) (hc : o.cls = .type "list") (hd : o.data = .seq (x :: l).toArray n)
    (hQ : Q (.str "[...]" s.toks) { s with toks := s.toks + 1 }) : wpAny (model prog w) A (call (.builtin "list.__repr__") [.ref a]) Q E s := by
  refine wpAny_call (codeAny_call_builtin_own (Code.quiet_builtin _ (by decide +kernel)) F.entry_list_repr (F.slot_list_repr.check _ _ _ _ _ _ _ _ ⟨o, ha, hc⟩ (F.args_list_repr_1 _) ?_))
  show wpOwn _ _ _ (Builtin.listReprAt 0 ⟨[.ref a], []⟩) _ _ s
  intro Γ p hcd hΓ
  unfold Builtin.listReprAt
  simp [slotArgs, Builtin.List.listItems, seqItems?, Sem.wp_load_of (h := ha), hd, stack]
  show Sem.wp _ Γ (if (Γ.below.any (onL a)) = true then _ else _) _ _ p s
  have e : Γ.below.any (onL a) = true := by
    rw [any_eq_guards (onL_off a) (onL_pos a), hΓ.2.2.2.1 g hg]
    exact hr
  rw [if_pos e]
  simp [rule, retStr, ret]
  exact hQ
theorem rep_tup_on {items : Array Value} {n : Nat} {Q : Value → Shared → Prop} (hg : A.guards = some g) (hr : runs (tupGuardF (.ref a)) g = true) (ha : s.heap.get? a = some o) (hc : o.cls = .type "tuple") (hd : o.data = .seq items n)
    (hQ : Q (.str "(...)" s.toks) { s with toks := s.toks + 1 }) : wpAny (model prog w) A (call (.builtin "tuple.__repr__") [.ref a]) Q E s := by
  refine wpAny_call (codeAny_call_builtin_own (Code.quiet_builtin _ (by decide +kernel)) F.entry_tuple_repr (F.slot_tuple_repr.check _ _ _ _ _ _ _ _ ⟨o, ha, hc⟩ (F.args_tuple_repr_1 _) ?_))
  show wpOwn _ _ _ (Builtin.tupleReprAt 0 ⟨[.ref a], []⟩) _ _ s
  rw [tuple_repr_tree, tupleReprUnderWay_eq]
  refine wpOwn_bind (wpOwn_stackTailAny hg (tupGuardF_off _) (tupGuardF_pos _) ?_)
  refine wpOwn_of_wpAny ?_
  refine PySem.W.KFB.if_so hr ?_
  refine wpAny_bind (wpAny_rule ?_)
  exact wpAny_bind (wpAny_mkStr (wpAny_pure hQ) (by decide +kernel))
/-- {} -/
theorem rep_dict {n : Nat} {Q : Value → Shared → Prop} (hg : A.guards = some g) (ha : s.heap.get? a = some o) (hc : o.cls = .type "dict") (hd : o.data = .dict #[] n) (hsys : (a == sysModules) = false)
    (hQ : Q (.str (if runs (dictGuardF (.ref a)) g then "{...}" else "{}") s.toks) { s with toks := s.toks + 1 }) : wpAny (model prog w) A (call (.builtin "dict.__repr__") [.ref a]) Q E s := by
  refine wpAny_call (codeAny_call_builtin_own (Code.quiet_builtin _ (by decide +kernel)) F.entry_dict_repr (F.slot_dict_repr.check _ _ _ _ _ _ _ _ ⟨o, ha, hc⟩ (F.args_dict_repr_1 _) ?_))
  show wpOwn _ _ _ (Builtin.dictReprAt 0 ⟨[.ref a], []⟩) _ _ s
  unfold Builtin.dictReprAt
  refine wpOwn_bind (wpOwn_of_wpAny ?_)
  unfold Builtin.Dict.dictSlotNone
  refine wpAny_bind (wpAny_notOrdered_dict ⟨o, ha, hc⟩ ?_)
  show wpAny _ _ (pure (Value.ref a)) _ _ s
  refine wpAny_pure ?_
  rw [dictReprRunning_eq]
  refine wpOwn_bind (wpOwn_stackTailAny hg (dictGuardF_off _) (dictGuardF_pos _) ?_)
  refine wpOwn_of_wpAny ?_
  show wpAny _ _ (if runs (dictGuardF (.ref a)) g = true then _ else _) _ _ s
  cases hr : runs (dictGuardF (.ref a)) g with
  | true =>
    rw [hr] at hQ
    rw [if_pos rfl]
    refine wpAny_bind (wpAny_rule ?_)
    exact wpAny_bind (wpAny_mkStr (wpAny_pure hQ) (by decide +kernel))
  | false =>
    rw [hr] at hQ
    rw [if_neg Bool.false_ne_true]
    show wpAny _ _ (Builtin.Dict.addrOf (.ref a) >>= _) _ _ s
    refine wpAny_bind (wpAny_pure ?_)
    show wpAny _ _ (Builtin.Dict.showsAll a >>= _) _ _ s
    unfold Builtin.Dict.showsAll
    rw [if_neg (by rw [hsys]; exact Bool.false_ne_true)]
    refine wpAny_bind (wpAny_pure ?_)
    refine wpAny_bind (wpAny_dictEpoch ha hd ?_)
    refine wpAny_bind (wpAny_dictEntries ha hd ?_)
    refine wpAny_bind ?_
    rw [Std.Legacy.Range.forIn_eq_forIn_range']
    refine wpAny_pure ?_
    exact wpAny_bind (wpAny_mkStr (wpAny_pure hQ) (by decide +kernel))
end
/-- what repr tells of x, by the guards -/
inductive RepIs : Hp → V → (List Code → Str) → Prop
  | str {H : Hp} {z : Str} (h : (reprText z).length ≤ sizeLine) : RepIs H (.str z) fun _ => reprText z
  | int {H : Hp} {i : Int} (h : i.natAbs.log2 < 1920) : RepIs H (.int i) fun _ => toString i
  | bl {H : Hp} {b : Bool} : RepIs H (.bl b) fun _ => if b then "True" else "False"
  | non {H : Hp} : RepIs H .non fun _ => "None"
  | lst {H : Hp} {a : Addr} {z : Str} (h : H a = some (.lst [.str z])) (hz : (listText [reprText z]).length ≤ sizeLine) (hz2 : (reprText z).length ≤ sizeLine) : RepIs H (.ref a) fun g => if runs (onL a) g then "[...]" else listText [reprText z]
  | tup {H : Hp} {a : Addr} (h : H a = some (.tup [])) : RepIs H (.ref a) fun g => if runs (tupGuardF (.ref a)) g then "(...)" else tupleText []
  | dct {H : Hp} {a : Addr} (h : H a = some (.dK [])) : RepIs H (.ref a) fun g => if runs (dictGuardF (.ref a)) g then "{...}" else "{}"
theorem RepIs.mono {H H' : Hp} {x : V} {f : List Code → Str} (e : Same H H') (h : RepIs H x f) : RepIs H' x f := by
  cases h with
  | str h => exact .str h
  | int h => exact .int h
  | bl => exact .bl
  | non => exact .non
  | lst h h1 h2 => exact .lst (e _ _ h) h1 h2
  | tup h => exact .tup (e _ _ h)
  | dct h => exact .dct (e _ _ h)
def rRep (g : List Code) : List V → Hp → VK → Prop := fun xs H Q => ∃ (x : V) (f : List Code → Str), xs = [x] ∧ RepIs H x f ∧ Q (.str (f g)) H
theorem call_rep {X : Cx} {g : List Code} (hg : X.A.guards = some g) (hu : X.A.units + 64 < cLine) : CallR X (.builtin "repr") (rRep g) := by
  intro pins s σ H xs us Q I r h
  obtain ⟨x, f, rfl, ri, q⟩ := h
  obtain ⟨u, rfl, t⟩ := vals1 r
  cases ri with
  | str hz =>
    obtain ⟨t, rfl⟩ := t
    exact PySem.P.repr_of_str ⟨.str _, H, I.tok _, ⟨_, rfl⟩, q⟩ hz
  | int hz =>
    obtain ⟨t, rfl⟩ := t
    exact PySem.P.repr_of_int hz ⟨.str _, H, I.tok _, ⟨_, rfl⟩, q⟩
  | bl =>
    cases t
    exact PySem.P.repr_of_bool ⟨.str _, H, I.tok _, ⟨_, rfl⟩, q⟩
  | non =>
    cases t
    exact PySem.P.repr_of_none ⟨.str _, H, I.tok _, ⟨_, rfl⟩, q⟩
  | lst e hz hz2 =>
    rename_i a z
    cases t
    replace q : Q (.str (if runs (onL a) g then "[...]" else listText [reprText z])) H := q
    obtain ⟨its, r', pl, _⟩ := I.list (SqL.of e)
    obtain ⟨v, rfl, t, rfl⟩ := vals1 r'
    obtain ⟨o, ho, hc, n, hd⟩ := pl.isList
    refine call_repr_slot (T := "list") (idr := "list.__repr__") (by omega) ⟨o, ho, hc⟩ F.slot_list_repr.toG ?_
    cases hr : runs (onL a) g with
    | true =>
      rw [hr] at q
      exact rep_list_on hg hr ho hc hd ⟨_, _, rfl, .str _, H, I.tok _, ⟨_, rfl⟩, q⟩
    | false =>
      rw [hr] at q
      refine call_list_repr ⟨o, ho, hc⟩ hg (fun v rest kw hm => runs_no hr _ hm) ho hd (ts := [reprText z]) (by rfl) (fun i y hy => ?_) (fun h' u tk hk => ⟨_, _, rfl, .str _, H, I.kept (t' := tk) hk, ⟨_, rfl⟩, q⟩) hz
      cases i with
      | zero =>
        obtain rfl : Value.str z t = y := Option.some.inj hy
        exact ⟨_, rfl, ReprIs.str z t hz2⟩
      | succ i => simp at hy
  | tup e =>
    rename_i a
    cases t
    replace q : Q (.str (if runs (tupGuardF (.ref a)) g then "(...)" else tupleText [])) H := q
    obtain ⟨its, r', ⟨o, ho, hc, n, hd⟩, _⟩ := I.tuple (SqT.of e)
    cases r'
    refine call_repr_slot (T := "tuple") (idr := "tuple.__repr__") (by omega) ⟨o, ho, hc⟩ F.slot_tuple_repr ?_
    cases hr : runs (tupGuardF (.ref a)) g with
    | true =>
      rw [hr] at q
      exact rep_tup_on hg hr ho hc hd ⟨_, _, rfl, .str _, H, I.tok _, ⟨_, rfl⟩, q⟩
    | false =>
      rw [hr] at q
      exact call_tuple_repr ⟨o, ho, hc⟩ hg (runs_no hr) ho hd (ts := []) .nil (fun u tk => ⟨_, _, rfl, .str _, H, I.tok _, ⟨_, rfl⟩, q⟩) (by decide +kernel)
  | dct e =>
    rename_i a
    cases t
    obtain ⟨_, hsys, vs, kv, o, es, ep, ho, hx, hd, _, hp, _⟩ := dk_of I.hok e
    cases kv
    obtain ⟨es⟩ := es
    cases hp
    refine call_repr_slot (T := "dict") (idr := "dict.__repr__") (by omega) ⟨o, ho, hx.1⟩ F.slot_dict_repr ?_
    refine rep_dict hg ho hx.1 hd hsys ⟨_, _, rfl, .str _, H, I.tok _, ⟨_, rfl⟩, q⟩

/-! ## a def's promise where the guards are known -/
structure FnG (P : Program) (w : World) (K : PySem.W.Frag) (mg : Str → Option Value) (base : Heap) (k : Nat) (f : Addr) (fd : FuncData) (ps : List Str) (sp : Sp) (g : List Code) : Prop where
  len : ∀ vs H Q E, sp vs H Q E → vs.length = ps.length
  run : ∀ (A : Around) (outer : List Env) (s : Shared) (H : Hp) (args : Args) (us : List Value) (vs : List V) (Q : VK) (E : XK), A.guards = some g → Room k A → Env0 P w K mg base A outer s H → BindsTo s fd args (ps.zip us) → Vals vs us → sp vs H Q E →
    codeAny (model P w) A (.call (.ref f) args) (CR CX0 outer P w H s Q E) s
section
variable {P : Program} {w : World} {K : PySem.W.Frag} {mg : Str → Option Value} {base : Heap}
/-- whatever the guards are, they are some -/
theorem FnG.all {k : Nat} {f : Addr} {fd : FuncData} {ps : List Str} {sp : Sp} (h : ∀ g, FnG P w K mg base k f fd ps sp g) : FnOk P w K mg base CX0 k f fd ps sp := by
  refine ⟨(h []).len, fun A outer s H args us vs Q E hr e0 hb hv hs => fun Γ p hc hΓ => ?_⟩
  refine (h (guardsOf Γ.below)).run { A with guards := some (guardsOf Γ.below) } outer s H args us vs Q E rfl ⟨hr.hd, hr.dp, hr.un⟩ ⟨e0.frames, e0.mod, e0.bs, e0.bsz, e0.funs, e0.frf, e0.hok, e0.bare⟩ hb hv hs Γ p hc ?_
  exact ⟨hΓ.1, hΓ.2.1, hΓ.2.2.1, fun g hg => Option.some.inj hg, hΓ.2.2.2.2⟩
theorem okG {x qual : Str} {st : Stmt} {f : Addr} {fd : FuncData} {N ps : List Str} {k : Nat} {sp : Sp} {g : List Code} (F : Fun K x qual st f fd) (S : FnScope N ps (defScope st)) (len : ∀ vs H Q E, sp vs H Q E → vs.length = ps.length)
    (hbody : ∀ (cdv : Value) (A : Around) (outer : List Env) (s : Shared) (H : Hp) (vs : List V) (Q : VK) (E : XK), A.guards = some g → Room k (A.deeper (envOfC qual (defScope st) s.heap.objs.size f cdv)) → sp vs H Q E →
      ∃ t, PSs (cxOf CX0 P w K mg base N qual (defScope st) f cdv A outer s H E).nox (defBody st) t ∧ t { nx := fun _ H' => Q .non H', rt := Q } (start N vs) H) : FnG P w K mg base (k + 1) f fd ps sp g := by
  obtain ⟨oc, od, kV, doc, pm, an, cdv, ct, osl, rfl, lk, hcd⟩ := F.ex
  refine ⟨len, fun A outer s H args us vs Q E hg hr e0 hb r hsp => ?_⟩
  have kb : ∀ b o, base.get? b = some o → s.heap.get? b = some o := fun b o e => (e0.bs b o e).1
  refine Att.call_fn (e0.mod.kin.keeps kb) (e0.mod.nolimit.keeps kb) lk hcd hr.depth hb ?_ (fun s1 x => ?_) S.co S.gen S.kind
  · refine List.all_eq_true.mpr fun ⟨n, v⟩ hy => ?_
    rcases S.par n (List.of_mem_zip hy).1 with q | q <;> rw [q] <;> rfl
  · obtain ⟨t, ht, hq⟩ := hbody cdv A outer s H vs Q E hg (hr.deeper _) hsp
    refine wpAny_mono (ht.nox.run [] s1 _ H _ (inv_start S hr.hd e0 (len _ _ _ _ hsp) r x) hq) (fun fl s' hs => ?_) fun e s' hs => hs
    cases fl with
    | ret u =>
      obtain ⟨v, σ', H', J, rv, q⟩ := hs
      exact ⟨v, H', J.os, J.bare, J.base, J.hok, rv, q⟩
    | next =>
      obtain ⟨σ', H', J, q⟩ := hs
      exact ⟨.non, H', J.os, J.bare, J.base, J.hok, rfl, q⟩
    | brk =>
      obtain ⟨_, _, _, q⟩ := hs
      exact q.elim
    | cont =>
      obtain ⟨_, _, _, q⟩ := hs
      exact q.elim
end
section
variable {X : Cx} {k : Nat} {f : Addr} {fd : FuncData} {ps : List Str} {sp : Sp} {x : Str} {p pos : Pos} {e : Expr} {es : List Expr} {t : TA} {g : List Code}
theorem pe_callG (F : FnG X.prog X.w X.K X.mg X.base k f fd ps sp g) (hgd : X.A.guards = some g) (hr : Room k X.A) (hg : Gl X x) (hm : X.mg x = some (.ref f)) (hk : PySem.W.keepIn X.K (.ref f) = true) (hb : Binds X.K fd ps [])
    (ha : PA X (e :: es) t) (hdb : (x == ("__debug__" : Str)) = false := by decide) (he : starEach (e :: es) X.env = (false, eval e X.env) :: starEach es X.env := by rfl) (hpl : (backTo pos (starEach es X.env)).any (·.1) = false := by rfl) :
    PE X (.Call (.Name x p) (e :: es) [] pos) (tCall sp [] E0 t) := by
  refine ⟨fun pins s σ H Q I h => ?_⟩
  refine wpAny_Call_Name_kw (ld_glob I hg hm ?_ hdb)
  refine PySem.W.callWith_K (h₀ := X.base) I.ok.mod.kin hk (thn (ha.run pos pins s σ H _ I h) fun us s1 ⟨vs, H1, I1, r, q⟩ => ⟨I1.kIn, ?_⟩) he hpl
  have q' : sp vs H1 Q E0 := by
    rw [← List.append_nil vs]
    exact q
  refine wpAny_call (codeAny_mono (F.run X.A X.stack s1 H1 ⟨us, []⟩ us vs Q E0 hgd hr I1.env0 ?_ r q') fun z s' hq => ?_)
  · have b := hb s1 us I1.kIn (by rw [List.append_nil, ← r.length]; exact F.len _ _ _ _ q')
    rw [List.append_nil] at b
    exact b
  · cases z with
    | error e => exact hq.elim
    | ok fl =>
      cases fl with
      | ret u => exact I1.after hq
      | next => exact hq.elim
      | brk => exact hq.elim
      | cont => exact hq.elim
end
end Ow
namespace Ow
open PySem PySem.Spec PyProof.Rows L2 Builtin.Str PyData
/-! ## texts: n times, the first n signs -/
theorem fold_cat (l : List (Array Nat)) : ∀ a : Array Nat, (l.foldl (· ++ ·) a).toList = a.toList ++ (l.map Array.toList).flatten := by
  induction l with
  | nil => intro a; simp
  | cons b r ih =>
    intro a
    rw [List.foldl_cons, ih, Array.toList_append, List.map_cons, List.flatten_cons, List.append_assoc]
theorem mul_list {z : Str} {n : Nat} (hn : 2 ≤ n) (hz : 0 < z.length) : (Txt.mul z (n : Int)).cps.toList = (List.replicate n z.cps.toList).flatten := by
  unfold Txt.mul
  have e2 : ((n : Int) == 1 || z.length == 0) = false := by
    rw [Bool.or_eq_false_iff]
    exact ⟨beq_false_of_ne (by omega), beq_false_of_ne (by omega)⟩
  rw [if_neg (by omega), e2, if_neg Bool.false_ne_true, Int.toNat_natCast]
  show ((List.replicate n z.cps).foldl (· ++ ·) #[]).toList = _
  rw [fold_cat, List.map_replicate]
  rfl
theorem mul_len {z : Str} {n : Nat} (hn : 2 ≤ n) (hz : 0 < z.length) : (Txt.mul z (n : Int)).length = n * z.length := by
  have e : (Txt.mul z (n : Int)).cps.toList.length = n * z.cps.toList.length := by
    rw [mul_list hn hz, List.length_flatten, List.map_replicate, List.sum_replicate_nat]
  rw [Array.length_toList, Array.length_toList] at e
  exact e
theorem mul_mem {z : Str} {n c : Nat} (hn : 2 ≤ n) (hz : 0 < z.length) (h : c ∈ (Txt.mul z (n : Int)).cps.toList) : c ∈ z.cps.toList := by
  rw [mul_list hn hz] at h
  obtain ⟨l, hl, hc⟩ := List.mem_flatten.mp h
  rw [(List.mem_replicate.mp hl).2] at hc
  exact hc
theorem cutS_mem {z : Str} {lo hi : Option Int} {c : Nat} (h : c ∈ (cutS z lo hi).cps.toList) : c ∈ z.cps.toList := by
  unfold cutS at h
  exact List.mem_of_mem_drop (List.mem_of_mem_take h)
theorem cutS_len {z : Str} {n : Nat} (h : n ≤ z.length) : (cutS z none (some (n : Int))).length = n := by
  show ((z.cps.toList.drop (HT.sIx z.length 0 none)).take (HT.sIx z.length z.length (some (n : Int)) - HT.sIx z.length 0 none)).toArray.size = n
  have ez : z.cps.toList.length = z.length := Array.length_toList
  rw [HT.sIx_nat, HT.sIx_none, List.drop_zero, Nat.sub_zero, List.size_toArray, List.length_take, ez]
  omega
section
variable {X : Cx}
theorem op_mulStr : OpR X (binaryOp .Mult) (fun x y H Q => ∃ (z : Str) (n : Nat), x = .str z ∧ y = .int (n : Int) ∧ 2 ≤ n ∧ n ≤ 100000 ∧ 0 < z.length ∧ z.length ≤ 100 ∧ Q (.str (Txt.mul z (n : Int))) H) := by
  intro pins s σ H x y v u Q I rx ry h
  obtain ⟨z, n, rfl, rfl, h2, h3, h0, h1, q⟩ := h
  obtain ⟨t, rfl⟩ := rx
  obtain ⟨t', rfl⟩ := ry
  have hb : z.length * n ≤ 10000000 := Nat.le_trans (Nat.mul_le_mul h1 h3) (by decide)
  refine SB.mul ⟨?_, fun _ _ => ?_, fun _ _ => ?_⟩ fun t' k => ⟨.str _, H, I.tok _, ⟨_, rfl⟩, q⟩
  · rw [Bool.or_eq_false_iff]
    exact ⟨decide_eq_false (by omega), decide_eq_false (by omega)⟩
  · have h5 : (92233720368547 : Int) ≤ (2 ^ 63 - 1) / (n : Int) := by
      refine (Int.le_ediv_iff_mul_le (by omega)).mpr ?_
      omega
    omega
  · show decide (z.length * ((n : Int)).toNat > sizeLine) = false
    rw [Int.toNat_natCast]
    exact decide_eq_false (Nat.not_lt.mpr (Nat.le_trans hb (by decide)))
end
/-! ## the text of repr is a text -/
theorem reprChar_ok (q c : Nat) (hc : c < 1114112) : ∀ d ∈ reprChar q c, d < 1114112 := by
  have hx : ∀ (n : Nat), ∀ d ∈ List.replicate (n - ((Nat.toDigits 16 c).map Char.toNat).length) 48 ++ (Nat.toDigits 16 c).map Char.toNat, d < 1114112 := fun n d hd => by
    rcases List.mem_append.mp hd with hd | hd
    · rw [(List.mem_replicate.mp hd).2]
      decide
    · obtain ⟨e, _, rfl⟩ := List.mem_map.mp hd
      have v := e.valid
      rcases v with v | ⟨_, v⟩
      · exact Nat.lt_trans v (by decide)
      · exact v
  unfold reprChar
  dsimp only
  repeat' split
  all_goals intro d hd
  all_goals first
    | (rcases List.mem_append.mp hd with hd | hd
       · simp at hd; omega
       · exact hx _ d hd)
    | (simp at hd; omega)
theorem fold_ok (q : Nat) : ∀ (l : List Nat) (acc : Array Nat), (∀ c ∈ l, c < 1114112) → (∀ c ∈ acc.toList, c < 1114112) → ∀ c ∈ (l.foldl (fun out c => out ++ (reprChar q c).toArray) acc).toList, c < 1114112
  | [], acc, _, h => h
  | c :: r, acc, hl, h => by
    rw [List.foldl_cons]
    refine fold_ok q r _ (fun d hd => hl d (List.mem_cons_of_mem _ hd)) fun d hd => ?_
    rw [Array.toList_append] at hd
    rcases List.mem_append.mp hd with hd | hd
    · exact h d hd
    · exact reprChar_ok q c (hl c List.mem_cons_self) d hd
theorem quote_ok (x : Str) : reprQuote x < 1114112 := by
  unfold reprQuote
  split <;> decide
theorem strOk_repr {x : Str} (h : ∀ c ∈ x.cps.toList, c < 128) : strOk (reprText x) = true := by
  show Array.all _ _ = true
  rw [← Array.all_toList]
  refine List.all_eq_true.mpr fun d hd => ?_
  unfold reprText at hd
  have hd' : d ∈ ((x.cps.foldl (fun out c => out ++ (reprChar (reprQuote x) c).toArray) #[reprQuote x]).push (reprQuote x)).toList := hd
  rw [Array.toList_push, ← Array.foldl_toList] at hd'
  refine decide_eq_true ?_
  rcases List.mem_append.mp hd' with hd' | hd'
  · refine fold_ok _ _ _ (fun c hc => Nat.lt_trans (h c hc) (by decide)) (fun c hc => ?_) d hd'
    rw [List.mem_singleton.mp (show c ∈ [reprQuote x] from hc)]
    exact quote_ok x
  · rw [List.mem_singleton.mp hd']
    exact quote_ok x
/-- what repr tells, and that it is a text -/
structure Rp (H : Hp) (x : V) (f : List Code → Str) : Prop where
  is : RepIs H x f
  ok : ∀ g, strOk (f g) = true
theorem Rp.mono {H H' : Hp} {x : V} {f : List Code → Str} (e : Same H H') (h : Rp H x f) : Rp H' x f := ⟨h.is.mono e, h.ok⟩
def Asc (z : Str) : Prop := ∀ c ∈ z.cps.toList, c < 128
instance (z : Str) : Decidable (Asc z) := inferInstanceAs (Decidable (∀ c ∈ z.cps.toList, c < 128))
theorem asc_len {z : Str} (h : Asc z) (hl : z.length ≤ 100000) : (reprText z).length ≤ 1000002 := by
  have := StrLaws.reprText_len z fun c hc => Nat.lt_trans (h c hc) (by decide)
  omega
theorem Rp.str {H : Hp} {z : Str} (h : Asc z) (hl : z.length ≤ 100000) : Rp H (.str z) fun _ => reprText z :=
  ⟨.str (Nat.le_trans (asc_len h hl) (by decide)), fun _ => strOk_repr h⟩
theorem Rp.non {H : Hp} : Rp H .non fun _ => "None" := ⟨.non, fun _ => by decide +kernel⟩
theorem Rp.bl {H : Hp} {b : Bool} : Rp H (.bl b) fun _ => if b then "True" else "False" := ⟨.bl, fun _ => by cases b <;> decide +kernel⟩
theorem Rp.int {H : Hp} {i : Int} (h : i.natAbs.log2 < 1920) (ok : strOk (toString i) = true) : Rp H (.int i) fun _ => toString i := ⟨.int h, fun _ => ok⟩
theorem Rp.tup {H : Hp} {a : Addr} (h : H a = some (.tup [])) : Rp H (.ref a) fun g => if runs (tupGuardF (.ref a)) g then "(...)" else tupleText [] :=
  ⟨.tup h, fun g => by
    cases runs (tupGuardF (.ref a)) g <;> decide +kernel⟩
theorem Rp.dct {H : Hp} {a : Addr} (h : H a = some (.dK [])) : Rp H (.ref a) fun g => if runs (dictGuardF (.ref a)) g then "{...}" else "{}" :=
  ⟨.dct h, fun g => by
    cases runs (dictGuardF (.ref a)) g <;> decide +kernel⟩
theorem Rp.lst {H : Hp} {a : Addr} {z : Str} (h : H a = some (.lst [.str z])) (hz : Asc z) (hl : z.length ≤ 100000) (ok : strOk (listText [reprText z]) = true) (hb : (listText [reprText z]).length ≤ sizeLine) :
    Rp H (.ref a) fun g => if runs (onL a) g then "[...]" else listText [reprText z] :=
  ⟨.lst h hb (Nat.le_trans (asc_len hz hl) (by decide)), fun g => by
    cases runs (onL a) g
    · exact ok
    · exact (by decide +kernel : strOk ("[...]" : Str) = true)⟩
/-! ## lists of texts, pairs of texts, compared -/
theorem dp_strs {K : PySem.W.Frag} {H : Hp} : ∀ l : List Str, DpAll K H (l.map V.str) (l.map PyData.str)
  | [] => .nil
  | z :: r => .cons (.str z) (dp_strs r)
theorem can_strs : ∀ l : List Str, (∀ z ∈ l, Asc z) → PyData.canLayAll0 (l.map PyData.str) = true
  | [], _ => by simp [PyData.canLayAll0]
  | z :: r, h => by
    have h1 : strOk z = true := by
      show Array.all _ _ = true
      rw [← Array.all_toList]
      exact List.all_eq_true.mpr fun d hd => decide_eq_true (Nat.lt_trans (h z List.mem_cons_self d hd) (by decide))
    rw [List.map_cons]
    simp [PyData.canLayAll0, PyData.canLay0, h1, can_strs r fun y hy => h y (List.mem_cons_of_mem _ hy)]
theorem dep_strs : ∀ l : List Str, PyData.depthAll (l.map PyData.str) = 0
  | [] => by simp [PyData.depthAll]
  | z :: r => by
    rw [List.map_cons]
    simp [PyData.depthAll, PyData.depth, dep_strs r]
theorem shaped_strs {l : List Str} (h : ∀ z ∈ l, Asc z) : SeqAt.shaped (.list (l.map PyData.str)) = true := by
  unfold SeqAt.shaped
  rw [Bool.and_eq_true]
  refine ⟨by rw [PyData.canLay0]; exact can_strs l h, decide_eq_true ?_⟩
  rw [PyData.depth, dep_strs]
  decide
theorem eqv_strs {l : List Str} (h : ∀ z ∈ l, Asc z) : PyData.eqv (.list (l.map PyData.str)) (.list (l.map PyData.str)) = true :=
  SeqAt.eqv_refl _ (SeqAt.canLay_of_shaped (shaped_strs h))
theorem shaped_pair {a b : Str} (ha : strOk a = true) (hb : strOk b = true) : SeqAt.shaped (.tuple [.str a, .str b]) = true := by
  unfold SeqAt.shaped
  rw [Bool.and_eq_true]
  refine ⟨by simp [PyData.canLay0, PyData.canLayAll0, ha, hb], decide_eq_true ?_⟩
  simp [PyData.depth, PyData.depthAll]
theorem eqv_pair {a b : Str} (ha : strOk a = true) (hb : strOk b = true) : PyData.eqv (.tuple [.str a, .str b]) (.tuple [.str a, .str b]) = true :=
  SeqAt.eqv_refl _ (SeqAt.canLay_of_shaped (shaped_pair ha hb))
theorem dp_pair {K : PySem.W.Frag} {H : Hp} {p : Addr} {a b : Str} (h : H p = some (.tup [.str a, .str b])) : Dp K H (.ref p) (.tuple [.str a, .str b]) :=
  .tup (SqT.of h) (.cons (.str a) (.cons (.str b) .nil))
end Ow

/-! ## own classes: len, == and a call of the instance; a maker that may raise -/
namespace Ow
open PySem PySem.Spec PyProof.Rows L2
section
variable {X : Cx} {CX : CXT} {k : Nat} {f C : Addr} {fd : FuncData} {ps : List Str} {sp : Sp} {E : XK} {pins : List (Addr × Obj)} {σ : L2.St} {H : Hp} {s : Shared}
/-- a def called by its value, deeper in a built-in -/
theorem code_at {A : Around} {Q : VK} {us : List Value} {vs : List V} (F : FnOk X.prog X.w X.K X.mg X.base CX k f fd ps sp) (fr : A.frames = X.A.frames) (hr : Room k A) (hb : Binds X.K fd ps []) (hx : PassesAt CX X σ E) (I : Inv X pins σ H s) (r : Vals vs us) (h : sp vs H Q E) :
    codeAny (model X.prog X.w) A (.call (.ref f) ⟨us, []⟩) (fun r s' => match r with | .ok (.ret v) => EP X pins σ Q v s' | .ok _ => False | .error e => X.xe e s') s := by
  have e0 : Env0 X.prog X.w X.K X.mg X.base A X.stack s H := by
    have e := I.env0
    exact ⟨by rw [fr]; exact e.frames, e.mod, e.bs, e.bsz, e.funs, e.frf, e.hok, e.bare⟩
  refine codeAny_mono (F.run A X.stack s H ⟨us, []⟩ us vs Q E hr e0 ?_ r h) fun z s' hq => ?_
  · have b := hb s us I.kIn (by rw [List.append_nil, ← r.length]; exact F.len _ _ _ _ h)
    rw [List.append_nil] at b
    exact b
  · cases z with
    | error e => exact hx pins H s e s' I hq
    | ok fl =>
      cases fl with
      | ret u => exact I.after hq
      | next => exact hq.elim
      | brk => exact hq.elim
      | cont => exact hq.elim
theorem run_at {A : Around} {Q : VK} {us : List Value} {vs : List V} (F : FnOk X.prog X.w X.K X.mg X.base CX k f fd ps sp) (fr : A.frames = X.A.frames) (hr : Room k A) (hb : Binds X.K fd ps []) (hx : PassesAt CX X σ E) (I : Inv X pins σ H s) (r : Vals vs us) (h : sp vs H Q E) :
    wpAny (model X.prog X.w) A (call (.ref f) us) (EP X pins σ Q) X.xe s := wpAny_call (code_at F fr hr hb hx I r h)
/-- len(x) of an instance of the class at C with the text's own __len__ -/
def rLenO (C : Addr) (sp : Sp) (E : XK) : List V → Hp → VK → Prop := fun xs H Q => ∃ (a dx : Addr) (fs : List (Str × V)), xs = [.ref a] ∧ H a = some (.ins C dx fs) ∧ sp [.ref a] H (fun v H' => ∃ n : Nat, v = .int (n : Int) ∧ n < 2 ^ 62 ∧ Q (.int (n : Int)) H') E
theorem call_lenO (F : FnOk X.prog X.w X.K X.mg X.base CX k f fd ps sp) (hr : Room (k + 1) X.A) (hs : PySem.W.findIn X.K (.ref C) "__len__" = some (some (.ref f))) (hf : PySem.W.isFn X.K (.ref f) = true) (hb : Binds X.K fd ps []) (hx : Passes CX X E) :
    CallR X (.builtin "len") (rLenO C sp E) := by
  intro pins s σ H xs us Q I r h
  obtain ⟨a, dx, fs, rfl, ea, h⟩ := h
  obtain ⟨u, rfl, rx⟩ := vals1 r
  cases rx
  obtain ⟨mA, J, _⟩ := ins_get I.hok ea
  obtain ⟨od, J, _⟩ := J.look
  obtain ⟨m, hF⟩ := I.fr
  refine PySem.W.len_K hF I.ok.mod.kin J hs hf (wpAny_mono (run_at F rfl hr.in1 hb (fun p H s e s' I => hx p σ H s e s' I) I (vs := [.ref a]) (.cons rfl .nil) h) (fun v s' hv => ?_) fun _ _ z => z)
  obtain ⟨x, H', I', rx, n, rfl, hn, q⟩ := hv
  obtain ⟨t, rfl⟩ := rx
  exact ⟨⟨by omega, by omega⟩, .int _, H', I'.tok _, ⟨_, rfl⟩, q⟩
/-- x == y, x an instance of the class at C with the text's own __eq__, y anything of a kind t that is no subclass of C -/
def rEqO (K : PySem.W.Frag) (C : Addr) (sp : Sp) (E : XK) : R2 := fun x y H Q => ∃ (a dx : Addr) (fs : List (Str × V)) (t : Value), x = .ref a ∧ H a = some (.ins C dx fs) ∧ TyX K H y t ∧ PySem.W.notFirst K C t = true ∧
  sp [x, y] H (fun v H' => ∃ b : Bool, v = .bl b ∧ Q (.bl b) H') E
theorem op_eqO (F : FnOk X.prog X.w X.K X.mg X.base CX k f fd ps sp) (hr : Room k X.A) (hs : PySem.W.findIn X.K (.ref C) "__eq__" = some (some (.ref f))) (hf : PySem.W.isFn X.K (.ref f) = true) (hb : Binds X.K fd ps []) (hx : Passes CX X E) :
    OpR X (compareOp .Eq) (rEqO X.K C sp E) := by
  intro pins s σ H x y v u Q I rx ry h
  obtain ⟨a, dx, fs, t, rfl, ea, ty, hn, h⟩ := h
  cases rx
  obtain ⟨mA, J, _⟩ := ins_get I.hok ea
  obtain ⟨od, J, _⟩ := J.look
  obtain ⟨m, hF⟩ := I.fr
  obtain ⟨P, kt, hP, _⟩ := kit_of I ry ty
  show wpAny (model X.prog X.w) X.A (richCompare .Eq (.ref a) u) (EP X pins σ Q) X.xe s
  refine PySem.W.cmp_K (op := .Eq) (tb := t) hr.units0 hF I.ok.mod.kin J (kt.ty _ _ I.kIn hP) hn hs hf (wpAny_mono (run_at F rfl hr hb (fun p H s e s' I => hx p σ H s e s' I) I (vs := [.ref a, y]) (.cons rfl (.cons ry .nil)) h) (fun w s' hw => ?_) fun _ _ z => z)
  obtain ⟨x, H', I', rx, b, rfl, q⟩ := hw
  cases rx
  exact ⟨.bl b, H', I', rfl, q⟩
/-- C(..), what leaves its __init__ told by the slots (for a try) -/
theorem run_makeS {Q : VK} {us : List Value} {vs : List V} (M : Mk X.K C f) (F : FnOk X.prog X.w X.K X.mg X.base CX k f fd ps sp) (hr : Room (k + 1) X.A) (hb : Binds X.K fd ps []) (hx : PassesAt CX X σ E) (I : Inv X pins σ H s) (r : Vals vs us)
    (h : ∀ x dx, H x = none → H dx = none → dx ≠ x → sp (.ref x :: vs) (upd (upd H dx (.own x)) x (.ins C dx [])) (fun v H2 => v = .non ∧ Q (.ref x) H2) E) :
    wpAny (model X.prog X.w) X.A (call (.ref C) us) (EP X pins σ Q) X.xe s := by
  have hq := h (s.heap.objs.size + 1) s.heap.objs.size (I.hok.fresh (Nat.le_succ _)) (I.hok.fresh (Nat.le_refl _)) (Nat.ne_of_lt (Nat.lt_succ_self _))
  have I2 := Inv.made (C := C) I
  have r2 : Vals (V.ref (s.heap.objs.size + 1) :: vs) (Value.ref (s.heap.objs.size + 1) :: us) := .cons rfl r
  have hl : (Value.ref (s.heap.objs.size + 1) :: us ++ []).length = ps.length := by
    rw [List.append_nil, ← r2.length]
    exact F.len _ _ _ _ hq
  have hbd := hb _ (Value.ref (s.heap.objs.size + 1) :: us) I2.kIn hl
  rw [List.append_nil] at hbd
  refine wpAny_call (make_map (f := f) I.kIn M.makes M.init (beq_iff_eq.mp M.fn) (codeAny_mono (F.run _ X.stack _ _ ⟨Value.ref (s.heap.objs.size + 1) :: us, []⟩ _ _ _ E (hr.make C us []) (I2.env0.make C us []) hbd r2 hq) fun z s' hz => ?_))
  cases z with
  | error e => exact hx pins _ _ e s' I2 hz
  | ok fl =>
    cases fl with
    | ret u =>
      obtain ⟨v, H', I3, rv, ev, q3⟩ := I2.after hz
      subst ev
      exact ⟨rv, ⟨V.ref (s.heap.objs.size + 1), H', I3, rfl, q3⟩⟩
    | next => exact hz.elim
    | brk => exact hz.elim
    | cont => exact hz.elim
def tMakeS (C : Addr) (sp : Sp) (E : L2.St → XK) (t : TA) : TE := fun σ H Q => t σ H fun vs H1 => ∀ x dx, H1 x = none → H1 dx = none → dx ≠ x →
  sp (.ref x :: vs) (upd (upd H1 dx (.own x)) x (.ins C dx [])) (fun v H2 => v = .non ∧ Q (.ref x) H2) (E σ)
theorem pe_makeS {E : L2.St → XK} {x : Str} {p pos : Pos} {e : Expr} {es : List Expr} {t : TA} (M : Mk X.K C f) (F : FnOk X.prog X.w X.K X.mg X.base CX k f fd ps sp) (hr : Room (k + 1) X.A) (hg : Gl X x) (hm : X.mg x = some (.ref C)) (hb : Binds X.K fd ps []) (hx : ∀ σ, PassesAt CX X σ (E σ))
    (ha : PA X (e :: es) t) (hdb : (x == ("__debug__" : Str)) = false := by decide) (he : starEach (e :: es) X.env = (false, eval e X.env) :: starEach es X.env := by rfl) (hpl : (backTo pos (starEach es X.env)).any (·.1) = false := by rfl) :
    PE X (.Call (.Name x p) (e :: es) [] pos) (tMakeS C sp E t) := by
  refine ⟨fun pins s σ H Q I h => ?_⟩
  refine wpAny_Call_Name_kw (ld_glob I hg hm ?_ hdb)
  refine PySem.W.callWith_K (h₀ := X.base) I.ok.mod.kin M.kp (thn (ha.run pos pins s σ H _ I h) fun us s1 ⟨vs, H1, I1, r, q⟩ => ⟨I1.kIn, ?_⟩) he hpl
  exact run_makeS M F hr hb (hx σ) I1 r q
/-- o.m(..), what leaves the method told by the slots -/
def tMethS (C : Addr) (m : Str) (sp : Sp) (E : L2.St → XK) (ta : TE) (t : TA) : TE := fun σ H Q => ta σ H fun x H1 => ∃ a dx fs, x = .ref a ∧ H1 a = some (.ins C dx fs) ∧ fs.lookup m = none ∧ t σ H1 fun vs H2 => sp (x :: vs) H2 Q (E σ)
theorem pe_methX {E : L2.St → XK} {o e : Expr} {es : List Expr} {m : Str} {apos pos : Pos} {ta : TE} {t : TA} {pl : Sem Bool} (he : PE X o ta) (c : Cls X.K C) (hm : Meth X.K C m f) (F : FnOk X.prog X.w X.K X.mg X.base CX k f fd ps sp) (hr : Room k X.A) (hb : Binds X.K fd ps []) (hx : ∀ σ, PassesAt CX X σ (E σ)) (ha : PA X (e :: es) t)
    (hst : starEach (e :: es) X.env = (false, eval e X.env) :: starEach es X.env := by rfl) (hpl : (backTo pos (starEach es X.env)).any (·.1) = false := by rfl)
    (ht : eval (.Call (.Attribute o m apos) (e :: es) [] pos) X.env = (do
      let ov ← eval o X.env
      standAt apos.atName
      let (f, first) ← holding [ov] (getMethod ov m pl)
      callWith pos f first (backTo pos (starEach (e :: es) X.env)) (backToKw pos (keywordEach [] X.env))) := by rfl) :
    PE X (.Call (.Attribute o m apos) (e :: es) [] pos) (tMethS C m sp E ta t) := by
  refine ⟨fun pins s σ H Q I h => ?_⟩
  refine PySem.W.methodCall_KW (pl := pl) (thn (he.run pins s σ H _ I h) fun u s1 ⟨x, H1, I1, rx, a, dx, fs, ex, ea, l, q⟩ => ?_) ht
  subst ex
  obtain rfl : u = Value.ref a := rx
  refine getmeth_ok I1 ea c hm l ?_
  refine PySem.W.callWith_K (first := [.ref a]) (h₀ := X.base) I.ok.mod.kin hm.kp (thn (ha.run pos pins s1 σ H1 _ I1 q) fun us s2 ⟨vs, H2, I2, r, q2⟩ => ⟨I2.kIn, ?_⟩) hst hpl
  exact run_at (us := .ref a :: us) (vs := .ref a :: vs) F rfl hr hb (hx σ) I2 (.cons rfl r) q2
/-- x(..), x a local name that holds an instance of the class at C with the text's own __call__ -/
def tCallO (C : Addr) (sp : Sp) (E : L2.St → XK) (tn : TE) (t : TA) : TE := fun σ H Q => tn σ H fun x H1 => ∃ a, x = .ref a ∧ t σ H1 fun vs H2 => (∃ dx fs, H2 a = some (.ins C dx fs)) ∧ sp (x :: vs) H2 Q (E σ)
theorem plain_call {M : Model} {A : Around} {E : Value → Shared → Prop} {s : Shared} {K : PySem.W.Frag} {env : Env} {pos : Pos} {x C : Addr} {Q : Value → Shared → Prop} {e : Expr} {rest : List Expr}
    (h : wpAny M A (spliced (backTo pos (starEach (e :: rest) env))) (fun vs s₁ => (∃ ox od, K.In s₁.heap ∧ PySem.W.InstAt s₁.heap x ox C od ∧ ox.data = .plain) ∧ wpAny M A (call (.ref x) vs) Q E s₁) E s)
    (he : starEach (e :: rest) env = (false, eval e env) :: starEach rest env) (hplain : (backTo pos (starEach rest env)).any (·.1) = false) :
    wpAny M A (callWith pos (.ref x) [] (backTo pos (starEach (e :: rest) env)) []) Q E s := by
  rw [he] at h ⊢
  have h0 : ((backTo pos ((false, eval e env) :: starEach rest env)).any (·.1) || ([] : List (Option Str × Sem Value)).any (·.1.isNone)) = false := by
    show ((false || (backTo pos (starEach rest env)).any (·.1)) || false) = false
    rw [hplain]
    rfl
  have h1 : wpAny M A (evalArgs (.ref x) true (backTo pos ((false, eval e env) :: starEach rest env)) []) (fun a s₁ => (∃ ox od, K.In s₁.heap ∧ PySem.W.InstAt s₁.heap x ox C od ∧ ox.data = .plain) ∧ wpAny M A (call (.ref x) ([] ++ a.pos) a.kw) Q E s₁) E s := Calls.evalArgs_plain h
  unfold callWith
  refine wpAny_bind (wpAny_holding (wpAny_mono h1 (fun a s₁ h₁ => wpAny_bind (wpAny_standAt ?_)) fun _ _ y => y))
  obtain ⟨⟨ox, od, kin, I, hd⟩, hc⟩ := h₁
  simp only [h0]
  refine wpAny_bind ((PySem.W.kco_keeper (M := M) I hd).here ?_)
  have tail : ∀ {t : Sem Value}, wpAny M A t Q E s₁ → wpAny M A (t >>= fun r => holding [r] point >>= fun _ => pure r) Q E s₁ :=
    fun ht => wpAny_bind (wpAny_mono ht (fun r s₂ hr => wpAny_bind (wpAny_holding (wpAny_point (wpAny_pure hr)))) fun _ _ y => y)
  exact tail (wpAny_operateT hc)
theorem pe_callO {E : L2.St → XK} {x : Str} {p pos : Pos} {e : Expr} {es : List Expr} {tn : TE} {t : TA} (hn : PE X (.Name x p) tn) (hs : PySem.W.findIn X.K (.ref C) "__call__" = some (some (.ref f))) (hf : PySem.W.isFn X.K (.ref f) = true) (hfn : PySem.W.fnIn X.K f = true)
    (F : FnOk X.prog X.w X.K X.mg X.base CX k f fd ps sp) (hr : Room k X.A) (hb : Binds X.K fd ps []) (hx : ∀ σ, PassesAt CX X σ (E σ))
    (ha : PA X (e :: es) t) (he : starEach (e :: es) X.env = (false, eval e X.env) :: starEach es X.env := by rfl) (hpl : (backTo pos (starEach es X.env)).any (·.1) = false := by rfl) :
    PE X (.Call (.Name x p) (e :: es) [] pos) (tCallO C sp E tn t) := by
  refine ⟨fun pins s σ H Q I h => ?_⟩
  refine wpAny_Call_Name_kw (thn (hn.run pins s σ H _ I h) fun v s1 ⟨y, H1, I1, rv, a, ey, q⟩ => ?_)
  subst ey
  obtain rfl : v = Value.ref a := rv
  show wpAny _ _ (callWith pos (.ref a) [] (backTo pos (starEach (e :: es) X.env)) []) _ _ s1
  refine plain_call (K := X.K) (C := C) (thn (ha.run pos pins s1 σ H1 _ I1 q) fun us s2 ⟨vs, H2, I2, r, ⟨dx, fs, ea⟩, q2⟩ => ?_) he hpl
  obtain ⟨mA, J, _⟩ := ins_get I2.hok ea
  obtain ⟨od, J, _⟩ := J.look
  refine ⟨⟨_, _, I2.kIn, J, rfl⟩, wpAny_call (PySem.W.kco_code I2.kIn J rfl hs hf hfn ?_)⟩
  exact code_at (us := .ref a :: us) (vs := .ref a :: vs) F rfl hr hb (hx σ) I2 (.cons rfl r) q2
end
end Ow

namespace PySem
namespace LowN
open PySem.W PySem.Calls PyProof.Rows PySem.HandSPX
/-! ### the text of __init__ -/
def iA (p1 p2 : Pos) : Arguments := { posonlyargs := [], args := [{ arg := "self", annotation := none, pos := p1 }, { arg := "number", annotation := none, pos := p2 }], vararg := none, kwonlyargs := [], kw_defaults := [], kwarg := none, defaults := [] }
def iB (q1 q2 q3 q4 : Pos) : List Stmt := [.Assign [.Attribute (.Name "self" q1) "number" q2] (.Name "number" q3) q4]
def iS : Scope := { kind := .function, names := [(PySem.Str.ofString "self", .local), (PySem.Str.ofString "number", .local)], isGenerator := false, isCoroutine := false, more := [] }
/-- what the written part says of Low, at C, and of its __init__, at fI -/
structure LowTxt (K : Frag) (mg : Str → Option Value) (x : Str) (C fI : Addr) : Prop where
  gC : mg x = some (.ref C)
  cls : ∃ nm q N bs bm sn sub ab col dd k0 k1 k2 k3 k5, K.lookup C = some (excClassObj nm q C N bs bm true sn sub ab col dd k0 k1 k2 k3 k5 "ValueError.__new__") ∧ refsVE bm = true
  sa : findIn K (.ref C) "__setattr__" = some (some (.builtin "object.__setattr__"))
  ga : findIn K (.ref C) "__getattribute__" = some (some (.builtin "BaseException.__getattribute__"))
  gg : findIn K (.ref C) "__getattr__" = some none
  noN : findIn K (.ref C) "number" = some none
  iC : findIn K (.ref C) "__init__" = some (some (.ref fI))
  tC : typeIn K (.ref fI) = some (.type "function")
  kC : keepIn K (.ref C) = true
  exC : subIn K (.ref C) (.type "BaseException") = some true
  tyC : typeIn K (.ref C) = some (.type "type")
  hdC : hasDictIn K C = true
  te : exmOne K (.ref C) (.ref C) = some true
  fn : ∃ (oc : Value) (od : Option Addr) (doc pm : Value) (an : Option Addr) (cdv ct : Value) (osl : Array (Option Value)) (p1 p2 q1 q2 q3 q4 : Pos),
    K.lookup fI = some ⟨oc, od, .func (fnOf "__init__" "WrongItem.__init__" (iA p1 p2) (iB q1 q2 q3 q4) iS .none .none doc pm an cdv ct), osl⟩ ∧ codeIn K cdv "WrongItem.__init__" = true
theorem one_size (v : Value) : [v].length ≤ sizeLine := by
  rw [sizeLine_eq]
  exact (by decide : 1 ≤ 16777216)
theorem kept_but {K : Frag} {h h' : Heap} {x : Addr} (X : K.In h) (hx : K.lookup x = none) (k : ∀ b o, b ≠ x → h.get? b = some o → h'.get? b = some o) : K.In h' := fun a o e =>
  k a o (fun z => by rw [z, hx] at e; cases e) (X a o e)
theorem ldC {M : Model} {s : Shared} {name : Str} {scope : Scope} {L a : Addr} {cd : Value} {m : Str → Option Value} {x : Str} {pos : Pos} {v : Value} {Q : Value → Shared → Prop} {A : Around} {E : Value → Shared → Prop} (hn : s.heap.Ns L m) (hv : m x = some v) (h : Q v s)
    (hk : scope.kind = .function := by rfl) (hl : (envOfC name scope L a cd).kindOf x = some .local := by rfl) (hd : (x == ("__debug__" : Str)) = false := by decide) :
    wpAny M A (eval (.Name x pos) (envOfC name scope L a cd)) Q E s := wpAny_Name (wpAny_loadName_local hk hl hn hv h) hd
/-- what __init__ leaves of a fresh exception at x -/
structure InitEnd (h h' : Heap) (x C dx t1 : Addr) (v : Value) : Prop where
  keep : ∀ b o, b ≠ x → h.get? b = some o → h'.get? b = some o
  obj : h'.get? x = some { cls := .ref C, dict := some dx, data := .fields #[.ref t1, .none, .none, .none, .bool false, .none] }
  dbig : h.objs.size ≤ dx
  dne : dx ≠ x
  ns : h'.Ns1 dx (fun y => if y = "number" then some v else none)
/-- a made Low -/
structure OwnMade (h h' : Heap) (e C d : Addr) (v : Value) : Prop where
  keep : ∀ b o, h.get? b = some o → h'.get? b = some o
  new : h.objs.size ≤ e
  obj : ∃ oe vs, h'.get? e = some oe ∧ oe.cls = .ref C ∧ oe.dict = some d ∧ oe.data = .fields vs ∧ vs[1]? = some .none
  dbig : h.objs.size ≤ d
  dne : d ≠ e
  ns : h'.Ns1 d (fun y => if y = "number" then some v else none)
section
variable {prog : Program} {w : World} {A : Around} {E : Value → Shared → Prop} {R : Result → Shared → Prop} {s : Shared} {K : Frag} {mg : Str → Option Value} {C fI : Addr} {x : Str}
theorem low_init (T : LowTxt K mg x C fI) {x t0 : Addr} {v : Value} (X : K.In s.heap) (hlim : s.heap.NoLimit) (hx : s.heap.get? x = some (excO C t0)) (hnx : K.lookup x = none) (hroom : A.depth < recursionLimit)
    (hq : ∀ h' tk dx, InitEnd s.heap h' x C dx t0 v → R (.ok (.ret .none)) { s with heap := h', toks := tk }) :
    codeAny (model prog w) A (.call (.ref fI) ⟨[.ref x, v], []⟩) R s := by
  obtain ⟨oc, od, doc, pm, an, cdv, ct, osl, p1, p2, q1, q2, q3, q4, ho, hcd⟩ := T.fn
  obtain ⟨nm, q, N, bs, bm, sn, sub, ab, col, dd, k0, k1, k2, k3, k5, hC, hbm⟩ := T.cls
  have hcl : clsIn K C = some { name := nm, bases := bs, mro := .ref C :: bm, ns := N, qualname := q, hasDict := true, slotNames := sn, subclasses := sub, abstract := ab, collection := col, hasDel := false } := by unfold clsIn; rw [hC] <;> rfl
  refine Att.call_fn (binds := [("self", .ref x), ("number", v)]) X hlim ho hcd hroom (BindsTo.of_eq (by first | rfl | with_unfolding_all rfl)) (by first | rfl | decide | with_unfolding_all rfl) (fun s₁ IC => ?_) rfl rfl rfl
  obtain ⟨h₁, tk₁, rfl⟩ := IC.toInCall.same
  have k : ∀ b o, s.heap.get? b = some o → h₁.get? b = some o := IC.toInCall.keep
  have hn := IC.toInCall.ns
  have hxL : s.heap.objs.size ≠ x := Nat.ne_of_gt (Heap.lt_size hx)
  have X₁ : K.In h₁ := X.keeps k
  have hx₁ := k _ _ hx
  -- self.by = by
  show wpAny _ _ (execs _ _) _ _ _
  refine wpAny_execs_cons (plainObj_wpAny_Assign_Attribute ?_)
  refine ldC (v := v) hn (by first | rfl | with_unfolding_all rfl | kernel_rfl) (ldC (v := .ref x) hn (by first | rfl | with_unfolding_all rfl | kernel_rfl) ?_)
  refine set_plain X₁ (ox := excO C t0) (od := none) ⟨hx₁, rfl, rfl, trivial⟩ T.sa ?_
  refine exc_osa X₁ hx₁ hcl (show refsVE (.ref C :: bm) = true from hbm) rfl T.noN (fun h₃ tk₃ dx k₃ dn dne hx₃ hn₃ => ?_)
  show wpAny _ _ (execs _ _) _ _ _
  have z : s.heap.objs.size < h₁.objs.size := hn.lt
  exact wpAny_execs_nil (hq h₃ tk₃ dx ⟨fun b o hb e => k₃ b o hb (k b o e), hx₃, Nat.le_of_lt (Nat.lt_of_lt_of_le z dn), dne, hn₃⟩)
theorem low_made (T : LowTxt K mg x C fI) {v : Value} (X : K.In s.heap) (hlim : s.heap.NoLimit) (hroom : A.depth + 1 < recursionLimit)
    (hq : ∀ h' tk e d, OwnMade s.heap h' e C d v → R (.ok (.ret (.ref e))) { s with heap := h', toks := tk }) :
    codeAny (model prog w) A (.call (.ref C) ⟨[v], []⟩) R s := by
  obtain ⟨nm, q, N, bs, bm, sn, sub, ab, col, dd, k0, k1, k2, k3, k5, hC, hbm⟩ := T.cls
  obtain ⟨hp, g, dr, tk, os⟩ := s
  have k : ∀ b o, hp.get? b = some o → ((hp.push (kdv_tup [v])).push (excO C hp.objs.size)).get? b = some o := fun b o e => Heap.get?_push_of_some _ (Heap.get?_push_of_some _ e)
  have hget : ((hp.push (kdv_tup [v])).push (excO C hp.objs.size)).get? (hp.objs.size + 1) = some (excO C hp.objs.size) := by heap_get
  have hnx : K.lookup (hp.objs.size + 1) = none := by
    cases e : K.lookup (hp.objs.size + 1) with
    | none => rfl
    | some o =>
      have z : hp.get? (hp.objs.size + 1) = some o := X _ _ e
      exact absurd (Nat.lt_of_succ_lt (Heap.lt_size z)) (Nat.lt_irrefl _)
  refine call_own F.excBase_ValueError (fun X => refsVE_contains X bm hbm) (X _ _ hC) (looks_findIn X T.iC) (fun self => bind_fn X self T.tC) (one_size v) ?_
  refine low_init (s := ⟨(hp.push (kdv_tup [v])).push (excO C hp.objs.size), g, dr, tk, os⟩) T (X.keeps k) (hlim.keeps k) hget hnx ?_ fun h' tk' dx ⟨k', hx, dn, dne, hns⟩ => ?_
  · show A.depth + 1 < recursionLimit
    exact hroom
  · have old : ∀ b o, hp.get? b = some o → h'.get? b = some o := fun b o e => k' b o (Nat.ne_of_lt (Nat.lt_succ_of_lt (Heap.lt_size e))) (k b o e)
    have z : hp.objs.size + 1 + 1 ≤ dx := by
      first
        | (simpa only [Heap.size_push] using dn)
        | exact dn
        | (have q := dn; rw [Heap.size_push, Heap.size_push] at q; exact q)
    exact ⟨rfl, hq h' tk' (hp.objs.size + 1) dx ⟨old, Nat.le_succ _, ⟨_, _, hx, rfl, rfl, rfl, rfl⟩, Nat.le_trans (Nat.le_trans (Nat.le_succ _) (Nat.le_succ _)) z, dne, hns⟩⟩
end
end LowN
end PySem
namespace L2
open PySem PySem.Spec PyProof.Rows
theorem relO_thingN {v : V} {v' : Value} (r : RelV v v') (f : Str) : RelO (List.lookup f [(("number" : Str), v)]) (if f = "number" then some v' else none) := by
  by_cases hw : f = "number"
  · subst hw
    rw [if_pos rfl]
    have q : List.lookup ("number" : Str) [(("number" : Str), v)] = some v := by simp [List.lookup]
    rw [q]
    exact r
  · rw [if_neg hw]
    have qw : (f == ("number" : Str)) = false := by simpa using hw
    have q2 : List.lookup f [(("number" : Str), v)] = none := by simp [List.lookup, qw]
    rw [q2]
    trivial
section
variable {X : Cx} {C fI : Addr}
/-- Low(e) -/
def tMkThN (C : Addr) (ta : TA) : St → Hp → XK → Prop := fun σ H Q => ta σ H fun vs H1 => ∃ v, vs = [v] ∧ ∀ d, H1 d = none → Q (.ref C) (some d) (upd H1 d (.xd [(("number" : Str), v)]))
theorem pmk_thingN {a : Expr} {ta : TA} {p pos : Pos} {k : Nat} (T : PySem.LowN.LowTxt X.K X.mg x C fI) (hr : Room k X.A) (ha : PA X [a] ta) (hg : Gl X x := by rfl) (hdb : (x == ("__debug__" : Str)) = false := by decide)
    (he : starEach (a :: []) X.env = (false, eval a X.env) :: starEach [] X.env := by rfl) (hpl : (backTo pos (starEach [] X.env)).any (·.1) = false := by rfl) :
    PMk X (.Call (.Name x p) [a] [] pos) (tMkThN C ta) := by
  intro pins s σ H Q I h
  refine wpAny_Call_Name_kw (ld_glob I hg T.gC ?_ hdb)
  refine PySem.W.callWith_K (h₀ := X.base) I.ok.mod.kin T.kC (thn (ha.run pos pins s σ H _ I h) fun us s1 hh => ?_) he hpl
  obtain ⟨vs, H1, I1, r1, v, ev, q1⟩ := hh
  subst ev
  refine ⟨I1.kIn, ?_⟩
  cases r1 with
  | cons rv rn =>
    rename_i v' us'
    cases rn
    show wpAny _ _ (call (.ref C) [v']) _ _ _
    have hlim := I1.nolimit
    obtain ⟨hp, g, dr, tk, os⟩ := s1
    refine wpAny_call (PySem.LowN.low_made T I1.kIn hlim (by have := hr.dp; omega) fun h' tk' e d M => ?_)
    show MkP X pins σ Q (.ref e) ⟨h', g, dr, tk', os⟩
    obtain ⟨oe, fv, hoe, hc, hd, hdat, h1⟩ := M.obj
    have hns := M.ns
    obtain ⟨G', g1, g2⟩ := restrict h' fun b => decide (b ≠ e)
    have gk : ∀ b, b ≠ e → G'.get? b = h'.get? b := fun b hb => g1 b (decide_eq_true hb)
    have ge : G'.get? e = none := g2 e (by simp)
    have old : ∀ b o, hp.get? b = some o → G'.get? b = some o := fun b o q => (gk b (Nat.ne_of_lt (Nat.lt_of_lt_of_le (Heap.lt_size q) M.new))).trans (M.keep b o q)
    have ob : ObjOk X.prog X.w (upd H1 d (.xd [(("number" : Str), v)])) G' d (.xd [(("number" : Str), v)]) :=
      ⟨_, hns.at (fun o q => (gk d M.dne).trans q), fun f => relO_thingN rv f⟩
    have J : Inv X pins σ (upd H1 d (.xd [(("number" : Str), v)])) ⟨G', g, dr, tk', os⟩ := I1.laid (t' := tk') old M.dbig ob
    refine ⟨e, oe, fv, ⟨G', g, dr, tk', os⟩, _, .ref C, some d, rfl, J, fun b o q => ?_, ge, hoe, ⟨hc, hd⟩, hdat, h1, ?_, rfl, I1.bare, raises_own T.exC T.tyC, q1 d (I1.hok.fresh M.dbig)⟩
    · by_cases hb : b = e
      · have q' : G'.get? b = some o := q
        rw [hb, ge] at q'; cases q'
      · exact (gk b hb).symm.trans q
    · rw [upd_ne (Ne.symm M.dne)]
      exact I1.hok.fresh M.new
/-- raise Low(e) -/
def tRaiseThN (C : Addr) (W : WX) (ta : TA) : TS := fun _ σ H => tMkThN C ta σ H fun cls d H' => W cls d σ H'
theorem ps_raiseThN {a : Expr} {ta : TA} {W : WX} {p pos pos2 : Pos} {k : Nat} (hc : X.calm = true) (T : PySem.LowN.LowTxt X.K X.mg x C fI) (hr : Room k X.A) (tk : Takes X W) (ha : PA X [a] ta) (hg : Gl X x := by rfl) (hdb : (x == ("__debug__" : Str)) = false := by decide)
    (he : starEach (a :: []) X.env = (false, eval a X.env) :: starEach [] X.env := by rfl) (hpl : (backTo pos (starEach [] X.env)).any (·.1) = false := by rfl) :
    PS X (.Raise (some (.Call (.Name x p) [a] [] pos)) none pos2) (tRaiseThN C W ta) := ps_raise hc tk (pmk_thingN T hr ha hg hdb he hpl)
/-- low.by, low the exception that the suite holds (at a; its class cls, its dict d) -/
def tThingN (C : Addr) (a : Addr) (cls : Value) (d : Option Addr) (te : TE) : TE := fun σ H Q => te σ H fun x H1 => x = .ref a ∧ cls = .ref C ∧ ∃ (dd : Addr) (v : V), d = some dd ∧ H1 dd = some (.xd [(("number" : Str), v)]) ∧ Q v H1
theorem pe_thingN {a : Addr} {oe : Obj} {cls : Value} {d : Option Addr} {pn : List (Addr × Obj)} {e : Expr} {te : TE} {pos : Pos} (T : PySem.LowN.LowTxt X.K X.mg x C fI) (hz : Zc cls d oe) (hf : ∃ vs, oe.data = .fields vs) (he : PE (X.suite a ((a, oe) :: pn)) e te)
    (hb : attributeBase e "number" X.env (eval e X.env) = eval e X.env := by rfl) :
    PE (X.suite a ((a, oe) :: pn)) (.Attribute e "number" pos) (tThingN C a cls d te) := by
  refine ⟨fun pins s σ H Q I h => ?_⟩
  refine attr_of hb (thn (he.run pins s σ H _ I h) fun u s1 hh => ?_)
  obtain ⟨x, H1, I1, rx, ex, ec, dd, v, ed, ea, q⟩ := hh
  subst ex
  obtain rfl : u = Value.ref a := rx
  subst ec
  subst ed
  obtain ⟨ha, _⟩ := I1.pin (a, oe) (List.mem_append_left _ List.mem_cons_self)
  obtain ⟨vs, hd⟩ := hf
  have hx : ObjOk X.prog X.w H1 s1.heap dd (.xd [(("number" : Str), v)]) := I1.hok dd _ ea
  obtain ⟨mA, hns, hr⟩ := hx
  obtain ⟨od, ho, hl⟩ := lookIn_ns hns
  have l : List.lookup ("number" : Str) [(("number" : Str), v)] = some v := by simp [List.lookup]
  obtain ⟨u, hu, ru⟩ := RelO.some_of (v := v) (o := mA "number") (by rw [← l]; exact hr "number")
  have J : PySem.W.InstAt s1.heap a oe C (some od) := ⟨ha, hz.1, by unfold PySem.W.notCls; rw [hd] <;> rfl, by rw [hz.2]; exact ho⟩
  exact HandSPX.exc_get I1.kIn J T.ga T.gg T.exC (PySem.W.findObj_own T.hdC T.noN rfl (by rw [hl, hu])) (handed_of ru) ⟨v, H1, I1.tok _, ru, q⟩
end
end L2


namespace Ow
open PySem PySem.Spec PyProof.Rows L2
section
variable {X : Cx} {tg : Expr}
/-- for over a list or a tuple -/
def iSeq (K : PySem.W.Frag) (tl : TE) : TI := fun σ H R => tl σ H fun x H1 => ∃ a, x = .ref a ∧ (((∃ xs, SqL K H1 a xs) ∧ R (Itl K a) H1) ∨ ((∃ xs, SqT K H1 a xs) ∧ R (Itt K a) H1))
theorem pi_seq {l : Expr} {tl : TE} (hl : PE X l tl) : PI X tg l (iSeq X.K tl) := by
  refine ⟨fun pins s σ H R I h => thn (hl.run pins s σ H _ I h) fun v s1 ⟨x, H1, I1, r1, a, e, q⟩ => ?_⟩
  subst e
  cases r1
  have fp : ∀ b ∈ [s1.heap.objs.size], FpOk X pins H1 b := fun b hb => by
    rw [List.mem_singleton.mp hb]
    exact I1.fpOk (Nat.le_refl _) (I1.hok.fresh (Nat.le_refl _))
  rcases q with ⟨⟨xs, hq⟩, q⟩ | ⟨⟨xs, hq⟩, q⟩
  · obtain ⟨its, rv, p, hz⟩ := I1.list hq
    exact wpAny_pyIter_list p.isList ⟨s1.heap.objs.size, [s1.heap.objs.size], _, _, H1, rfl, I1.kept (t' := s1.toks) fun b o e => Heap.get?_push_of_some _ e, turn_list a _, ⟨_, Heap.get?_push_size _ rfl, rfl, rfl⟩, fp, q⟩
  · obtain ⟨its, rv, p, hz⟩ := I1.tuple hq
    exact wpAny_pyIter_tuple (show s1.heap.IsTuple a its.toArray from p) ⟨s1.heap.objs.size, [s1.heap.objs.size], _, _, H1, rfl, I1.kept (t' := s1.toks) fun b o e => Heap.get?_push_of_some _ e, turn_tuple a _, ⟨_, Heap.get?_push_size _ rfl, rfl, rfl⟩, fp, q⟩
def rTupOf (K : PySem.W.Frag) : List V → Hp → VK → Prop := fun xs H Q => ∃ p ys, xs = [.ref p] ∧ ((SqL K H p ys ∧ ∀ l, H l = none → Q (.ref l) (upd H l (.tup ys))) ∨ (SqT K H p ys ∧ Q (.ref p) H))
theorem cr_tupOf : CallR X (.type "tuple") (rTupOf X.K) := call_tuple_of
end
/-- the scope of a comprehension; the i-th statement's value; a call's first argument -/
def lcSc : Expr → Scope
  | .ListComp _ _ sc _ => sc
  | _ => { kind := .function, names := [], isGenerator := false, isCoroutine := false }
def valAt (b : List Stmt) (i : Nat) : Expr := match b.getD i (.Pass ⟨0, 0, 0, 0⟩) with
  | .Assign _ v _ => v
  | .Return (some v) _ => v
  | _ => .Constant .none 0 ⟨0, 0, 0, 0⟩
def arg0 : Expr → Expr
  | .Call _ (e :: _) _ _ => e
  | e => e
def eltOf : Expr → Expr
  | .ListComp e _ _ _ => e
  | e => e
end Ow

/-! ## x in an instance with the text's own __contains__; C(..), C a local name; enumerate of a tuple -/
namespace Ow
open PySem PySem.Spec PyProof.Rows L2
section
variable {X : Cx} {CX : CXT} {k : Nat} {f C : Addr} {fd : FuncData} {ps : List Str} {sp : Sp} {E : XK} {pins : List (Addr × Obj)} {σ : L2.St} {H : Hp} {s : Shared}
def rInO (C : Addr) (sp : Sp) (E : XK) : R2 := fun x y H Q => ∃ (a dx : Addr) (fs : List (Str × V)), y = .ref a ∧ H a = some (.ins C dx fs) ∧
  sp [y, x] H (fun v H' => ∃ b : Bool, v = .bl b ∧ Q (.bl b) H') E
theorem op_inO (F : FnOk X.prog X.w X.K X.mg X.base CX k f fd ps sp) (hr : Room k X.A) (hs : PySem.W.findIn X.K (.ref C) "__contains__" = some (some (.ref f))) (hf : PySem.W.isFn X.K (.ref f) = true) (hb : Binds X.K fd ps []) (hx : Passes CX X E) :
    OpR X (compareOp .In) (rInO C sp E) := by
  intro pins s σ H x y v u Q I rx ry h
  obtain ⟨a, dx, fs, rfl, ea, h⟩ := h
  cases ry
  obtain ⟨mA, J, _⟩ := ins_get I.hok ea
  obtain ⟨od, J, _⟩ := J.look
  obtain ⟨m, hF⟩ := I.fr
  refine PySem.W.in_K hF I.ok.mod.kin J hs hf (wpAny_mono (run_at F rfl hr hb (fun p H s e s' I => hx p σ H s e s' I) I (vs := [.ref a, x]) (.cons rfl (.cons rx .nil)) h) (fun w s' hw => ?_) fun _ _ z => z)
  obtain ⟨z, H', I', rz, b, rfl, q⟩ := hw
  cases rz
  exact wpAny_truthy_bool ⟨.bl b, H', I', rfl, q⟩
/-- C(..), C held by a local name -/
def tMakeL (C : Addr) (sp : Sp) (E : L2.St → XK) (tn : TE) (t : TA) : TE := fun σ H Q => tn σ H fun y H0 => y = .ref C ∧ tMakeS C sp E t σ H0 Q
theorem pe_makeL {E : L2.St → XK} {x : Str} {p pos : Pos} {e : Expr} {es : List Expr} {tn : TE} {t : TA} (hn : PE X (.Name x p) tn) (M : Mk X.K C f) (F : FnOk X.prog X.w X.K X.mg X.base CX k f fd ps sp) (hr : Room (k + 1) X.A) (hb : Binds X.K fd ps []) (hx : ∀ σ, PassesAt CX X σ (E σ))
    (ha : PA X (e :: es) t) (he : starEach (e :: es) X.env = (false, eval e X.env) :: starEach es X.env := by rfl) (hpl : (backTo pos (starEach es X.env)).any (·.1) = false := by rfl) :
    PE X (.Call (.Name x p) (e :: es) [] pos) (tMakeL C sp E tn t) := by
  refine ⟨fun pins s σ H Q I h => ?_⟩
  refine wpAny_Call_Name_kw (thn (hn.run pins s σ H _ I h) fun v s0 ⟨y, H0, I0, rv, ey, q0⟩ => ?_)
  subst ey
  obtain rfl : v = Value.ref C := rv
  refine PySem.W.callWith_K (h₀ := X.base) I0.ok.mod.kin M.kp (thn (ha.run pos pins s0 σ H0 _ I0 q0) fun us s1 ⟨vs, H1, I1, r, q⟩ => ⟨I1.kIn, ?_⟩) he hpl
  exact run_makeS M F hr hb (hx σ) I1 r q
end
/-! ### enumerate of a tuple -/
section
variable {prog : Program} {w : World} {A : Around}
theorem draws_tup {it a : Addr} {items : Array Value} (hne : a ≠ it) (hh : A.handled = none) :
    Draws prog w A it [it, a] items.size (fun i x => items[i]? = some x) (fun i h => h.IsTupleIter it a i ∧ h.IsTuple a items) where
  live := fun i h st => let ⟨⟨o, ho, _⟩, _⟩ := st; ⟨o, ho⟩
  frame := fun i h h' st kp => ⟨st.1.at fun o q => kp it (by simp) o q, st.2.at fun o q => kp a (by simp) o q⟩
  item := fun i s Q E hi st hQ => RZ.nextOf_tuple_item st.1 st.2 (x := items[i]) (by simp [hi]) fun h' st' sb =>
    hQ _ h' s.toks (by simp [hi]) ⟨st', st.2.at fun o q => (sb.2 a hne).trans q⟩ sb
  done := fun s Q E st hE => RZ.nextOf_tuple_end hh st.1 st.2 (by simp) hE
end
set_option maxHeartbeats 4000000 in
theorem enum_newT (l : Addr) (items : Array Value) (n : Nat) (dct : Option Addr) (sl : Array (Option Value)) :
    Meets (Builtin.«enumerate.__new__» ⟨[.type "enumerate", .ref l], []⟩) (fun _ R s => s.heap.get? l = some ⟨.type "tuple", dct, .seq items n, sl⟩ ∧
      R (.ok (.ret (.ref (s.heap.push { cls := .type "tuple_iterator", data := .fields #[.ref l, .int 0 0] }).objs.size)))
        { s with heap := (s.heap.push { cls := .type "tuple_iterator", data := .fields #[.ref l, .int 0 0] }).push { cls := .type "enumerate", data := .fields #[.none, .bool false, .ref s.heap.objs.size, rawInt 0, .none, .none] } }) :=
  .of_wp fun prog w A R s ⟨hl, h⟩ => by
    have hT : s.heap.IsTuple l items := ⟨_, hl, rfl, n, rfl⟩
    obtain ⟨hp, g, d, tk, os⟩ := s
    have hsub := sub_enumerate
    wp_walk
    refine wpAny_stack_any fun st => wpAny_pure ?_
    split
    · rename_i c _ _ _ _ _
      cases (c == Value.type "enumerate") <;> (wp_walk using wpAny_loadPart' hl, wpAny_pyIter_tuple hT; exact ⟨_, rfl, h⟩)
    · wp_walk using wpAny_loadPart' hl, wpAny_pyIter_tuple hT; exact ⟨_, rfl, h⟩
end Ow

namespace Ow
open PySem PySem.Spec PyProof.Rows L2
section
variable {prog : Program} {w : World} {A : Around} {E : Value → Shared → Prop} {s : Shared}
theorem call_enumT {l : Addr} {items : Array Value} {Q : Value → Shared → Prop} (hL : s.heap.IsTuple l items)
    (h : ∀ h', IsEnum h' (s.heap.objs.size + 1) s.heap.objs.size 0 .none → h'.IsTupleIter s.heap.objs.size l 0 → (∀ b o, s.heap.get? b = some o → h'.get? b = some o) → Q (.ref (s.heap.objs.size + 1)) { s with heap := h' }) :
    wpAny (model prog w) A (call (.type "enumerate") [.ref l]) Q E s := by
  obtain ⟨⟨c, dct, dt, sl⟩, hl, hc, n, hd⟩ := hL
  obtain rfl : c = .type "tuple" := hc
  obtain rfl : dt = .seq items n := hd
  refine callType_new F.called_enumerate (by decide) (F.typeCall_enumerate_1 _) (F.newCall_enumerate_1 _) (fun ob => F.args_object_init_2 ob _) F.entry_enumerate_new (enum_newT l items n dct sl) ⟨hl, ?_⟩
  show _ ∧ _
  have hz : ∀ o : Obj, (s.heap.push o).objs.size = s.heap.objs.size + 1 := fun o => Heap.size_push ..
  rw [hz]
  generalize hp : (s.heap.push { cls := .type "tuple_iterator", data := .fields #[.ref l, .int 0 0] }) = g
  have gz : g.objs.size = s.heap.objs.size + 1 := by rw [← hp]; exact hz _
  have gi : g.IsTupleIter s.heap.objs.size l 0 := by rw [← hp]; exact ⟨_, Heap.get?_push_size _ rfl, rfl, rfl⟩
  have gk : ∀ b o, s.heap.get? b = some o → g.get? b = some o := fun b o x => by rw [← hp]; exact Heap.get?_push_of_some _ x
  have he : ∀ o : Obj, o.isFreed = false → (g.push o).get? (s.heap.objs.size + 1) = some o := fun o z => by rw [← gz]; exact Heap.get?_push_size _ z
  exact ⟨⟨_, he _ rfl, rfl⟩, h _ (he _ rfl) (gi.at fun o q => Heap.get?_push_of_some _ q) fun b o x => Heap.get?_push_of_some _ (gk b o x)⟩
end
/-- the tuple at a, each item in a new pair -/
def IteT (K : PySem.W.Frag) (a : Addr) : It :=
  ⟨fun i H => ∃ (xs : List V) (x : V), SqT K H a xs ∧ xs[i]? = some x, fun i H v H' => ∃ T x, v = .ref T ∧ H T = none ∧ H' = upd H T (.tup [.int (i : Nat), x]) ∧ ∀ xs, SqT K H a xs → xs[i]? = some x, fun i H => ∃ xs : List V, SqT K H a xs ∧ xs.length ≤ i⟩
theorem turn_enumT {P : Program} {w : World} {K : PySem.W.Frag} {elts : List Expr} {kk : Nat} {tpos : Pos} (a e it : Addr) (hai : a ≠ it) (hae : a ≠ e) :
    Turn P w K (.Tuple elts kk tpos) (IteT K a) [e, it] e (fun i h => (∃ old, IsEnum h e it ((i : Nat) : Int) old) ∧ h.IsTupleIter it a i ∧ e ≠ it) where
  mem := List.mem_cons_self
  obj := fun i h st b hb => by
    obtain ⟨⟨old, he⟩, ⟨o, ho, hc, hd⟩, _⟩ := st
    rcases List.mem_cons.mp hb with z | z
    · subst z
      exact ⟨_, he, fun v q => nomatch q⟩
    · obtain rfl : b = it := by simpa using z
      exact ⟨o, ho, fun v q => by rw [hd] at q; cases q⟩
  keep := fun i h h' st k => ⟨⟨st.1.choose, k e List.mem_cons_self _ st.1.choose_spec⟩, st.2.1.at fun o q => k it (by simp) o q, st.2.2⟩
  item := by
    intro X hP hw hK hc i pins s σ H E I hf st hg
    subst hP hw hK
    obtain ⟨⟨old, he⟩, hit, hne⟩ := st
    obtain ⟨xs, x, hq, hx⟩ := hg
    obtain ⟨its, rv, p, hz⟩ := I.tuple hq
    obtain ⟨u, hu, ru⟩ := rv.get hx
    have el : e < s.heap.objs.size := Heap.lt_size he
    have il : it < s.heap.objs.size := let ⟨_, q, _⟩ := hit; Heap.lt_size q
    have pT : s.heap.IsTuple a its.toArray := p
    have ui : its.toArray[i]? = some u := by simpa using hu
    have hlt : i < its.toArray.size := (Array.getElem?_eq_some_iff.mp ui).1
    refine wpAny_pyNext_enum_itemD (draws_tup (items := its.toArray) hai (I.ok.hd hc)) he ⟨hit, pT⟩ hlt hne (by simp [hne, Ne.symm hae]) fun y h' tk hy ho st' hT hsz hk => ?_
    obtain rfl : y = u := Option.some.inj (hy.symm.trans ui)
    refine ⟨_, rfl, wpAny_letOwnedTupleGo_enum (s := { s with heap := h', toks := tk + 1 }) ho fun h2 he2 sb => ?_⟩
    have hT2 : h2.get? s.heap.objs.size = some { cls := .type "tuple", data := .seq #[.int i tk, y] } := (sb.2 _ (Nat.ne_of_gt el)).trans hT
    have new : ObjOk X.prog X.w (upd H s.heap.objs.size (.tup [.int (i : Nat), x])) h2 s.heap.objs.size (.tup [.int (i : Nat), x]) :=
      ⟨(by show 2 ≤ sizeLine; decide), [.int i tk, y], .cons ⟨_, rfl⟩ (.cons ru .nil), ⟨_, hT2, rfl, _, rfl⟩⟩
    have I1 : Inv X pins σ (upd H s.heap.objs.size (.tup [.int (i : Nat), x])) { s with heap := h2, toks := tk + 1 } :=
      I.turnedNew (ch := [e, it]) (fun b ob hb q => (sb.2 b fun z => hb (by simp [z])).trans (hk b ob (fun z => hb (by simp [z])) (fun z => hb (by simp [z])) q)) hf (Nat.le_refl _) new
    refine ⟨.ref s.heap.objs.size, _, I1, rfl, ⟨_, x, rfl, I.hok.fresh (Nat.le_refl _), rfl, fun ys hy => by rw [I.tuple_inj hy hq]; exact hx⟩, ⟨⟨y, ?_⟩, st'.1.at fun o q => (sb.2 it (Ne.symm hne)).trans q, hne⟩, fun b hb => ?_⟩
    · rw [show ((i + 1 : Nat) : Int) = (i : Int) + 1 by omega]
      exact he2
    · have lt : b < s.heap.objs.size := by
        rcases List.mem_cons.mp hb with z | z
        · exact z ▸ el
        · obtain rfl : b = it := by simpa using z
          exact il
      rw [upd_ne (Nat.ne_of_lt lt)]
      exact (hf b hb).1
  done := by
    intro X hP hw hK hc i pins s σ H E I hf st hg
    subst hP hw hK
    obtain ⟨⟨old, he⟩, hit, hne⟩ := st
    obtain ⟨xs, hq, hx⟩ := hg
    obtain ⟨its, rv, p, hz⟩ := I.tuple hq
    obtain ⟨f0, f1, f2, f3, f4, f5⟩ := hf it (by simp)
    have pT : s.heap.IsTuple a its.toArray := p
    have hle : its.toArray.size ≤ i := by
      have := rv.length
      simp only [List.size_toArray]
      omega
    have D : Draws X.prog X.w X.A.in1 it [it, a] i (fun _ _ => False) (fun j h => j = i ∧ h.IsTupleIter it a i ∧ h.IsTuple a its.toArray) :=
      ⟨fun j h st => let ⟨_, ⟨o, ho, _⟩, _⟩ := st; ⟨o, ho⟩, fun j h h' st kp => ⟨st.1, st.2.1.at fun o q => kp it (by simp) o q, st.2.2.at fun o q => kp a (by simp) o q⟩,
        fun j s Q E hi st _ => absurd st.1 (Nat.ne_of_lt hi), fun s Q E st hE => RZ.nextOf_tuple_end (I.ok.hd hc) st.2.1 st.2.2 (Array.getElem?_eq_none hle) hE⟩
    exact wpAny_pyNext_enum_endD D he ⟨rfl, hit, pT⟩ fun h' eb => ⟨rfl, I.turned (t' := s.toks) (fun b o hb q => eb b o hb q) f0 f1 f3 f4 f5⟩
  self := fun A i s Q E st h => let ⟨⟨_, he⟩, _⟩ := st; wpAny_pyIter_enum he h
def iEnumA (K : PySem.W.Frag) (ta : TA) : TI := fun σ H R => ta σ H fun vs H1 => ∃ a xs, vs = [.ref a] ∧ ((SqL K H1 a xs ∧ R (Ite K a) H1) ∨ (SqT K H1 a xs ∧ R (IteT K a) H1))
theorem pi_enumA {X : Cx} {e : Expr} {ta : TA} {p pos tpos : Pos} {elts : List Expr} {kk : Nat} (hg : Gl X "enumerate") (hm : X.mg "enumerate" = none) (ha : PA X [e] ta) (hs : starEach [e] X.env = [(false, eval e X.env)] := by rfl) :
    PI X (.Tuple elts kk tpos) (.Call (.Name "enumerate" p) [e] [] pos) (iEnumA X.K ta) := by
  refine ⟨fun pins s σ H R I h => ?_⟩
  refine Call_ (ld_blt I hg hm boot_enumerate (PyProof.Rows.callWith_type1 (thn (ha.run pos pins s σ H _ I h) fun us s1 ⟨vs, H1, I1, r1, q1⟩ => ?_) hs rfl))
  obtain ⟨a, xs, ex, q⟩ := q1
  subst ex
  cases r1 with
  | cons r rr =>
    cases rr
    cases r
    have fp : ∀ b ∈ [s1.heap.objs.size + 1, s1.heap.objs.size], FpOk X pins H1 b := fun b hb => by
      have hle : s1.heap.objs.size ≤ b := by
        rcases List.mem_cons.mp hb with z | z
        · rw [z]; exact Nat.le_succ _
        · rw [List.mem_singleton.mp z]; exact Nat.le_refl _
      exact I1.fpOk hle (I1.hok.fresh hle)
    rcases q with ⟨hq, q⟩ | ⟨hq, q⟩
    · obtain ⟨its, rv, p', hz⟩ := I1.list hq
      refine call_enumerate_list p'.isList fun h' he hit _ hk => wpAny_pyIter_enum he ?_
      exact ⟨s1.heap.objs.size + 1, [s1.heap.objs.size + 1, s1.heap.objs.size], _, _, H1, rfl, I1.kept (t' := s1.toks) hk, turn_enum a (s1.heap.objs.size + 1) s1.heap.objs.size, ⟨⟨.none, he⟩, hit, Nat.succ_ne_self _⟩, fp, q⟩
    · obtain ⟨its, rv, p', hz⟩ := I1.tuple hq
      obtain ⟨oa, hoa, _⟩ := id p'
      have hal : a < s1.heap.objs.size := Heap.lt_size hoa
      refine call_enumT (show s1.heap.IsTuple a its.toArray from p') fun h' he hit hk => wpAny_pyIter_enum he ?_
      exact ⟨s1.heap.objs.size + 1, [s1.heap.objs.size + 1, s1.heap.objs.size], _, _, H1, rfl, I1.kept (t' := s1.toks) hk, turn_enumT a (s1.heap.objs.size + 1) s1.heap.objs.size (Nat.ne_of_lt hal) (Nat.ne_of_lt (Nat.lt_succ_of_lt hal)), ⟨⟨.none, he⟩, hit, Nat.succ_ne_self _⟩, fp, q⟩
/-- a loop over enumerate of a list or a tuple that stays -/
theorem for_enumL {K : PySem.W.Frag} {a : Addr} {xs : List V} {g : TG} {tb : TS} {D : Ends} {σ : L2.St} {H : Hp} (Pv : Nat → L2.St → Hp → Prop) (h0 : Pv 0 σ H) (hl : ∀ i σ H, Pv i σ H → SqL K H a xs)
    (hs : ∀ i x T σ H, xs[i]? = some x → Pv i σ H → H T = none → g (.ref T) σ (upd H T (.tup [.int (i : Nat), x])) fun σ2 H2 => tb { D with nx := Pv (i + 1), ct := Pv (i + 1), bk := D.nx } σ2 H2) (hd : ∀ σ H, Pv xs.length σ H → D.nx σ H) :
    ∃ W : Nat → Nat → L2.St → Hp → Prop, (∃ m, W 0 m σ H) ∧ ∀ i m σ H, W i m σ H →
      ((Ite K a).stop i H ∧ D.nx σ H) ∨ ((Ite K a).go i H ∧ ∃ N : L2.St → Hp → Prop, (∀ σ' H', N σ' H' → ∃ m', m' < m ∧ W (i + 1) m' σ' H') ∧ ∀ x H', (Ite K a).yld i H x H' → g x σ H' fun σ2 H2 => tb { D with nx := N, ct := N, bk := D.nx } σ2 H2) := by
  refine ⟨fun i m σ H => m = xs.length - i ∧ i ≤ xs.length ∧ Pv i σ H, ⟨_, rfl, Nat.zero_le _, h0⟩, ?_⟩
  rintro i m σ H ⟨rfl, hi, p⟩
  have q := hl i σ H p
  by_cases lt : i < xs.length
  · refine .inr ⟨⟨xs, xs[i], q, by simp [lt]⟩, Pv (i + 1), fun σ' H' p' => ⟨xs.length - (i + 1), by omega, rfl, lt, p'⟩, fun v H' y => ?_⟩
    obtain ⟨T, x, rfl, hT, rfl, y⟩ := y
    exact hs i x T σ H (y xs q) p hT
  · obtain rfl : i = xs.length := by omega
    exact .inl ⟨⟨xs, q, Nat.le_refl _⟩, hd σ H p⟩
theorem for_enumT {K : PySem.W.Frag} {a : Addr} {xs : List V} {g : TG} {tb : TS} {D : Ends} {σ : L2.St} {H : Hp} (Pv : Nat → L2.St → Hp → Prop) (h0 : Pv 0 σ H) (hl : ∀ i σ H, Pv i σ H → SqT K H a xs)
    (hs : ∀ i x T σ H, xs[i]? = some x → Pv i σ H → H T = none → g (.ref T) σ (upd H T (.tup [.int (i : Nat), x])) fun σ2 H2 => tb { D with nx := Pv (i + 1), ct := Pv (i + 1), bk := D.nx } σ2 H2) (hd : ∀ σ H, Pv xs.length σ H → D.nx σ H) :
    ∃ W : Nat → Nat → L2.St → Hp → Prop, (∃ m, W 0 m σ H) ∧ ∀ i m σ H, W i m σ H →
      ((IteT K a).stop i H ∧ D.nx σ H) ∨ ((IteT K a).go i H ∧ ∃ N : L2.St → Hp → Prop, (∀ σ' H', N σ' H' → ∃ m', m' < m ∧ W (i + 1) m' σ' H') ∧ ∀ x H', (IteT K a).yld i H x H' → g x σ H' fun σ2 H2 => tb { D with nx := N, ct := N, bk := D.nx } σ2 H2) := by
  refine ⟨fun i m σ H => m = xs.length - i ∧ i ≤ xs.length ∧ Pv i σ H, ⟨_, rfl, Nat.zero_le _, h0⟩, ?_⟩
  rintro i m σ H ⟨rfl, hi, p⟩
  have q := hl i σ H p
  by_cases lt : i < xs.length
  · refine .inr ⟨⟨xs, xs[i], q, by simp [lt]⟩, Pv (i + 1), fun σ' H' p' => ⟨xs.length - (i + 1), by omega, rfl, lt, p'⟩, fun v H' y => ?_⟩
    obtain ⟨T, x, rfl, hT, rfl, y⟩ := y
    exact hs i x T σ H (y xs q) p hT
  · obtain rfl : i = xs.length := by omega
    exact .inl ⟨⟨xs, q, Nat.le_refl _⟩, hd σ H p⟩
end Ow

/-! ## a tuple times 1 -/
namespace Ow
open PySem PySem.Spec PyProof.Rows L2
theorem tuple_mul1 (l : Addr) (items : Array Value) (n : Nat) (dd : Option Addr) (sl : Array (Option Value)) (u : Tok) (c1 : (items.isEmpty || (1 : Int) == 1) = true) :
    Meets (Builtin.«tuple.__mul__» ⟨[.ref l, .int 1 u], []⟩) (fun _ R s => s.heap.get? l = some { cls := .type "tuple", dict := dd, data := .seq items n, slots := sl } ∧ R (.ok (.ret (Value.ref l))) s) :=
  .of_wp fun prog w A R s h => by
    obtain ⟨hp, g, d, tk, os⟩ := s; have hl := h.1; have hR := h.2
    have f1 := AutoSeq1.idx_int
    wp_walk using wpAny_loadPart' hl
    repeat (first | (refine wpAny_ite_true (decide_eq_true (by first | exact c1 | rfl)) ?_; wp_walk using wpAny_loadPart' hl) | (refine wpAny_ite_false (decide_eq_false (by decide)) ?_; wp_walk using wpAny_loadPart' hl))
    exact ⟨_, rfl, hR⟩
def rRep1 (K : PySem.W.Frag) : R2 := fun x y H Q => ∃ l xs, x = .ref l ∧ y = .int 1 ∧ SqT K H l xs ∧ Q (.ref l) H
theorem op_rep1 {X : Cx} : OpR X (binaryOp .Mult) (rRep1 X.K) := by
  intro pins s σ H x y v u Q I rx ry h
  obtain ⟨l, xs, rfl, rfl, hT, q⟩ := h
  cases rx; obtain ⟨t, rfl⟩ := ry
  obtain ⟨its, r, ⟨⟨cls, dd, data, sl⟩, ho, hc, n, hd⟩, hs⟩ := I.tuple hT
  obtain rfl : cls = .type "tuple" := hc
  obtain rfl : data = .seq its.toArray n := hd
  have tm := tuple_mul1 l its.toArray n dd sl t (by rw [show ((1 : Int) == 1) = true from rfl, Bool.or_true])
  refine wpAny_binaryOp_repeat_ref (T := "tuple") (U := "int") (by decide) ⟨_, ho, rfl⟩ (fun s' => typeIs_int s' 1 t) noFill_tuple_mul F.fills_int_mul F.slot_int_rmul repeat_tuple F.slot_int_index.lookup ?_
  refine call_meets F.slot_int_rmul (typeIs_int s 1 t) F.entry_int_rmul (F.args_int_rmul_2 _ _) (int_rmul_tuple 1 t l its.toArray n dd sl) ⟨ho, rfl, ⟨_, ho, rfl⟩, ?_⟩
  exact call_meets F.slot_tuple_mul ⟨_, ho, rfl⟩ F.entry_tuple_mul (F.args_tuple_mul_2 _ _) tm ⟨ho, ⟨.ref l, H, I, rfl, q⟩⟩
/-- a tuple times a number from 1 on -/
def rRepN (K : PySem.W.Frag) : R2 := fun x y H Q => ∃ l n xs, x = .ref l ∧ y = .int ((n : Nat) : Int) ∧ SqT K H l xs ∧ xs ≠ [] ∧ 1 ≤ n ∧ n ≤ 1000 ∧ xs.length ≤ 1000 ∧ (n = 1 → Q (.ref l) H) ∧ ∀ p, H p = none → Q (.ref p) (upd H p (.tup (List.replicate n xs).flatten))
theorem op_repN {X : Cx} : OpR X (binaryOp .Mult) (rRepN X.K) := by
  intro pins s σ H x y v u Q I rx ry h
  obtain ⟨l, n, xs, ex, ey, hT, ne, h1, h2, hz, q1, q⟩ := h
  by_cases e : n = 1
  · exact op_rep1 pins s σ H x y v u Q I rx ry ⟨l, xs, ex, by rw [ey, e]; rfl, hT, q1 e⟩
  · exact op_repT pins s σ H x y v u Q I rx ry ⟨l, n, xs, ex, ey, hT, ne, by omega, by omega, hz, q⟩
end Ow

namespace As
open PySem PySem.Spec PyProof.Rows L2 Ow
def tp (i : Nat) : Stmt := PySem.Challenge.pw_afterwise_k14_whole_gates.main.body.getD i (.Pass ⟨0, 0, 0, 0⟩)
abbrev s_WrongThing_init : Stmt := inClass (tp 2) 0
abbrev s_WrongItem_init : Stmt := inClass (tp 3) 0
abbrev s_is_integer : Stmt := tp 8
abbrev s_is_tuple : Stmt := tp 9
abbrev s_is_below : Stmt := tp 10
abbrev s_is_tuple_of : Stmt := tp 11
abbrev s_as_tuples : Stmt := tp 12
abbrev s_is_asks : Stmt := tp 17
abbrev s_is_row_of : Stmt := tp 18
abbrev s_check_asks : Stmt := tp 20
abbrev s_check_row : Stmt := tp 21
abbrev s_Gate_init : Stmt := inClass (tp 24) 0
abbrev s_Gate_wide : Stmt := inClass (tp 24) 1
abbrev s_Gate_place_of : Stmt := inClass (tp 24) 2
abbrev s_Gate_contains : Stmt := inClass (tp 24) 3
abbrev s_Gate_len : Stmt := inClass (tp 24) 4
abbrev s_Gate_eq : Stmt := inClass (tp 24) 5
abbrev s_is_gate_item : Stmt := tp 25
abbrev s_wide_steps : Stmt := tp 26
abbrev s_place_behind : Stmt := tp 27
abbrev s__law_cell : Stmt := tp 29
abbrev s__law_source : Stmt := tp 30
abbrev s__law_draw : Stmt := tp 31
abbrev s__law_is_int : Stmt := tp 32
abbrev s__law_exact : Stmt := tp 33
abbrev s__law_deep : Stmt := tp 34
abbrev s__law_asks : Stmt := tp 35
abbrev s__law_row : Stmt := tp 36
abbrev s__law_gate : Stmt := tp 37
abbrev s__law_passes : Stmt := tp 38
abbrev s__law_number : Stmt := tp 39
abbrev s__law_bad_item : Stmt := tp 40
abbrev s_law : Stmt := tp 41
structure Ad where
  (f_WrongThing_init f_WrongItem_init f_is_integer f_is_tuple f_is_below f_is_tuple_of f_as_tuples f_is_asks f_is_row_of f_check_asks f_check_row f_Gate_init f_Gate_wide f_Gate_place_of f_Gate_contains f_Gate_len f_Gate_eq f_is_gate_item f_wide_steps f_place_behind f__law_cell f__law_source f__law_draw f__law_is_int f__law_exact f__law_deep f__law_asks f__law_row f__law_gate f__law_passes f__law_number f__law_bad_item f_law : Addr)
  (c_AfterError c_WrongThing c_WrongItem c_BadAsks c_BadRow c_BadGate c_Gate : Addr)
  (t_LETTERS t_MOST_ASKS t_LONGEST_ROW t_MOST_PLACES : Tok)
structure Tx (K : PySem.W.Frag) (mg : Str → Option Value) (A : Ad) : Prop where
  nValueError : mg "ValueError" = none
  nabs : mg "abs" = none
  nall : mg "all" = none
  nbool : mg "bool" = none
  nclassmethod : mg "classmethod" = none
  nenumerate : mg "enumerate" = none
  nint : mg "int" = none
  nisinstance : mg "isinstance" = none
  nlen : mg "len" = none
  nlist : mg "list" = none
  nrange : mg "range" = none
  nrepr : mg "repr" = none
  nstr : mg "str" = none
  nsum : mg "sum" = none
  ntuple : mg "tuple" = none
  nzip : mg "zip" = none
  mLETTERS : mg "LETTERS" = some (.str "abcdefgh" A.t_LETTERS)
  mMOST_ASKS : mg "MOST_ASKS" = some (.int 4 A.t_MOST_ASKS)
  mLONGEST_ROW : mg "LONGEST_ROW" = some (.int 2000 A.t_LONGEST_ROW)
  mMOST_PLACES : mg "MOST_PLACES" = some (.int 50 A.t_MOST_PLACES)
  mis_integer : mg "is_integer" = some (.ref A.f_is_integer)
  mis_tuple : mg "is_tuple" = some (.ref A.f_is_tuple)
  mis_below : mg "is_below" = some (.ref A.f_is_below)
  mis_tuple_of : mg "is_tuple_of" = some (.ref A.f_is_tuple_of)
  mas_tuples : mg "as_tuples" = some (.ref A.f_as_tuples)
  mis_asks : mg "is_asks" = some (.ref A.f_is_asks)
  mis_row_of : mg "is_row_of" = some (.ref A.f_is_row_of)
  mcheck_asks : mg "check_asks" = some (.ref A.f_check_asks)
  mcheck_row : mg "check_row" = some (.ref A.f_check_row)
  mis_gate_item : mg "is_gate_item" = some (.ref A.f_is_gate_item)
  mwide_steps : mg "wide_steps" = some (.ref A.f_wide_steps)
  mplace_behind : mg "place_behind" = some (.ref A.f_place_behind)
  m_law_cell : mg "_law_cell" = some (.ref A.f__law_cell)
  m_law_source : mg "_law_source" = some (.ref A.f__law_source)
  m_law_draw : mg "_law_draw" = some (.ref A.f__law_draw)
  m_law_is_int : mg "_law_is_int" = some (.ref A.f__law_is_int)
  m_law_exact : mg "_law_exact" = some (.ref A.f__law_exact)
  m_law_deep : mg "_law_deep" = some (.ref A.f__law_deep)
  m_law_asks : mg "_law_asks" = some (.ref A.f__law_asks)
  m_law_row : mg "_law_row" = some (.ref A.f__law_row)
  m_law_gate : mg "_law_gate" = some (.ref A.f__law_gate)
  m_law_passes : mg "_law_passes" = some (.ref A.f__law_passes)
  m_law_number : mg "_law_number" = some (.ref A.f__law_number)
  m_law_bad_item : mg "_law_bad_item" = some (.ref A.f__law_bad_item)
  mlaw : mg "law" = some (.ref A.f_law)
  mAfterError : mg "AfterError" = some (.ref A.c_AfterError)
  mWrongThing : mg "WrongThing" = some (.ref A.c_WrongThing)
  mWrongItem : mg "WrongItem" = some (.ref A.c_WrongItem)
  mBadAsks : mg "BadAsks" = some (.ref A.c_BadAsks)
  mBadRow : mg "BadRow" = some (.ref A.c_BadRow)
  mBadGate : mg "BadGate" = some (.ref A.c_BadGate)
  mGate : mg "Gate" = some (.ref A.c_Gate)
end As

namespace As
open PySem PySem.Spec PyProof.Rows L2 Ow
section
variable {P : Program} {w : World} {K : PySem.W.Frag} {mg : Str → Option Value} {base : Heap} {A : Ad}
/-! ## a cell of the script -/
abbrev N__law_cell : List Str := ["_law_script", "_law_k"]
theorem sc__law_cell : FnScope N__law_cell ["_law_script", "_law_k"] (defScope s__law_cell) := ⟨rfl, rfl, rfl, by decide +kernel, rfl, by decide +kernel, by decide +kernel⟩
theorem ok_cell {fd : FuncData} (F : Fun K "_law_cell" "_law_cell" s__law_cell A.f__law_cell fd) (T : Tx K mg A) : FnOk P w K mg base CX0 1 A.f__law_cell fd ["_law_script", "_law_k"] (Ow.spCell K) := by
  have nd := sc__law_cell.nd
  refine F.ok sc__law_cell (fun vs H Q E h => ?_) (fun cdv A' outer s H vs Q E hr h => ?_)
  · obtain ⟨l, ns, k, rfl, _⟩ := h
    rfl
  · obtain ⟨l, ns, k, rfl, hS, q⟩ := h
    refine ⟨_, (pss_cons (ps_if (pt_cmpR op_lt (pv 1) (pe_callB call_len (by rfl) T.nlen (by decide +kernel) (pa_cons (pv 0) pa_nil)) (nomark _)) (pss_one (ps_ret (pe_ix ix_list (pv 0) (pv 1) (fun _ _ => rfl)))) pss_nil)
  (pss_one (ps_ret (pe_op op_add (pe_op op_mul pe_int (pe_op op_add (pv 1) pe_int)) (pe_op op_mul pe_int (pe_op op_modN (pe_callTy call_int1 (by rfl) T.nint (by decide +kernel) (pa_cons (pe_callB (cr_sum rfl) (by rfl) T.nsum (by decide +kernel) (pa_cons (pe_slice sl_list (pv 0) po_none (po_some pe_int)) pa_nil)) pa_nil)) pe_int)))))), ?_⟩
    refine ⟨_, rfl, _, rfl, V.ref l, _, rfl, .inl ⟨_, hS, rfl⟩, _, _, rfl, rfl, _, rfl, ite2 (fun c => ?_) (fun c => ?_)⟩
    · have hk : k < ns.length := by
        have z := of_decide_eq_true c
        rw [List.length_map] at z
        omega
      refine ⟨_, rfl, _, rfl, l, _, _, .int ns[k], rfl, rfl, hS, atI_nat ?_, q _ H (Same.refl H)⟩
      rw [List.getElem?_map, List.getElem?_eq_getElem hk]
      rfl
    · refine ⟨_, rfl, _, _, rfl, rfl, _, _, rfl, rfl, .inl ⟨by decide, by decide⟩, _, rfl, 1, rfl, l, _, rfl, hS, fun p hp => ?_⟩
      refine ⟨p, _, rfl, SqL.of (by rw [upd_same, cut_first]), .inl ⟨_, rfl, ?_⟩⟩
      exact ⟨_, _, rfl, rfl, (by show (1000003 : Int) ≠ 0; decide), _, _, rfl, rfl, .inl ⟨by decide, by decide⟩, _, _, rfl, rfl, q _ _ (same_new hp)⟩
/-! ## a draw -/
abbrev N__law_draw : List Str := ["_law_source_here", "_law_many", "_law_digit", "_law_mixed"]
theorem sc__law_draw : FnScope N__law_draw ["_law_source_here", "_law_many"] (defScope s__law_draw) := ⟨rfl, rfl, rfl, by decide +kernel, rfl, by decide +kernel, by decide +kernel⟩
theorem ok_draw {fd : FuncData} (F : Fun K "_law_draw" "_law_draw" s__law_draw A.f__law_draw fd) (T : Tx K mg A) : FnOk P w K mg base CX0 1 A.f__law_draw fd ["_law_source_here", "_law_many"] spDraw := by
  have nd := sc__law_draw.nd
  refine F.ok sc__law_draw (fun vs H Q E h => ?_) (fun cdv A' outer s H vs Q E hr h => ?_)
  · obtain ⟨l, m, rfl, _⟩ := h
    rfl
  · obtain ⟨p, m, rfl, ⟨a, b, c, hp, ha, hb, hb'⟩, hm, hm', q⟩ := h
    have hm0 : m ≠ 0 := by omega
    refine ⟨_, (pss_cons (ps_if (pt_cmpR op_gt (pe_ix ix_list (pv 0) pe_int (fun _ _ => rfl)) pe_int (nomark _)) (pss_cons (ps_set (i := 2) nd rfl (by first | exact Or.inl rfl | exact Or.inr rfl) (pe_op op_modN (pe_callTy call_int1 (by rfl) T.nint (by decide +kernel) (pa_cons (pe_ix ix_list (pv 0) pe_int (fun _ _ => rfl)) pa_nil)) (pv 1)))
  (pss_cons (ps_asg (pe_op op_fdivN (pe_ix ix_list (pv 0) pe_int (fun _ _ => rfl)) (pv 1)) (pg_sub (pv 0) pe_int set_list))
  (pss_one (ps_ret (pv 2))))) pss_nil)
  (pss_cons (ps_asg (pe_op op_add (pe_ix ix_list (pv 0) pe_int (fun _ _ => rfl)) pe_int) (pg_sub (pv 0) pe_int set_list))
  (pss_cons (ps_asg (pe_op op_modN (pe_callTy call_int1 (by rfl) T.nint (by decide +kernel) (pa_cons (pe_op op_add (pe_op op_add (pe_op op_mul (pe_ix ix_list (pv 0) pe_int (fun _ _ => rfl)) pe_int) (pe_op op_mul (pe_ix ix_list (pv 0) pe_int (fun _ _ => rfl)) pe_int)) pe_int) pa_nil)) pe_int) (pg_sub (pv 0) pe_int set_list))
  (pss_cons (ps_set (i := 3) nd rfl (by first | exact Or.inl rfl | exact Or.inr rfl) (pe_op op_modN (pe_callTy call_int1 (by rfl) T.nint (by decide +kernel) (pa_cons (pe_op op_add (pe_op op_mul (pe_ix ix_list (pv 0) pe_int (fun _ _ => rfl)) (pe_op op_add (pe_ix ix_list (pv 0) pe_int (fun _ _ => rfl)) pe_int)) (pe_op op_mul (pe_ix ix_list (pv 0) pe_int (fun _ _ => rfl)) pe_int)) pa_nil)) pe_int))
  (pss_one (ps_ret (pe_op op_modN (pe_callTy call_int1 (by rfl) T.nint (by decide +kernel) (pa_cons (pe_op op_fdivN (pv 3) pe_int) pa_nil)) (pv 1)))))))), ?_⟩
    refine ⟨_, rfl, p, _, 0, .int a, rfl, rfl, SqL.of hp, atI_nat (j := 0) rfl, _, _, rfl, rfl, _, rfl, ite2 (fun k => ?_) (fun k => ?_)⟩
    · refine ⟨_, rfl, p, _, 0, .int a, rfl, rfl, SqL.of hp, atI_nat (j := 0) rfl, .inl ⟨_, rfl, ?_⟩⟩
      refine ⟨_, rfl, _, _, rfl, rfl, hm0, ?_⟩
      refine ⟨_, rfl, p, _, 0, .int a, rfl, rfl, SqL.of hp, atI_nat (j := 0) rfl, _, rfl, _, _, rfl, rfl, ⟨hm0, by omega⟩, ?_⟩
      refine ⟨_, rfl, p, _, 0, 0, rfl, rfl, hp, rfl, ?_⟩
      refine ⟨_, rfl, q _ _ (Int.fmod_nonneg_of_pos _ hm) (Int.fmod_lt_of_pos _ hm) ⟨a.fdiv m, b, c, upd_same, Int.fdiv_nonneg ha (by omega), hb, hb'⟩ But.upd⟩
    · refine ⟨_, rfl, p, _, 2, .int c, rfl, rfl, SqL.of hp, atI_nat (j := 2) rfl, _, _, rfl, rfl, _, rfl, p, _, 2, 2, rfl, rfl, hp, rfl, ?_⟩
      have h1 : upd H p (.lst [.int a, .int b, .int (c + 1)]) p = some (.lst [.int a, .int b, .int (c + 1)]) := upd_same
      refine ⟨_, rfl, p, _, 1, .int b, rfl, rfl, SqL.of h1, atI_nat (j := 1) rfl, _, _, rfl, rfl, .inr ⟨by decide, by decide⟩, _, rfl, p, _, 2, .int (c + 1), rfl, rfl, SqL.of h1, atI_nat (j := 2) rfl, _, _, rfl, rfl, .inr ⟨by decide, by decide⟩, ?_⟩
      refine ⟨_, _, rfl, rfl, _, _, rfl, rfl, .inl ⟨_, rfl, _, _, rfl, rfl, (by show (2147483647 : Int) ≠ 0; decide), _, rfl, p, _, 1, 1, rfl, rfl, h1, rfl, ?_⟩⟩
      have hb2 : 0 ≤ (b * 48271 + (c + 1) * 69621 + 11).fmod 2147483647 := Int.fmod_nonneg_of_pos _ (by decide)
      have hb3 : (b * 48271 + (c + 1) * 69621 + 11).fmod 2147483647 < 2147483647 := Int.fmod_lt_of_pos _ (by decide)
      have h2 : upd (upd H p (.lst [.int a, .int b, .int (c + 1)])) p (.lst [.int a, .int ((b * 48271 + (c + 1) * 69621 + 11).fmod 2147483647), .int (c + 1)]) p = some (.lst [.int a, .int ((b * 48271 + (c + 1) * 69621 + 11).fmod 2147483647), .int (c + 1)]) := upd_same
      refine ⟨_, rfl, p, _, 1, .int ((b * 48271 + (c + 1) * 69621 + 11).fmod 2147483647), rfl, rfl, SqL.of h2, atI_nat (j := 1) rfl, _, rfl, p, _, 1, .int ((b * 48271 + (c + 1) * 69621 + 11).fmod 2147483647), rfl, rfl, SqL.of h2, atI_nat (j := 1) rfl, _, _, rfl, rfl, _, _, rfl, rfl, .inl ⟨Int.lt_of_lt_of_le (by decide) hb2, Int.lt_trans hb3 (by decide)⟩, ?_⟩
      refine ⟨_, rfl, p, _, 2, .int (c + 1), rfl, rfl, SqL.of h2, atI_nat (j := 2) rfl, _, _, rfl, rfl, .inr ⟨by decide, by decide⟩, _, _, rfl, rfl, .inl ⟨_, rfl, _, _, rfl, rfl, (by show (2147483629 : Int) ≠ 0; decide), ?_⟩⟩
      refine ⟨_, rfl, _, _, rfl, rfl, ⟨by decide, by decide⟩, .inl ⟨_, rfl, _, rfl, _, _, rfl, rfl, hm0, ?_⟩⟩
      exact q _ _ (Int.fmod_nonneg_of_pos _ hm) (Int.fmod_lt_of_pos _ hm) ⟨a, _, c + 1, h2, ha, hb2, hb3⟩ (But.upd.trans But.upd)
/-! ## a source -/
abbrev N__law_source : List Str := ["_law_script", "_law_k", "_law_cell_here", "_law_number_here", "_law_mixed"]
theorem sc__law_source : FnScope N__law_source ["_law_script", "_law_k"] (defScope s__law_source) := ⟨rfl, rfl, rfl, by decide +kernel, rfl, by decide +kernel, by decide +kernel⟩
theorem ok_source {fd : FuncData} (F : Fun K "_law_source" "_law_source" s__law_source A.f__law_source fd) (T : Tx K mg A) (KCell : Kp P w K mg base CX0 1 A.f__law_cell ["_law_script", "_law_k"] (Ow.spCell K)) :
    FnOk P w K mg base CX0 2 A.f__law_source fd ["_law_script", "_law_k"] (spSrc K) := by
  obtain ⟨fdC, G__law_cell, b__law_cell, k__law_cell⟩ := KCell
  have nd := sc__law_source.nd
  refine F.ok sc__law_source (fun vs H Q E h => ?_) (fun cdv A' outer s H vs Q E hr h => ?_)
  · obtain ⟨l, ns, k, rfl, _⟩ := h
    rfl
  · obtain ⟨l, ns, k, rfl, hS, q⟩ := h
    refine ⟨_, (pss_cons (ps_set (i := 2) nd rfl (by first | exact Or.inl rfl | exact Or.inr rfl) (pe_call G__law_cell (hr.mono (by omega)) rfl T.m_law_cell k__law_cell b__law_cell .nil pass0 (pa_cons (pv 0) (pa_cons (pv 1) pa_nil))))
  (pss_cons (ps_set (i := 3) nd rfl (by first | exact Or.inl rfl | exact Or.inr rfl) (pe_callB call_abs (by rfl) T.nabs (by decide +kernel) (pa_cons (pv 2) pa_nil)))
  (pss_cons (ps_if (pt_cmpR op_ne (pe_op op_shr (pv 3) pe_int) pe_int (nomark _)) (pss_one (ps_set (i := 3) nd rfl (by first | exact Or.inl rfl | exact Or.inr rfl) (pe_op op_modN (pe_callTy call_int1 (by rfl) T.nint (by decide +kernel) (pa_cons (pv 3) pa_nil)) (pe_op op_pow pe_int pe_int)))) pss_nil)
  (pss_cons (ps_set (i := 4) nd rfl (by first | exact Or.inl rfl | exact Or.inr rfl) (pe_op op_modN (pe_callTy call_int1 (by rfl) T.nint (by decide +kernel) (pa_cons (pe_op op_add (pe_op op_add (pe_op op_add (pe_op op_mul (pe_op op_modN (pe_callTy call_int1 (by rfl) T.nint (by decide +kernel) (pa_cons (pv 3) pa_nil)) pe_int) pe_int) (pe_op op_mul pe_int (pv 1))) pe_int) (pe_callTy call_int1 (by rfl) T.nint (by decide +kernel) (pa_cons (pe_cmpR op_lt (pv 2) pe_int (nomark _)) pa_nil))) pa_nil)) pe_int))
  (pss_cons (ps_if (pt_cmpR op_ge (pv 3) (pe_op op_pow pe_int pe_int) (nomark _)) (pss_one (ps_ret (pe_lst (pa_cons (pv 3) (pa_cons (pv 4) (pa_cons pe_int pa_nil)))))) pss_nil)
  (pss_one (ps_ret (pe_lst (pa_cons pe_int (pa_cons (pv 4) (pa_cons pe_int pa_nil))))))))))), ?_⟩
    refine ⟨_, rfl, _, rfl, l, ns, k, rfl, hS, fun z H1 s1 => ?_⟩
    refine ⟨_, rfl, z, rfl, ?_⟩
    have h0 : 0 ≤ (if z < 0 then -z else z) := by split <;> omega
    generalize (if z < 0 then -z else z) = n at h0 ⊢
    refine ⟨_, rfl, _, _, rfl, rfl, (by show (0 : Int) ≤ 36000; decide), rfl, _, rfl, ite2 (fun c => ?_) (fun c => ?_)⟩
    · refine ⟨_, rfl, .inl ⟨_, rfl, _, _, rfl, rfl, ⟨by decide, by decide, by decide⟩, _, _, rfl, rfl, (by show ((10 : Int) ^ (60 : Int).toNat) ≠ 0; decide), ?_⟩⟩
      have h1 : 0 ≤ n.fmod ((10 : Int) ^ (60 : Int).toNat) := Int.fmod_nonneg_of_pos _ (by decide)
      refine ⟨_, rfl, .inl ⟨_, rfl, _, _, rfl, rfl, (by show (2147483629 : Int) ≠ 0; decide), _, _, rfl, rfl, .inr ⟨by decide, by decide⟩, _, rfl, _, _, rfl, rfl, .inl ⟨by decide, by decide⟩, _, _, rfl, rfl, _, _, rfl, rfl, ?_⟩⟩
      refine ⟨_, rfl, _, _, rfl, rfl, .inr ⟨_, rfl, _, _, rfl, rfl, .inl ⟨_, rfl, _, _, rfl, rfl, (by show (2147483647 : Int) ≠ 0; decide), ?_⟩⟩⟩
      refine ⟨_, rfl, _, _, rfl, rfl, ⟨by decide, by decide, by decide⟩, _, _, rfl, rfl, _, rfl, ite2 (fun c => ?_) (fun c => ?_)⟩
      · refine ⟨_, rfl, _, rfl, (by show 3 ≤ sizeLine; decide), fun p hp => ?_⟩
        exact q p _ (s1.trans (same_new hp)) (s1.free hp) ⟨_, _, _, upd_same, h1, Int.fmod_nonneg_of_pos _ (by decide), Int.fmod_lt_of_pos _ (by decide)⟩
      · refine ⟨_, rfl, (by show 3 ≤ sizeLine; decide), fun p hp => ?_⟩
        exact q p _ (s1.trans (same_new hp)) (s1.free hp) ⟨_, _, _, upd_same, by decide, Int.fmod_nonneg_of_pos _ (by decide), Int.fmod_lt_of_pos _ (by decide)⟩
    · refine ⟨_, rfl, .inl ⟨_, rfl, _, _, rfl, rfl, (by show (2147483629 : Int) ≠ 0; decide), _, _, rfl, rfl, .inr ⟨by decide, by decide⟩, _, rfl, _, _, rfl, rfl, .inl ⟨by decide, by decide⟩, _, _, rfl, rfl, _, _, rfl, rfl, ?_⟩⟩
      refine ⟨_, rfl, _, _, rfl, rfl, .inr ⟨_, rfl, _, _, rfl, rfl, .inl ⟨_, rfl, _, _, rfl, rfl, (by show (2147483647 : Int) ≠ 0; decide), ?_⟩⟩⟩
      refine ⟨_, rfl, _, _, rfl, rfl, ⟨by decide, by decide, by decide⟩, _, _, rfl, rfl, _, rfl, ite2 (fun c => ?_) (fun c => ?_)⟩
      · refine ⟨_, rfl, _, rfl, (by show 3 ≤ sizeLine; decide), fun p hp => ?_⟩
        exact q p _ (s1.trans (same_new hp)) (s1.free hp) ⟨_, _, _, upd_same, h0, Int.fmod_nonneg_of_pos _ (by decide), Int.fmod_lt_of_pos _ (by decide)⟩
      · refine ⟨_, rfl, (by show 3 ≤ sizeLine; decide), fun p hp => ?_⟩
        exact q p _ (s1.trans (same_new hp)) (s1.free hp) ⟨_, _, _, upd_same, by decide, Int.fmod_nonneg_of_pos _ (by decide), Int.fmod_lt_of_pos _ (by decide)⟩
/-! ## the asks -/
abbrev N__law_asks : List Str := ["_law_source_here"]
theorem sc__law_asks : FnScope N__law_asks ["_law_source_here"] (defScope s__law_asks) := ⟨rfl, rfl, rfl, by decide +kernel, rfl, by decide +kernel, by decide +kernel⟩
theorem ok_lasks {fd : FuncData} (F : Fun K "_law_asks" "_law_asks" s__law_asks A.f__law_asks fd) (T : Tx K mg A) (KDraw : Kp P w K mg base CX0 1 A.f__law_draw ["_law_source_here", "_law_many"] spDraw) :
    FnOk P w K mg base CX0 2 A.f__law_asks fd ["_law_source_here"] spLAsks := by
  obtain ⟨fdD, G__law_draw, b__law_draw, k__law_draw⟩ := KDraw
  have nd := sc__law_asks.nd
  refine F.ok sc__law_asks (fun vs H Q E h => ?_) (fun cdv A' outer s H vs Q E hr h => ?_)
  · obtain ⟨p, rfl, _⟩ := h
    rfl
  · obtain ⟨p, rfl, hp, q⟩ := h
    refine ⟨_, (pss_one (ps_ret (pe_ix ix_list (pe_lst (pa_cons pe_str (pa_cons pe_str (pa_cons pe_str (pa_cons pe_str (pa_cons pe_str (pa_cons pe_str (pa_cons pe_str (pa_cons pe_str pa_nil))))))))) (pe_call G__law_draw (hr.mono (by omega)) rfl T.m_law_draw k__law_draw b__law_draw .nil pass0 (pa_cons (pv 0) (pa_cons pe_int pa_nil))) (fun _ _ => rfl)))), ?_⟩
    refine ⟨(by show 8 ≤ sizeLine; decide), fun l hl => ?_⟩
    have hs := same_new (o := .lst [.str "ab", .str "ab", .str "bf", .str "acd", .str "ah", .str "a", .str "ab", .str "ce"]) hl
    have hlp : l ≠ p := by
      obtain ⟨o, ho⟩ := hp.some
      exact (ne_of_none ho hl).symm
    refine ⟨_, rfl, p, 8, rfl, hp.same hs, by decide, by decide, fun d H1 d0 d1 g1 b1 => ?_⟩
    obtain ⟨j, rfl⟩ : ∃ j : Nat, d = (j : Int) := ⟨d.toNat, by omega⟩
    have hj : j < menuA.length := by
      show j < 8
      omega
    refine ⟨l, _, _, .str menuA[j], rfl, rfl, SqL.of (b1 l _ upd_same hlp), atI_nat ?_, q _ H1 (List.getElem_mem hj) g1 ((But.of hs).trans b1)⟩
    show (menuA.map V.str)[j]? = some (V.str menuA[j])
    rw [List.getElem?_map, List.getElem?_eq_getElem hj]
    rfl
end
end As

namespace Ow
open PySem PySem.Spec PyProof.Rows L2
/-! ## data of ints, texts and tuples -/
mutual
inductive Dt (H : Hp) : V → PyData → Prop
  | non : Dt H .non .none
  | bl (b : Bool) : Dt H (.bl b) (.bool b)
  | int (i : Int) : Dt H (.int i) (.int i)
  | str (z : Str) : Dt H (.str z) (.str z)
  | tup {a : Addr} {xs : List V} {ds : List PyData} (h : H a = some (.tup xs)) (r : DtAll H xs ds) : Dt H (.ref a) (.tuple ds)
inductive DtAll (H : Hp) : List V → List PyData → Prop
  | nil : DtAll H [] []
  | cons {x : V} {xs : List V} {d : PyData} {ds : List PyData} (h : Dt H x d) (r : DtAll H xs ds) : DtAll H (x :: xs) (d :: ds)
end
mutual
theorem Dt.mono {H H' : Hp} (e : Same H H') : ∀ {x : V} {d : PyData}, Dt H x d → Dt H' x d
  | _, _, .non => .non
  | _, _, .bl b => .bl b
  | _, _, .int i => .int i
  | _, _, .str z => .str z
  | _, _, .tup h r => .tup (e _ _ h) (DtAll.mono e r)
theorem DtAll.mono {H H' : Hp} (e : Same H H') : ∀ {xs : List V} {ds : List PyData}, DtAll H xs ds → DtAll H' xs ds
  | _, _, .nil => .nil
  | _, _, .cons h r => .cons (Dt.mono e h) (DtAll.mono e r)
end
theorem DtAll.len {H : Hp} : ∀ {xs : List V} {ds : List PyData}, DtAll H xs ds → xs.length = ds.length
  | _, _, .nil => rfl
  | _, _, .cons _ r => by rw [List.length_cons, List.length_cons, DtAll.len r]
theorem DtAll.get {H : Hp} : ∀ {xs : List V} {ds : List PyData}, DtAll H xs ds → ∀ {i : Nat} {x : V}, xs[i]? = some x → ∃ d, ds[i]? = some d ∧ Dt H x d
  | _, _, .nil, _, _, h => by simp at h
  | _, _, .cons (d := d) h r, 0, x, e => ⟨d, rfl, by
    have e' := Option.some.inj e
    rw [← e']
    exact h⟩
  | _, _, .cons h r, i + 1, x, e => DtAll.get r (i := i) e
theorem depth_le : ∀ {ds : List PyData} {i : Nat} {d : PyData}, ds[i]? = some d → d.depth ≤ PyData.depthAll ds
  | [], _, _, h => by simp at h
  | x :: xs, 0, d, h => by
    have e := Option.some.inj h
    subst e
    rw [PyData.depthAll]
    exact Nat.le_max_left _ _
  | x :: xs, i + 1, d, h => by
    rw [PyData.depthAll]
    exact Nat.le_trans (depth_le (ds := xs) (i := i) h) (Nat.le_max_right _ _)
def spInt : Sp := fun vs H Q _ => (∃ i : Int, vs = [.int i] ∧ Q (.bl true) H) ∨ ∃ b : Bool, vs = [.bl b] ∧ Q (.bl false) H
/-- the same data told and due, at most n deep -/
def spExD (n : Nat) : Sp := fun vs H Q _ => ∃ (x y : V) (d : PyData), vs = [x, y] ∧ Dt H x d ∧ Dt H y d ∧ d.depth ≤ n ∧ ∀ H', Same H H' → Q (.bl true) H'
end Ow
namespace As
open PySem PySem.Spec PyProof.Rows L2 Ow
section
variable {P : Program} {w : World} {K : PySem.W.Frag} {mg : Str → Option Value} {base : Heap} {A : Ad}
abbrev N__law_is_int : List Str := ["_law_thing"]
theorem sc__law_is_int : FnScope N__law_is_int ["_law_thing"] (defScope s__law_is_int) := ⟨rfl, rfl, rfl, by decide +kernel, rfl, by decide +kernel, by decide +kernel⟩
theorem ok_lint {fd : FuncData} (F : Fun K "_law_is_int" "_law_is_int" s__law_is_int A.f__law_is_int fd) (T : Tx K mg A) : FnOk P w K mg base CX0 1 A.f__law_is_int fd ["_law_thing"] spInt := by
  have nd := sc__law_is_int.nd
  refine F.ok sc__law_is_int (fun vs H Q E h => ?_) (fun cdv A' outer s H vs Q E hr h => ?_)
  · rcases h with ⟨i, rfl, _⟩ | ⟨b, rfl, _⟩ <;> rfl
  · refine ⟨_, (pss_one (ps_ret (pe_and (pe_callB call_isi (by rfl) T.nisinstance (by decide +kernel) (pa_cons (pv 0) (pa_cons (pe_bltn (v := .ty "int") (by rfl) T.nint (by decide +kernel) rfl) pa_nil))) (pe_one (pe_not (pe_callB call_isi (by rfl) T.nisinstance (by decide +kernel) (pa_cons (pv 0) (pa_cons (pe_bltn (v := .ty "bool") (by rfl) T.nbool (by decide +kernel) rfl) pa_nil)))))))), ?_⟩
    rcases h with ⟨i, rfl, q⟩ | ⟨b, rfl, q⟩
    · refine ⟨_, rfl, _, _, _, _, true, rfl, .ty _, .base (.int _), kit_ty (by decide +kernel), _, rfl, iteT ?_⟩
      exact ⟨_, rfl, _, _, _, _, false, rfl, .ty _, .base (.int _), kit_ty (by decide +kernel), _, rfl, q⟩
    · refine ⟨_, rfl, _, _, _, _, true, rfl, .ty _, .base (.bl _), kit_ty (by decide +kernel), _, rfl, iteT ?_⟩
      exact ⟨_, rfl, _, _, _, _, true, rfl, .ty _, .base (.bl _), kit_ty (by decide +kernel), _, rfl, q⟩
abbrev N__law_exact : List Str := ["_law_told", "_law_due", "_law_one", "_law_other"]
theorem sc__law_exact : FnScope N__law_exact ["_law_told", "_law_due"] (defScope s__law_exact) := ⟨rfl, rfl, rfl, by decide +kernel, rfl, by decide +kernel, by decide +kernel⟩
theorem ok_never {x qual : Str} {st : Stmt} {f : Addr} {fd : FuncData} {N ps : List Str} {k : Nat} (F : Fun K x qual st f fd) (S : FnScope N ps (defScope st)) : FnOk P w K mg base CX0 (k + 1) f fd ps (fun _ _ _ _ => False) :=
  F.ok S (fun _ _ _ _ h => h.elim) (fun _ _ _ _ _ _ _ _ _ h => h.elim)
/-- one step: what is less deep is judged by the def itself -/
theorem ok_exStep {fd : FuncData} {n k : Nat} {sp2 : Sp} (hk : 1 ≤ k) (F : Fun K "_law_exact" "_law_exact" s__law_exact A.f__law_exact fd) (T : Tx K mg A) (KInt : Kp P w K mg base CX0 1 A.f__law_is_int ["_law_thing"] spInt)
    (KExact : Kp P w K mg base CX0 k A.f__law_exact ["_law_told", "_law_due"] sp2) (hs : ∀ m vs H Q E, m + 1 = n → spExD m vs H Q E → sp2 vs H Q E) : FnOk P w K mg base CX0 (k + 1) A.f__law_exact fd ["_law_told", "_law_due"] (spExD n) := by
  obtain ⟨fdI, G__law_is_int, b__law_is_int, k__law_is_int⟩ := KInt
  obtain ⟨fdE, G__law_exact, b__law_exact, k__law_exact⟩ := KExact
  have nd := sc__law_exact.nd
  refine F.ok sc__law_exact (fun vs H Q E h => ?_) (fun cdv A' outer s H vs Q E hr h => ?_)
  · obtain ⟨x, y, d, rfl, _⟩ := h
    rfl
  · obtain ⟨x, y, d, rfl, hx, hy, hn, q⟩ := h
    refine ⟨_, (pss_cons (ps_if (pt_val (pe_callB call_isi (by rfl) T.nisinstance (by decide +kernel) (pa_cons (pv 1) (pa_cons (pe_bltn (v := .ty "tuple") (by rfl) T.ntuple (by decide +kernel) rfl) pa_nil)))) (pss_cons (ps_if (PW.pt (pw_or (pt_not (pt_val (pe_callB call_isi (by rfl) T.nisinstance (by decide +kernel) (pa_cons (pv 0) (pa_cons (pe_bltn (v := .ty "tuple") (by rfl) T.ntuple (by decide +kernel) rfl) pa_nil))))) (pw_or1 (pt_cmpR op_ne (pe_callB call_len (by rfl) T.nlen (by decide +kernel) (pa_cons (pv 0) pa_nil)) (pe_callB call_len (by rfl) T.nlen (by decide +kernel) (pa_cons (pv 1) pa_nil)) (nomark _))))) (pss_one (ps_ret pe_bl)) pss_nil)
  (pss_cons (ps_for PassesOwn.never rfl (RZ.pi_zipA (by rfl) T.nzip (pa_cons (pv 0) (pa_cons (pv 1) pa_nil))) (pg_tup (by rfl) (pgs_cons (pg_name (i := 2) nd rfl (by first | exact Or.inl rfl | exact Or.inr rfl)) (pgs_cons (pg_name (i := 3) nd rfl (by first | exact Or.inl rfl | exact Or.inr rfl)) pgs_nil))) (pss_one (ps_if (pt_not (pt_val (pe_call G__law_exact (hr.mono (by omega)) rfl T.m_law_exact k__law_exact b__law_exact .nil pass0 (pa_cons (pv 2) (pa_cons (pv 3) pa_nil))))) (pss_one (ps_ret pe_bl)) pss_nil)))
  (pss_one (ps_ret pe_bl)))) pss_nil)
  (pss_cons (ps_if (pt_cmpR op_isN (pv 1) pe_non (nomark _)) (pss_one (ps_ret (pe_cmpR op_isN (pv 0) pe_non (nomark _)))) pss_nil)
  (pss_cons (ps_if (pt_cmpR op_isB1 (pv 1) pe_bl (nomark _)) (pss_one (ps_ret (pe_cmpR op_isB1 (pv 0) pe_bl (nomark _)))) pss_nil)
  (pss_cons (ps_if (pt_cmpR op_isB1 (pv 1) pe_bl (nomark _)) (pss_one (ps_ret (pe_cmpR op_isB1 (pv 0) pe_bl (nomark _)))) pss_nil)
  (pss_cons (ps_if (pt_val (pe_callB call_isi (by rfl) T.nisinstance (by decide +kernel) (pa_cons (pv 1) (pa_cons (pe_bltn (v := .ty "str") (by rfl) T.nstr (by decide +kernel) rfl) pa_nil)))) (pss_one (ps_ret (pe_and (pe_callB call_isi (by rfl) T.nisinstance (by decide +kernel) (pa_cons (pv 0) (pa_cons (pe_bltn (v := .ty "str") (by rfl) T.nstr (by decide +kernel) rfl) pa_nil))) (pe_one (pe_cmpR op_eq (pv 0) (pv 1) (nomark _)))))) pss_nil)
  (pss_one (ps_ret (pe_and (pe_call G__law_is_int (hr.mono (by omega)) rfl T.m_law_is_int k__law_is_int b__law_is_int .nil pass0 (pa_cons (pv 0) pa_nil)) (pe_one (pe_cmpR op_eq (pv 0) (pv 1) (nomark _))))))))))), ?_⟩
    cases hy with
    | non =>
      cases hx
      refine ⟨_, rfl, _, _, _, _, false, rfl, .ty _, .base .non, kit_ty (by decide +kernel), _, rfl, iteF ?_⟩
      refine ⟨_, rfl, rfl, _, rfl, iteY rfl ?_⟩
      refine ⟨_, rfl, rfl, ?_⟩
      show Q (.bl (decide (V.non = V.non))) H
      rw [decide_eq_true rfl]
      exact q H (Same.refl H)
    | bl b =>
      cases hx
      refine ⟨_, rfl, _, _, _, _, false, rfl, .ty _, .base (.bl _), kit_ty (by decide +kernel), _, rfl, iteF ?_⟩
      refine ⟨_, rfl, rfl, _, rfl, iteN (fun z => nomatch z) ?_⟩
      cases b with
      | true =>
        refine ⟨_, rfl, _, rfl, trivial, _, rfl, iteY rfl ?_⟩
        refine ⟨_, rfl, _, rfl, trivial, ?_⟩
        show Q (.bl (decide (V.bl true = V.bl true))) H
        rw [decide_eq_true rfl]
        exact q H (Same.refl H)
      | false =>
        refine ⟨_, rfl, _, rfl, trivial, _, rfl, iteN (fun z => nomatch z) ?_⟩
        refine ⟨_, rfl, _, rfl, trivial, _, rfl, iteY rfl ?_⟩
        refine ⟨_, rfl, _, rfl, trivial, ?_⟩
        show Q (.bl (decide (V.bl false = V.bl false))) H
        rw [decide_eq_true rfl]
        exact q H (Same.refl H)
    | int i =>
      cases hx
      refine ⟨_, rfl, _, _, _, _, false, rfl, .ty _, .base (.int _), kit_ty (by decide +kernel), _, rfl, iteF ?_⟩
      refine ⟨_, rfl, rfl, _, rfl, iteN (fun z => nomatch z) ?_⟩
      refine ⟨_, rfl, _, rfl, trivial, _, rfl, iteN (fun z => nomatch z) ?_⟩
      refine ⟨_, rfl, _, rfl, trivial, _, rfl, iteN (fun z => nomatch z) ?_⟩
      refine ⟨_, rfl, _, _, _, _, false, rfl, .ty _, .base (.int _), kit_ty (by decide +kernel), _, rfl, iteF ?_⟩
      refine ⟨_, rfl, .inl ⟨i, rfl, _, rfl, iteT ?_⟩⟩
      refine ⟨_, rfl, _, rfl, rfl, ?_⟩
      show Q (.bl (decide (V.int i = V.int i))) H
      rw [decide_eq_true rfl]
      exact q H (Same.refl H)
    | str a =>
      cases hx
      refine ⟨_, rfl, _, _, _, _, false, rfl, .ty _, .base (.str _), kit_ty (by decide +kernel), _, rfl, iteF ?_⟩
      refine ⟨_, rfl, rfl, _, rfl, iteN (fun z => nomatch z) ?_⟩
      refine ⟨_, rfl, _, rfl, trivial, _, rfl, iteN (fun z => nomatch z) ?_⟩
      refine ⟨_, rfl, _, rfl, trivial, _, rfl, iteN (fun z => nomatch z) ?_⟩
      refine ⟨_, rfl, _, _, _, _, true, rfl, .ty _, .base (.str _), kit_ty (by decide +kernel), _, rfl, iteT ?_⟩
      refine ⟨_, rfl, _, _, _, _, true, rfl, .ty _, .base (.str _), kit_ty (by decide +kernel), _, rfl, iteT ?_⟩
      refine ⟨_, rfl, _, rfl, rfl, ?_⟩
      show Q (.bl (decide (V.str a = V.str a))) H
      rw [decide_eq_true rfl]
      exact q H (Same.refl H)
    | @tup r ys ds hr2 ry =>
      cases hx with
      | @tup p xs _ hp rx =>
        obtain ⟨m, rfl⟩ : ∃ m, m + 1 = n := ⟨n - 1, by rw [PyData.depth] at hn; omega⟩
        have hd : PyData.depthAll ds ≤ m := by
          rw [PyData.depth] at hn
          omega
        have el : xs.length = ys.length := rx.len.trans ry.len.symm
        refine ⟨_, rfl, _, _, _, _, true, rfl, .ty _, .base (.tup hr2), kit_ty (by decide +kernel), _, rfl, iteT ?_⟩
        refine ⟨_, rfl, _, _, _, _, true, rfl, .ty _, .base (.tup hp), kit_ty (by decide +kernel), _, rfl, iteF ?_⟩
        refine ⟨_, rfl, V.ref p, _, rfl, .inr ⟨_, SqT.of hp, rfl⟩, _, rfl, V.ref r, _, rfl, .inr ⟨_, SqT.of hr2, rfl⟩, rfl, _, rfl, iteNS (by rw [el]) ?_⟩
        refine ⟨_, rfl, _, rfl, p, r, _, _, rfl, .inr ⟨SqT.of hp, SqT.of hr2, RZ.for_zipT el (fun _ σ H' => ∃ o2 o3, σ = [some (.ref p), some (.ref r), o2, o3] ∧ Same H H') ⟨none, none, rfl, Same.refl H⟩ (fun i σ H' ⟨_, _, _, sm⟩ => ⟨SqT.of (sm _ _ hp), SqT.of (sm _ _ hr2)⟩) ?_ ?_⟩⟩
        · rintro i x y U σ H' hx hy ⟨o2, o3, rfl, sm⟩ hU
          obtain ⟨d1, e1, t1⟩ := rx.get hx
          obtain ⟨d2, e2, t2⟩ := ry.get hy
          obtain rfl : d1 = d2 := Option.some.inj (e1.symm.trans e2)
          have s2 := sm.trans (same_new (o := .tup [x, y]) hU)
          refine ⟨U, _, rfl, SqT.of upd_same, rfl, _, _, rfl, _, _, rfl, rfl, ?_⟩
          refine ⟨_, rfl, _, rfl, hs m _ _ _ _ rfl ⟨x, y, d1, rfl, t1.mono s2, t2.mono s2, Nat.le_trans (depth_le e1) hd, fun H2 s3 => ⟨_, rfl, iteF ?_⟩⟩⟩
          exact ⟨_, _, rfl, s2.trans s3⟩
        · rintro σ H' ⟨o2, o3, rfl, sm⟩
          exact q H' sm
theorem ok_ex {fd : FuncData} (F : Fun K "_law_exact" "_law_exact" s__law_exact A.f__law_exact fd) (T : Tx K mg A) (KInt : Kp P w K mg base CX0 1 A.f__law_is_int ["_law_thing"] spInt) (b : Binds K fd ["_law_told", "_law_due"] []) :
    ∀ n, FnOk P w K mg base CX0 (n + 2) A.f__law_exact fd ["_law_told", "_law_due"] (spExD n)
  | 0 => ok_exStep (Nat.le_refl 1) F T KInt ⟨fd, ok_never (k := 0) F sc__law_exact, b, F.kp⟩ fun m _ _ _ _ e => absurd e (by omega)
  | n + 1 => ok_exStep (by omega) F T KInt ⟨fd, ok_ex F T KInt b n, b, F.kp⟩ fun m _ _ _ _ e h => by
    obtain rfl : m = n := by omega
    exact h
end
end As

namespace Ow
open PySem PySem.Spec PyProof.Rows L2
/-! ## things as they may be passed: data with lists, and an empty dict -/
mutual
inductive Th (H : Hp) : V → PyData → Prop
  | non : Th H .non .none
  | bl (b : Bool) : Th H (.bl b) (.bool b)
  | int (i : Int) : Th H (.int i) (.int i)
  | str {z : Str} (h : z.length ≤ sizeLine) : Th H (.str z) (.str z)
  | lst {a : Addr} {xs : List V} {ds : List PyData} (h : H a = some (.lst xs)) (hz : xs.length ≤ sizeLine) (r : ThAll H xs ds) : Th H (.ref a) (.list ds)
  | tup {a : Addr} {xs : List V} {ds : List PyData} (h : H a = some (.tup xs)) (hz : xs.length ≤ sizeLine) (r : ThAll H xs ds) : Th H (.ref a) (.tuple ds)
  | dct {a : Addr} (h : H a = some (.dK [])) : Th H (.ref a) (.dict [])
inductive ThAll (H : Hp) : List V → List PyData → Prop
  | nil : ThAll H [] []
  | cons {x : V} {xs : List V} {d : PyData} {ds : List PyData} (h : Th H x d) (r : ThAll H xs ds) : ThAll H (x :: xs) (d :: ds)
end
mutual
theorem Th.mono {H H' : Hp} (e : Same H H') : ∀ {x : V} {d : PyData}, Th H x d → Th H' x d
  | _, _, .non => .non
  | _, _, .bl b => .bl b
  | _, _, .int i => .int i
  | _, _, .str h => .str h
  | _, _, .lst h z r => .lst (e _ _ h) z (ThAll.mono e r)
  | _, _, .tup h z r => .tup (e _ _ h) z (ThAll.mono e r)
  | _, _, .dct h => .dct (e _ _ h)
theorem ThAll.mono {H H' : Hp} (e : Same H H') : ∀ {xs : List V} {ds : List PyData}, ThAll H xs ds → ThAll H' xs ds
  | _, _, .nil => .nil
  | _, _, .cons h r => .cons (Th.mono e h) (ThAll.mono e r)
end
theorem ThAll.len {H : Hp} : ∀ {xs : List V} {ds : List PyData}, ThAll H xs ds → xs.length = ds.length
  | _, _, .nil => rfl
  | _, _, .cons _ r => by rw [List.length_cons, List.length_cons, ThAll.len r]
theorem ThAll.get {H : Hp} : ∀ {xs : List V} {ds : List PyData}, ThAll H xs ds → ∀ {i : Nat} {x : V}, xs[i]? = some x → ∃ d, ds[i]? = some d ∧ Th H x d
  | _, _, .nil, _, _, h => by simp at h
  | _, _, .cons (d := d) h r, 0, x, e => ⟨d, rfl, by
    have e' := Option.some.inj e
    rw [← e']
    exact h⟩
  | _, _, .cons h r, i + 1, x, e => ThAll.get r (i := i) e
def nameD : PyData → String
  | .none => "NoneType"
  | .bool _ => "bool"
  | .int _ => "int"
  | .str _ => "str"
  | .list _ => "list"
  | .tuple _ => "tuple"
  | .dict _ => "dict"
theorem Th.ty {K : PySem.W.Frag} {H : Hp} {x : V} {d : PyData} (h : Th H x d) : TyX K H x (.type (nameD d)) := by
  cases h with
  | non => exact .base .non
  | bl b => exact .base (.bl b)
  | int i => exact .base (.int i)
  | str h => exact .base (.str _)
  | lst h z r => exact .base (.lst h)
  | tup h z r => exact .base (.tup h)
  | dct h => exact .base (.dK h)
def isIntD : PyData → Bool
  | .int _ => true
  | _ => false
def isTupD : PyData → Bool
  | .list _ => true
  | .tuple _ => true
  | _ => false
def itemsD : PyData → List PyData
  | .list ds => ds
  | .tuple ds => ds
  | _ => []
def belowD (n : Int) : PyData → Bool
  | .int i => decide (0 ≤ i) && decide (i < n)
  | _ => false
def tupOfD (d : PyData) (n : Int) : Bool := isTupD d && decide (((itemsD d).length : Int) = n)
def intsD (d : PyData) (n : Int) : Bool := tupOfD d n && (itemsD d).all isIntD
theorem kit_int : ∀ d : PyData, kitB (nameD d) "int" = some (match d with | .int _ => true | .bool _ => true | _ => false)
  | .none => (by decide +kernel : kitB "NoneType" "int" = some false)
  | .bool _ => (by decide +kernel : kitB "bool" "int" = some true)
  | .int _ => (by decide +kernel : kitB "int" "int" = some true)
  | .str _ => (by decide +kernel : kitB "str" "int" = some false)
  | .list _ => (by decide +kernel : kitB "list" "int" = some false)
  | .tuple _ => (by decide +kernel : kitB "tuple" "int" = some false)
  | .dict _ => (by decide +kernel : kitB "dict" "int" = some false)
theorem kit_bool : ∀ d : PyData, kitB (nameD d) "bool" = some (match d with | .bool _ => true | _ => false)
  | .none => (by decide +kernel : kitB "NoneType" "bool" = some false)
  | .bool _ => (by decide +kernel : kitB "bool" "bool" = some true)
  | .int _ => (by decide +kernel : kitB "int" "bool" = some false)
  | .str _ => (by decide +kernel : kitB "str" "bool" = some false)
  | .list _ => (by decide +kernel : kitB "list" "bool" = some false)
  | .tuple _ => (by decide +kernel : kitB "tuple" "bool" = some false)
  | .dict _ => (by decide +kernel : kitB "dict" "bool" = some false)
theorem kit_tups {K : PySem.W.Frag} : ∀ d : PyData, PySem.W.kitAny K (.type (nameD d)) [.type "list", .type "tuple"] = some (isTupD d)
  | .none => kitAny_cons (b := false) (kit_ty (by decide +kernel : kitB "NoneType" "list" = some false)) (fun _ => kitAny_cons (b := false) (kit_ty (by decide +kernel : kitB "NoneType" "tuple" = some false)) (fun _ => rfl) nofun) nofun
  | .bool _ => kitAny_cons (b := false) (kit_ty (by decide +kernel : kitB "bool" "list" = some false)) (fun _ => kitAny_cons (b := false) (kit_ty (by decide +kernel : kitB "bool" "tuple" = some false)) (fun _ => rfl) nofun) nofun
  | .int _ => kitAny_cons (b := false) (kit_ty (by decide +kernel : kitB "int" "list" = some false)) (fun _ => kitAny_cons (b := false) (kit_ty (by decide +kernel : kitB "int" "tuple" = some false)) (fun _ => rfl) nofun) nofun
  | .str _ => kitAny_cons (b := false) (kit_ty (by decide +kernel : kitB "str" "list" = some false)) (fun _ => kitAny_cons (b := false) (kit_ty (by decide +kernel : kitB "str" "tuple" = some false)) (fun _ => rfl) nofun) nofun
  | .list _ => kitAny_cons (b := true) (kit_ty (by decide +kernel : kitB "list" "list" = some true)) nofun (fun _ => rfl)
  | .tuple _ => kitAny_cons (b := false) (kit_ty (by decide +kernel : kitB "tuple" "list" = some false)) (fun _ => kitAny_cons (b := true) (kit_ty (by decide +kernel : kitB "tuple" "tuple" = some true)) nofun (fun _ => rfl)) nofun
  | .dict _ => kitAny_cons (b := false) (kit_ty (by decide +kernel : kitB "dict" "list" = some false)) (fun _ => kitAny_cons (b := false) (kit_ty (by decide +kernel : kitB "dict" "tuple" = some false)) (fun _ => rfl) nofun) nofun
theorem Th.seq {K : PySem.W.Frag} {H : Hp} {x : V} {d : PyData} (h : Th H x d) (t : isTupD d = true) : ∃ a xs, x = .ref a ∧ (SqL K H a xs ∨ SqT K H a xs) ∧ xs.length ≤ sizeLine ∧ ThAll H xs (itemsD d) := by
  cases h with
  | lst h z r => exact ⟨_, _, rfl, .inl (SqL.of h), z, r⟩
  | tup h z r => exact ⟨_, _, rfl, .inr (SqT.of h), z, r⟩
  | _ => cases t
def spIsInt : Sp := fun vs H Q _ => ∃ (x : V) (d : PyData), vs = [x] ∧ Th H x d ∧ Q (.bl (isIntD d)) H
def spIsTup : Sp := fun vs H Q _ => ∃ (x : V) (d : PyData), vs = [x] ∧ Th H x d ∧ ∀ H', Same H H' → Q (.bl (isTupD d)) H'
def spBelow : Sp := fun vs H Q _ => ∃ (x : V) (d : PyData) (n : Int), vs = [x, .int n] ∧ Th H x d ∧ Q (.bl (belowD n d)) H
def spTupOf : Sp := fun vs H Q _ => ∃ (x : V) (d : PyData) (n : Int), vs = [x, .int n] ∧ Th H x d ∧ ∀ H', Same H H' → Q (.bl (tupOfD d n)) H'
def spInts : Sp := fun vs H Q _ => ∃ (x : V) (d : PyData) (n : Int), vs = [x, .int n] ∧ Th H x d ∧ ∀ H', Same H H' → Q (.bl (intsD d n)) H'
end Ow
namespace As
open PySem PySem.Spec PyProof.Rows L2 Ow
section
variable {P : Program} {w : World} {K : PySem.W.Frag} {mg : Str → Option Value} {base : Heap} {A : Ad}
abbrev N_is_integer : List Str := ["thing"]
theorem sc_is_integer : FnScope N_is_integer ["thing"] (defScope s_is_integer) := ⟨rfl, rfl, rfl, by decide +kernel, rfl, by decide +kernel, by decide +kernel⟩
theorem ok_isint {fd : FuncData} (F : Fun K "is_integer" "is_integer" s_is_integer A.f_is_integer fd) (T : Tx K mg A) : FnOk P w K mg base CX0 1 A.f_is_integer fd ["thing"] spIsInt := by
  have nd := sc_is_integer.nd
  refine F.ok sc_is_integer (fun vs H Q E h => ?_) (fun cdv A' outer s H vs Q E hr h => ?_)
  · obtain ⟨x, d, rfl, _⟩ := h
    rfl
  · obtain ⟨x, d, rfl, hx, q⟩ := h
    refine ⟨_, (pss_one (ps_ret (pe_and (pe_callB call_isi (by rfl) T.nisinstance (by decide +kernel) (pa_cons (pv 0) (pa_cons (pe_bltn (v := .ty "int") (by rfl) T.nint (by decide +kernel) rfl) pa_nil))) (pe_one (pe_not (pe_callB call_isi (by rfl) T.nisinstance (by decide +kernel) (pa_cons (pv 0) (pa_cons (pe_bltn (v := .ty "bool") (by rfl) T.nbool (by decide +kernel) rfl) pa_nil)))))))), ?_⟩
    refine ⟨_, rfl, _, _, _, _, _, rfl, .ty _, hx.ty, kit_ty (kit_int d), ?_⟩
    refine ⟨_, rfl, ?_⟩
    cases d
    all_goals first
      | exact iteF q
      | (refine iteT ⟨_, rfl, _, _, _, _, _, rfl, .ty _, hx.ty, kit_ty (kit_bool _), _, rfl, ?_⟩
         exact q)
abbrev N_is_tuple : List Str := ["thing"]
theorem sc_is_tuple : FnScope N_is_tuple ["thing"] (defScope s_is_tuple) := ⟨rfl, rfl, rfl, by decide +kernel, rfl, by decide +kernel, by decide +kernel⟩
theorem ok_istup {fd : FuncData} (F : Fun K "is_tuple" "is_tuple" s_is_tuple A.f_is_tuple fd) (T : Tx K mg A) : FnOk P w K mg base CX0 1 A.f_is_tuple fd ["thing"] spIsTup := by
  have nd := sc_is_tuple.nd
  refine F.ok sc_is_tuple (fun vs H Q E h => ?_) (fun cdv A' outer s H vs Q E hr h => ?_)
  · obtain ⟨x, d, rfl, _⟩ := h
    rfl
  · obtain ⟨x, d, rfl, hx, q⟩ := h
    refine ⟨_, (pss_one (ps_ret (pe_callB call_isiT (by rfl) T.nisinstance (by decide +kernel) (pa_cons (pv 0) (pa_cons (pe_tup (pa_cons (pe_bltn (v := .ty "list") (by rfl) T.nlist (by decide +kernel) rfl) (pa_cons (pe_bltn (v := .ty "tuple") (by rfl) T.ntuple (by decide +kernel) rfl) pa_nil))) pa_nil))))), ?_⟩
    refine ⟨_, rfl, (by show 2 ≤ sizeLine; decide), fun p hp => ?_⟩
    exact ⟨_, p, _, _, _, _, rfl, upd_same, .cons (.ty _) (.cons (.ty _) .nil), (hx.mono (same_new hp)).ty, kit_tups d, q _ (same_new hp)⟩
abbrev N_is_below : List Str := ["thing", "count"]
theorem sc_is_below : FnScope N_is_below ["thing", "count"] (defScope s_is_below) := ⟨rfl, rfl, rfl, by decide +kernel, rfl, by decide +kernel, by decide +kernel⟩
theorem ok_below {fd : FuncData} (F : Fun K "is_below" "is_below" s_is_below A.f_is_below fd) (T : Tx K mg A) (KI : Kp P w K mg base CX0 1 A.f_is_integer ["thing"] spIsInt) : FnOk P w K mg base CX0 2 A.f_is_below fd ["thing", "count"] spBelow := by
  obtain ⟨fdI, G_is_integer, b_is_integer, k_is_integer⟩ := KI
  have nd := sc_is_below.nd
  refine F.ok sc_is_below (fun vs H Q E h => ?_) (fun cdv A' outer s H vs Q E hr h => ?_)
  · obtain ⟨x, d, n, rfl, _⟩ := h
    rfl
  · obtain ⟨x, d, n, rfl, hx, q⟩ := h
    refine ⟨_, (pss_one (ps_ret (pe_and (pe_call G_is_integer (hr.mono (by omega)) rfl T.mis_integer k_is_integer b_is_integer .nil pass0 (pa_cons (pv 0) pa_nil)) (pe_one (pe_chain op_le op_lt pe_int (pv 0) (pv 1)))))), ?_⟩
    refine ⟨_, rfl, x, d, rfl, hx, _, rfl, ?_⟩
    cases hx with
    | int i =>
      refine iteT ?_
      refine ⟨_, rfl, _, _, rfl, rfl, _, rfl, ?_⟩
      by_cases c : 0 ≤ i
      · refine iteY c ⟨_, rfl, _, _, rfl, rfl, ?_⟩
        have e : belowD n (.int i) = decide (i < n) := by
          show (decide (0 ≤ i) && decide (i < n)) = _
          rw [decide_eq_true c, Bool.true_and]
        rw [e] at q
        exact q
      · refine iteN c ?_
        have e : belowD n (.int i) = false := by
          show (decide (0 ≤ i) && decide (i < n)) = _
          rw [decide_eq_false c, Bool.false_and]
        rw [e] at q
        exact q
    | _ => exact iteF q
abbrev N_is_tuple_of : List Str := ["thing", "count"]
theorem sc_is_tuple_of : FnScope N_is_tuple_of ["thing", "count"] (defScope s_is_tuple_of) := ⟨rfl, rfl, rfl, by decide +kernel, rfl, by decide +kernel, by decide +kernel⟩
theorem ok_tupof {fd : FuncData} (F : Fun K "is_tuple_of" "is_tuple_of" s_is_tuple_of A.f_is_tuple_of fd) (T : Tx K mg A) (KT : Kp P w K mg base CX0 1 A.f_is_tuple ["thing"] spIsTup) : FnOk P w K mg base CX0 2 A.f_is_tuple_of fd ["thing", "count"] spTupOf := by
  obtain ⟨fdI, G_is_tuple, b_is_tuple, k_is_tuple⟩ := KT
  have nd := sc_is_tuple_of.nd
  refine F.ok sc_is_tuple_of (fun vs H Q E h => ?_) (fun cdv A' outer s H vs Q E hr h => ?_)
  · obtain ⟨x, d, n, rfl, _⟩ := h
    rfl
  · obtain ⟨x, d, n, rfl, hx, q⟩ := h
    refine ⟨_, (pss_one (ps_ret (pe_and (pe_call G_is_tuple (hr.mono (by omega)) rfl T.mis_tuple k_is_tuple b_is_tuple .nil pass0 (pa_cons (pv 0) pa_nil)) (pe_one (pe_cmpR op_eq (pe_callB call_len (by rfl) T.nlen (by decide +kernel) (pa_cons (pv 0) pa_nil)) (pv 1) (nomark _)))))), ?_⟩
    refine ⟨_, rfl, x, d, rfl, hx, fun H1 s1 => ⟨_, rfl, ?_⟩⟩
    unfold tupOfD at q
    cases t : isTupD d with
    | false =>
      rw [t] at q
      exact iteF (q H1 s1)
    | true =>
      rw [t, Bool.true_and] at q
      obtain ⟨a, xs, rfl, hs, _, r⟩ := (hx.mono s1).seq (K := K) t
      refine iteT ⟨_, rfl, V.ref a, xs.length, rfl, ?_, ?_⟩
      · rcases hs with hs | hs
        · exact .inl ⟨_, hs, rfl⟩
        · exact .inr ⟨_, hs, rfl⟩
      refine ⟨_, rfl, rfl, ?_⟩
      have e : decide (V.int (xs.length : Int) = V.int n) = decide (((itemsD d).length : Int) = n) := by
        rw [← r.len]
        exact decide_eq_decide.mpr ⟨fun z => V.int.inj z, fun z => congrArg V.int z⟩
      show Q (.bl (decide (V.int (xs.length : Int) = V.int n))) H1
      rw [e]
      exact q H1 s1
end
end As

namespace Ow
open PySem PySem.Spec PyProof.Rows L2
mutual
def deepD : PyData → PyData
  | .list ds => .tuple (deepAll ds)
  | .tuple ds => .tuple (deepAll ds)
  | d => d
def deepAll : List PyData → List PyData
  | [] => []
  | d :: ds => deepD d :: deepAll ds
end
theorem deepAll_map : ∀ ds, deepAll ds = ds.map deepD
  | [] => by rw [deepAll]; rfl
  | d :: ds => by rw [deepAll, deepAll_map ds]; rfl
mutual
/-- no dict in it -/
def plainD : PyData → Bool
  | .dict _ => false
  | .list ds => plainAll ds
  | .tuple ds => plainAll ds
  | _ => true
def plainAll : List PyData → Bool
  | [] => true
  | d :: ds => plainD d && plainAll ds
end
theorem plainAll_get : ∀ {ds : List PyData} {i : Nat} {d : PyData}, plainAll ds = true → ds[i]? = some d → plainD d = true
  | [], _, _, _, h => by simp at h
  | x :: xs, 0, d, p, h => by
    obtain rfl : x = d := Option.some.inj h
    rw [plainAll] at p
    exact (Bool.and_eq_true_iff.mp p).1
  | x :: xs, i + 1, d, p, h => by
    rw [plainAll] at p
    exact plainAll_get (ds := xs) (i := i) (Bool.and_eq_true_iff.mp p).2 h
mutual
inductive Tt (H : Hp) : V → PyData → Prop
  | non : Tt H .non .none
  | bl (b : Bool) : Tt H (.bl b) (.bool b)
  | int (i : Int) : Tt H (.int i) (.int i)
  | str {z : Str} (h : z.length ≤ sizeLine) : Tt H (.str z) (.str z)
  | tup {a : Addr} {xs : List V} {ds : List PyData} (h : H a = some (.tup xs)) (hz : xs.length ≤ sizeLine) (r : TtAll H xs ds) : Tt H (.ref a) (.tuple ds)
inductive TtAll (H : Hp) : List V → List PyData → Prop
  | nil : TtAll H [] []
  | cons {x : V} {xs : List V} {d : PyData} {ds : List PyData} (h : Tt H x d) (r : TtAll H xs ds) : TtAll H (x :: xs) (d :: ds)
end
/-- all tuples stay -/
def KeepT (H H' : Hp) : Prop := ∀ a xs, H a = some (.tup xs) → H' a = some (.tup xs)
theorem KeepT.of {H H' : Hp} (e : Same H H') : KeepT H H' := fun a xs h => e a _ h
theorem KeepT.upd {H : Hp} {a : Addr} {o : HO} {ys : List V} (h : H a = some (.lst ys)) : KeepT H (upd H a o) := fun b xs hb => by
  rw [upd_ne (ne_of hb h (by simp))]
  exact hb
theorem KeepT.trans {H H1 H2 : Hp} (a : KeepT H H1) (b : KeepT H1 H2) : KeepT H H2 := fun c xs h => b c xs (a c xs h)
mutual
theorem Tt.keep {H H' : Hp} (e : KeepT H H') : ∀ {x : V} {d : PyData}, Tt H x d → Tt H' x d
  | _, _, .non => .non
  | _, _, .bl b => .bl b
  | _, _, .int i => .int i
  | _, _, .str h => .str h
  | _, _, .tup h z r => .tup (e _ _ h) z (TtAll.keep e r)
theorem TtAll.keep {H H' : Hp} (e : KeepT H H') : ∀ {xs : List V} {ds : List PyData}, TtAll H xs ds → TtAll H' xs ds
  | _, _, .nil => .nil
  | _, _, .cons h r => .cons (Tt.keep e h) (TtAll.keep e r)
end
mutual
theorem Tt.th {H : Hp} : ∀ {x : V} {d : PyData}, Tt H x d → Th H x d
  | _, _, .non => .non
  | _, _, .bl b => .bl b
  | _, _, .int i => .int i
  | _, _, .str h => .str h
  | _, _, .tup h z r => .tup h z (TtAll.th r)
theorem TtAll.th {H : Hp} : ∀ {xs : List V} {ds : List PyData}, TtAll H xs ds → ThAll H xs ds
  | _, _, .nil => .nil
  | _, _, .cons h r => .cons (Tt.th h) (TtAll.th r)
end
mutual
theorem Tt.dt {H : Hp} : ∀ {x : V} {d : PyData}, Tt H x d → Dt H x d
  | _, _, .non => .non
  | _, _, .bl b => .bl b
  | _, _, .int i => .int i
  | _, _, .str h => .str _
  | _, _, .tup h z r => .tup h (TtAll.dt r)
theorem TtAll.dt {H : Hp} : ∀ {xs : List V} {ds : List PyData}, TtAll H xs ds → DtAll H xs ds
  | _, _, .nil => .nil
  | _, _, .cons h r => .cons (Tt.dt h) (TtAll.dt r)
end
theorem TtAll.snoc {H : Hp} : ∀ {xs : List V} {ds : List PyData} {x : V} {d : PyData}, TtAll H xs ds → Tt H x d → TtAll H (xs ++ [x]) (ds ++ [d])
  | _, _, _, _, .nil, h => .cons h .nil
  | _, _, _, _, .cons a r, h => .cons a (TtAll.snoc r h)
def spDeep (n : Nat) : Sp := fun vs H Q _ => ∃ (x : V) (d : PyData), vs = [x] ∧ Th H x d ∧ d.depth ≤ n ∧ plainD d = true ∧ ∀ v H', Same H H' → Tt H' v (deepD d) → Q v H'
theorem ThAll.snoc {H : Hp} : ∀ {xs : List V} {ds : List PyData} {x : V} {d : PyData}, ThAll H xs ds → Th H x d → ThAll H (xs ++ [x]) (ds ++ [d])
  | _, _, _, _, .nil, h => .cons h .nil
  | _, _, _, _, .cons a r, h => .cons a (ThAll.snoc r h)
theorem same_upd {H H' : Hp} {D : Addr} {o : HO} (sm : Same H H') (hD : H D = none) : Same H (upd H' D o) := fun b u hb => by
  rw [upd_ne (ne_of_none hb hD)]
  exact sm b u hb
theorem take_get' {α : Type} : ∀ {l : List α} {i : Nat} {x : α}, l[i]? = some x → l.take (i + 1) = l.take i ++ [x]
  | [], i, x, h => by simp at h
  | a :: l, 0, x, h => by
    have e : a = x := Option.some.inj h
    subst e
    rfl
  | a :: l, i + 1, x, h => by
    show a :: l.take (i + 1) = a :: l.take i ++ [x]
    rw [take_get' (l := l) (i := i) h]
    rfl
theorem leaf_tt {H : Hp} {x : V} {d : PyData} (h : Th H x d) (t : isTupD d = false) (p : plainD d = true) : Tt H x (deepD d) := by
  cases h with
  | non => exact .non
  | bl b => exact .bl b
  | int i => exact .int i
  | str h => exact .str h
  | lst h z r => cases t
  | tup h z r => cases t
  | dct h => rw [plainD] at p; cases p
theorem depth_pos {d : PyData} {n : Nat} (t : isTupD d = true) (hn : d.depth ≤ n) : ∃ m, m + 1 = n := by
  refine ⟨n - 1, ?_⟩
  cases d <;> first | cases t | skip
  all_goals (rw [PyData.depth] at hn; omega)
theorem tup_parts {d : PyData} {m : Nat} (t : isTupD d = true) (hn : d.depth ≤ m + 1) (hp : plainD d = true) : PyData.depthAll (itemsD d) ≤ m ∧ plainAll (itemsD d) = true ∧ deepD d = .tuple ((itemsD d).map deepD) := by
  cases d <;> first | cases t | skip
  all_goals (rw [PyData.depth] at hn; rw [plainD] at hp; rw [deepD, deepAll_map]; exact ⟨Nat.le_of_lt_succ (by first | exact Nat.lt_succ_of_le (by simp only [itemsD]; omega)), hp, rfl⟩)
/-- the first i things laid in the list at D -/
def TPv (H1 : Hp) (D : Addr) (ds : List PyData) (i : Nat) (H2 : Hp) : Prop := ∃ acc, H2 D = some (.lst acc) ∧ acc.length = i ∧ TtAll H2 acc ((ds.take i).map deepD) ∧ Same H1 H2
end Ow
namespace As
open PySem PySem.Spec PyProof.Rows L2 Ow
section
variable {P : Program} {w : World} {K : PySem.W.Frag} {mg : Str → Option Value} {base : Heap} {A : Ad}
abbrev N_as_tuples : List Str := ["thing", "item"]
theorem sc_as_tuples : FnScope N_as_tuples ["thing"] (defScope s_as_tuples) := ⟨rfl, rfl, rfl, by decide +kernel, rfl, by decide +kernel, by decide +kernel⟩
theorem ok_atStep {fd : FuncData} {n k : Nat} {sp2 : Sp} (hk : 1 ≤ k) (F : Fun K "as_tuples" "as_tuples" s_as_tuples A.f_as_tuples fd) (T : Tx K mg A) (KI : Kp P w K mg base CX0 1 A.f_is_tuple ["thing"] spIsTup)
    (KA : Kp P w K mg base CX0 k A.f_as_tuples ["thing"] sp2) (hs : ∀ m vs H Q E, m + 1 = n → spDeep m vs H Q E → sp2 vs H Q E) : FnOk P w K mg base CX0 (k + 1) A.f_as_tuples fd ["thing"] (spDeep n) := by
  obtain ⟨fdI, G_is_tuple, b_is_tuple, k_is_tuple⟩ := KI
  obtain ⟨fdE, G_as_tuples, b_as_tuples, k_as_tuples⟩ := KA
  have nd := sc_as_tuples.nd
  refine F.ok sc_as_tuples (fun vs H Q E h => ?_) (fun cdv A' outer s H vs Q E hr h => ?_)
  · obtain ⟨x, d, rfl, _⟩ := h
    rfl
  · obtain ⟨x, d, rfl, hx, hn, hp, q⟩ := h
    refine ⟨_, (pss_cons (ps_if (pt_not (pt_val (pe_call G_is_tuple (hr.mono (by omega)) rfl T.mis_tuple k_is_tuple b_is_tuple .nil pass0 (pa_cons (pv 0) pa_nil)))) (pss_one (ps_ret (pv 0))) pss_nil)
  (pss_one (ps_ret (pe_callTy call_tuple_of (by rfl) T.ntuple (by decide +kernel) (pa_cons (pe_lc (own := [("item", 1)]) (g := gName 1) (tt := tYes) rfl nd (pi_seq (pv 0)) (blkOk_by (own := [("item", 1)]) (N := N_as_tuples) (sc := defScope s_as_tuples) (by decide +kernel)) (fun _ _ _ _ _ => (pg_name (i := 1) nd rfl (by first | exact Or.inl rfl | exact Or.inr rfl))) (fun _ _ _ _ _ => pts_nil) (fun _ _ _ _ _ => (pe_call G_as_tuples (hr.mono (by omega)) rfl T.mas_tuples k_as_tuples b_as_tuples .nil pass0 (pa_cons (pv 1) pa_nil)))) pa_nil))))), ?_⟩
    refine ⟨_, rfl, x, d, rfl, hx, fun H1 s1 => ⟨_, rfl, ?_⟩⟩
    have hx1 := hx.mono s1
    cases t : isTupD d with
    | false =>
      refine iteT ⟨_, rfl, ?_⟩
      exact q _ H1 s1 (leaf_tt hx1 t hp)
    | true =>
      refine iteF ?_
      obtain ⟨m, rfl⟩ : ∃ m, m + 1 = n := depth_pos t hn
      obtain ⟨hd, hpl, ed⟩ := tup_parts t hn hp
      obtain ⟨a, xs, rfl, hsq, hz, r⟩ := hx1.seq (K := K) t
      rw [ed] at q
      have turn : ∀ D, H1 D = none → ∀ i x H2, xs[i]? = some x → TPv H1 D (itemsD d) i H2 → sp2 [x] H2 (fun y H4 => ∃ acc, H4 D = some (.lst acc) ∧ acc.length < sizeLine ∧ TPv H1 D (itemsD d) (i + 1) (upd H4 D (.lst (acc ++ [y])))) (fun _ _ _ => False) := by
        intro D hD i x H2 hx ⟨acc, h2, la, ta, sm⟩
        obtain ⟨e, ee, te⟩ := r.get hx
        have hi : i < xs.length := (List.getElem?_eq_some_iff.mp hx).1
        refine hs m _ _ _ _ rfl ⟨x, e, rfl, te.mono sm, Nat.le_trans (depth_le ee) hd, plainAll_get hpl ee, fun v H3 s3 tv => ⟨acc, s3 _ _ h2, by omega, acc ++ [v], upd_same, by rw [List.length_append, la]; rfl, ?_, same_upd (sm.trans s3) hD⟩⟩
        have kt := KeepT.upd (o := .lst (acc ++ [v])) (s3 _ _ h2)
        rw [take_get' ee, List.map_append]
        exact ((ta.keep (KeepT.of s3)).keep kt).snoc (tv.keep kt)
      have done : ∀ D H2, TPv H1 D (itemsD d) xs.length H2 → ∃ p ys, [V.ref D] = [.ref p] ∧ ((SqL K H2 p ys ∧ ∀ l, H2 l = none → Q (.ref l) (upd H2 l (.tup ys))) ∨ (SqT K H2 p ys ∧ Q (.ref p) H2)) := by
        intro D H2 ⟨acc, h2, la, ta, sm⟩
        rw [r.len, List.take_length] at ta
        refine ⟨D, acc, rfl, .inl ⟨SqL.of h2, fun l hl => q _ _ (s1.trans (sm.trans (same_new hl))) (.tup upd_same (by omega) (ta.keep (KeepT.of (same_new hl))))⟩⟩
      refine ⟨_, rfl, a, rfl, ?_⟩
      rcases hsq with hsq | hsq
      · refine .inl ⟨⟨xs, hsq⟩, fun D hD => ?_⟩
        refine lc_list (K := K) (xs := xs) (fun i H' => TPv H1 D (itemsD d) i H') ⟨[], upd_same, rfl, .nil, same_new hD⟩ (fun i H' _ ⟨_, _, _, _, sm⟩ => L2.Same.seq sm hsq) (fun i x H2 hx p => ⟨rfl, yes_go ?_⟩) (done D)
        exact ⟨_, rfl, turn D hD i x H2 hx p⟩
      · refine .inr ⟨⟨xs, hsq⟩, fun D hD => ?_⟩
        refine lc_tup (K := K) (xs := xs) (fun i H' => TPv H1 D (itemsD d) i H') ⟨[], upd_same, rfl, .nil, same_new hD⟩ (fun i H' _ ⟨_, _, _, _, sm⟩ => Ow.Same.sqT sm hsq) (fun i x H2 hx p => ⟨rfl, yes_go ?_⟩) (done D)
        exact ⟨_, rfl, turn D hD i x H2 hx p⟩
theorem ok_at {fd : FuncData} (F : Fun K "as_tuples" "as_tuples" s_as_tuples A.f_as_tuples fd) (T : Tx K mg A) (KI : Kp P w K mg base CX0 1 A.f_is_tuple ["thing"] spIsTup) (b : Binds K fd ["thing"] []) :
    ∀ n, FnOk P w K mg base CX0 (n + 2) A.f_as_tuples fd ["thing"] (spDeep n)
  | 0 => ok_atStep (Nat.le_refl 1) F T KI ⟨fd, ok_never (k := 0) F sc_as_tuples, b, F.kp⟩ fun m _ _ _ _ e => absurd e (by omega)
  | n + 1 => ok_atStep (by omega) F T KI ⟨fd, ok_at F T KI b n, b, F.kp⟩ fun m _ _ _ _ e h => by
    obtain rfl : m = n := by omega
    exact h
end
end As

namespace As
open PySem PySem.Spec PyProof.Rows L2 Ow
section
variable {P : Program} {w : World} {K : PySem.W.Frag} {mg : Str → Option Value} {base : Heap} {A : Ad}
abbrev N__law_deep : List Str := ["_law_thing", "_law_part"]
theorem sc__law_deep : FnScope N__law_deep ["_law_thing"] (defScope s__law_deep) := ⟨rfl, rfl, rfl, by decide +kernel, rfl, by decide +kernel, by decide +kernel⟩
theorem ok_ldStep {fd : FuncData} {n k : Nat} {sp2 : Sp} (hk : 1 ≤ k) (F : Fun K "_law_deep" "_law_deep" s__law_deep A.f__law_deep fd) (T : Tx K mg A)
    (KA : Kp P w K mg base CX0 k A.f__law_deep ["_law_thing"] sp2) (hs : ∀ m vs H Q E, m + 1 = n → spDeep m vs H Q E → sp2 vs H Q E) : FnOk P w K mg base CX0 (k + 1) A.f__law_deep fd ["_law_thing"] (spDeep n) := by
  obtain ⟨fdE, G__law_deep, b__law_deep, k__law_deep⟩ := KA
  have nd := sc__law_deep.nd
  refine F.ok sc__law_deep (fun vs H Q E h => ?_) (fun cdv A' outer s H vs Q E hr h => ?_)
  · obtain ⟨x, d, rfl, _⟩ := h
    rfl
  · obtain ⟨x, d, rfl, hx, hn, hp, q⟩ := h
    refine ⟨_, (pss_cons (ps_if (pt_val (pe_callB call_isiT (by rfl) T.nisinstance (by decide +kernel) (pa_cons (pv 0) (pa_cons (pe_tup (pa_cons (pe_bltn (v := .ty "list") (by rfl) T.nlist (by decide +kernel) rfl) (pa_cons (pe_bltn (v := .ty "tuple") (by rfl) T.ntuple (by decide +kernel) rfl) pa_nil))) pa_nil)))) (pss_one (ps_ret (pe_callTy call_tuple_of (by rfl) T.ntuple (by decide +kernel) (pa_cons (pe_lc (own := [("_law_part", 1)]) (g := gName 1) (tt := tYes) rfl nd (pi_seq (pv 0)) (blkOk_by (own := [("_law_part", 1)]) (N := N__law_deep) (sc := defScope s__law_deep) (by decide +kernel)) (fun _ _ _ _ _ => (pg_name (i := 1) nd rfl (by first | exact Or.inl rfl | exact Or.inr rfl))) (fun _ _ _ _ _ => pts_nil) (fun _ _ _ _ _ => (pe_call G__law_deep (hr.mono (by omega)) rfl T.m_law_deep k__law_deep b__law_deep .nil pass0 (pa_cons (pv 1) pa_nil)))) pa_nil)))) pss_nil)
  (pss_one (ps_ret (pv 0)))), ?_⟩
    refine ⟨_, rfl, (by show 2 ≤ sizeLine; decide), fun p0 hp0 => ?_⟩
    have s1 := same_new (o := .tup [.ty "list", .ty "tuple"]) hp0
    have hx1 := hx.mono s1
    refine ⟨_, p0, _, _, _, _, rfl, upd_same, .cons (.ty _) (.cons (.ty _) .nil), hx1.ty, kit_tups d, _, rfl, ?_⟩
    generalize upd H p0 (.tup [.ty "list", .ty "tuple"]) = H1 at s1 hx1 ⊢
    cases t : isTupD d with
    | false =>
      refine iteF ⟨_, rfl, ?_⟩
      exact q _ H1 s1 (leaf_tt hx1 t hp)
    | true =>
      refine iteT ?_
      obtain ⟨m, rfl⟩ : ∃ m, m + 1 = n := depth_pos t hn
      obtain ⟨hd, hpl, ed⟩ := tup_parts t hn hp
      obtain ⟨a, xs, rfl, hsq, hz, r⟩ := hx1.seq (K := K) t
      rw [ed] at q
      have turn : ∀ D, H1 D = none → ∀ i x H2, xs[i]? = some x → TPv H1 D (itemsD d) i H2 → sp2 [x] H2 (fun y H4 => ∃ acc, H4 D = some (.lst acc) ∧ acc.length < sizeLine ∧ TPv H1 D (itemsD d) (i + 1) (upd H4 D (.lst (acc ++ [y])))) (fun _ _ _ => False) := by
        intro D hD i x H2 hx ⟨acc, h2, la, ta, sm⟩
        obtain ⟨e, ee, te⟩ := r.get hx
        have hi : i < xs.length := (List.getElem?_eq_some_iff.mp hx).1
        refine hs m _ _ _ _ rfl ⟨x, e, rfl, te.mono sm, Nat.le_trans (depth_le ee) hd, plainAll_get hpl ee, fun v H3 s3 tv => ⟨acc, s3 _ _ h2, by omega, acc ++ [v], upd_same, by rw [List.length_append, la]; rfl, ?_, same_upd (sm.trans s3) hD⟩⟩
        have kt := KeepT.upd (o := .lst (acc ++ [v])) (s3 _ _ h2)
        rw [take_get' ee, List.map_append]
        exact ((ta.keep (KeepT.of s3)).keep kt).snoc (tv.keep kt)
      have done : ∀ D H2, TPv H1 D (itemsD d) xs.length H2 → ∃ p ys, [V.ref D] = [.ref p] ∧ ((SqL K H2 p ys ∧ ∀ l, H2 l = none → Q (.ref l) (upd H2 l (.tup ys))) ∨ (SqT K H2 p ys ∧ Q (.ref p) H2)) := by
        intro D H2 ⟨acc, h2, la, ta, sm⟩
        rw [r.len, List.take_length] at ta
        refine ⟨D, acc, rfl, .inl ⟨SqL.of h2, fun l hl => q _ _ (s1.trans (sm.trans (same_new hl))) (.tup upd_same (by omega) (ta.keep (KeepT.of (same_new hl))))⟩⟩
      refine ⟨_, rfl, a, rfl, ?_⟩
      rcases hsq with hsq | hsq
      · refine .inl ⟨⟨xs, hsq⟩, fun D hD => ?_⟩
        refine lc_list (K := K) (xs := xs) (fun i H' => TPv H1 D (itemsD d) i H') ⟨[], upd_same, rfl, .nil, same_new hD⟩ (fun i H' _ ⟨_, _, _, _, sm⟩ => L2.Same.seq sm hsq) (fun i x H2 hx p => ⟨rfl, yes_go ?_⟩) (done D)
        exact ⟨_, rfl, turn D hD i x H2 hx p⟩
      · refine .inr ⟨⟨xs, hsq⟩, fun D hD => ?_⟩
        refine lc_tup (K := K) (xs := xs) (fun i H' => TPv H1 D (itemsD d) i H') ⟨[], upd_same, rfl, .nil, same_new hD⟩ (fun i H' _ ⟨_, _, _, _, sm⟩ => Ow.Same.sqT sm hsq) (fun i x H2 hx p => ⟨rfl, yes_go ?_⟩) (done D)
        exact ⟨_, rfl, turn D hD i x H2 hx p⟩
theorem ok_ld {fd : FuncData} (F : Fun K "_law_deep" "_law_deep" s__law_deep A.f__law_deep fd) (T : Tx K mg A) (b : Binds K fd ["_law_thing"] []) :
    ∀ n, FnOk P w K mg base CX0 (n + 2) A.f__law_deep fd ["_law_thing"] (spDeep n)
  | 0 => ok_ldStep (Nat.le_refl 1) F T ⟨fd, ok_never (k := 0) F sc__law_deep, b, F.kp⟩ fun m _ _ _ _ e => absurd e (by omega)
  | n + 1 => ok_ldStep (by omega) F T ⟨fd, ok_ld F T b n, b, F.kp⟩ fun m _ _ _ _ e h => by
    obtain rfl : m = n := by omega
    exact h
end
end As

namespace As
open PySem PySem.Spec PyProof.Rows L2 Ow TL
section
variable {P : Program} {w : World} {K : PySem.W.Frag} {mg : Str → Option Value} {base : Heap} {A : Ad}
theorem take_more {α : Type} {l : List α} {i : Nat} {x : α} (h : l[i]? = some x) : l.take (i + 1) = l.take i ++ [x] := take_get' h
abbrev N_is_asks : List Str := ["thing", "places", "letter", "low", "high"]
theorem sc_is_asks : FnScope N_is_asks ["thing"] (defScope s_is_asks) := ⟨rfl, rfl, rfl, by decide +kernel, rfl, by decide +kernel, by decide +kernel⟩
def spAsks (K : PySem.W.Frag) : Sp := fun vs H Q _ => ∃ (x : V), vs = [x] ∧ Known K H x ∧ ∀ H', Same H H' → Q (.bl (asksV x)) H'
theorem ok_asks {fd : FuncData} (F : Fun K "is_asks" "is_asks" s_is_asks A.f_is_asks fd) (T : Tx K mg A) : FnOk P w K mg base CX0 1 A.f_is_asks fd ["thing"] (spAsks K) := by
  have nd := sc_is_asks.nd
  refine F.ok sc_is_asks (fun vs H Q E h => ?_) (fun cdv A' outer s H vs Q E hr h => ?_)
  · obtain ⟨x, rfl, _⟩ := h
    rfl
  · obtain ⟨x, rfl, hx, q⟩ := h
    refine ⟨_, (pss_cons (ps_if (PW.pt (pw_or (pt_not (pt_val (pe_callB call_isi (by rfl) T.nisinstance (by decide +kernel) (pa_cons (pv 0) (pa_cons (pe_bltn (v := .ty "str") (by rfl) T.nstr (by decide +kernel) rfl) pa_nil))))) (pw_or1 (pt_not (pt_chain op_le op_le pe_int (pe_callB call_len (by rfl) T.nlen (by decide +kernel) (pa_cons (pv 0) pa_nil)) (pe_glob (v := .int 4) rfl T.mMOST_ASKS ⟨_, rfl⟩)))))) (pss_one (ps_ret pe_bl)) pss_nil)
  (pss_cons (ps_setLc (i := 1) (own := [("letter", 2)]) (g := gName 2) (tt := tYes) rfl nd rfl rfl (sw_true rfl rfl rfl (by decide +kernel)) (pi_str (pv 0)) (blkOk_by (own := [("letter", 2)]) (N := N_is_asks) (sc := defScope s_is_asks) (by decide +kernel)) (fun _ _ _ _ _ => (pg_name (i := 2) nd rfl (by first | exact Or.inl rfl | exact Or.inr rfl))) (fun _ _ _ _ _ => pts_nil) (fun _ _ _ _ _ => (pe_m1 PySem.F.slot_str_find PySem.F.type_str_find mt_find (pe_glob (v := .str (Str.ofString "abcdefgh")) rfl T.mLETTERS ⟨_, rfl⟩) (pv 2))))
  (pss_one (ps_ret (pe_and (pe_cmpR op_ge (pe_ix ix_list (pv 1) pe_int (fun _ _ => rfl)) pe_int (nomark _)) (pe_one (pe_callB (cr_all rfl) (by rfl) T.nall (by decide +kernel) (pa_cons (pe_lc (own := [("low", 3), ("high", 4)]) (g := gTup K 2 (gCons (gName 3) (gCons (gName 4) gNil))) (tt := tYes) rfl nd (pi_zip (by rfl) T.nzip (pa_cons (pv 1) (pa_cons (pe_slice sl_list (pv 1) (po_some pe_int) po_none) pa_nil))) (blkOk_by (own := [("low", 3), ("high", 4)]) (N := N_is_asks) (sc := defScope s_is_asks) (by decide +kernel)) (fun _ _ _ _ _ => (pg_tup (by rfl) (pgs_cons (pg_name (i := 3) nd rfl (by first | exact Or.inl rfl | exact Or.inr rfl)) (pgs_cons (pg_name (i := 4) nd rfl (by first | exact Or.inl rfl | exact Or.inr rfl)) pgs_nil)))) (fun _ _ _ _ _ => pts_nil) (fun _ _ _ _ _ => (pe_cmpR op_lt (pv 3) (pv 4) (nomark _)))) pa_nil)))))))), ?_⟩
    rcases hx with ⟨z, rfl, hz⟩ | ⟨h1, t, ty, hk⟩
    · have ez : z.cps.toList.length = z.length := Array.length_toList
      refine ⟨_, rfl, _, _, _, _, true, rfl, .ty _, .base (.str _), kit_ty (by decide +kernel), _, rfl, iteF ?_⟩
      refine ⟨_, rfl, V.str z, _, rfl, ⟨hz, rfl⟩, _, _, rfl, rfl, _, rfl, ?_⟩
      by_cases c1 : 1 ≤ z.length
      · refine iteY (by omega) ⟨_, _, rfl, rfl, _, rfl, ?_⟩
        by_cases c2 : z.length ≤ 4
        · refine iteNS (by omega) ?_
          refine ⟨_, rfl, z, rfl, fun D hD => ?_⟩
          refine lc_text (fun i H' => Same H H' ∧ H' D = some (.lst (((z.cps.toList.take i).map plc).map V.int))) ⟨same_new hD, upd_same⟩ ?_ ?_
          · rintro i c H2 hc ⟨sm, h2⟩
            refine ⟨rfl, yes_go ?_⟩
            refine ⟨⟨_, rfl⟩, _, rfl, _, _, rfl, rfl, _, h2, ?_, ?_, ?_⟩
            · rw [List.length_map, List.length_map, List.length_take]
              exact Nat.lt_of_le_of_lt (Nat.min_le_right _ _) (by rw [ez]; exact Nat.lt_of_le_of_lt c2 (by decide))
            · intro b o hb
              rw [upd_ne (ne_of_none hb hD)]
              exact sm b o hb
            · rw [upd_same, take_more hc, List.map_append, List.map_append]
              rfl
          · rintro H2 ⟨sm, h2⟩
            rw [List.take_length] at h2
            have hl0 : (z.cps.toList.map plc).length = z.length := by rw [List.length_map, ez]
            have e : asksV (.str z) = (decide (0 ≤ (z.cps.toList.map plc).getD 0 0) && (ups (z.cps.toList.map plc)).all id) := by
              show (decide (1 ≤ z.length) && (decide (z.length ≤ 4) && _)) = _
              rw [decide_eq_true c1, decide_eq_true c2, Bool.true_and, Bool.true_and]
            rw [e] at q
            generalize z.cps.toList.map plc = ps at h2 hl0 q
            have h0 : 0 < ps.length := by omega
            have g0 : ps[0]? = some (ps.getD 0 0) := by
              rw [List.getD_eq_getElem?_getD, List.getElem?_eq_getElem h0]
              rfl
            refine ⟨_, rfl, D, _, 0, .int (ps.getD 0 0), rfl, rfl, SqL.of h2, atI_nat (j := 0) (by rw [List.getElem?_map, g0]; rfl), _, _, rfl, rfl, _, rfl, ?_⟩
            by_cases c3 : 0 ≤ ps.getD 0 0
            · refine iteY c3 ?_
              rw [decide_eq_true c3, Bool.true_and] at q
              refine ⟨_, rfl, _, rfl, 1, rfl, D, _, rfl, SqL.of h2, fun C hC => ?_⟩
              have s3 := same_new (o := .lst (cutV (ps.map V.int) (some 1) none)) hC
              have h3 := s3 _ _ h2
              have h4 : upd H2 C (.lst (cutV (ps.map V.int) (some 1) none)) C = some (.lst ((ps.drop 1).map V.int)) := by rw [upd_same, cut_tail]
              refine ⟨D, C, _, _, rfl, SqL.of h3, SqL.of h4, fun G hG => ?_⟩
              refine lc_zip (fun i H' => Same (upd H2 C (.lst (cutV (ps.map V.int) (some 1) none))) H' ∧ H' G = some (.lst (((ups ps).take i).map V.bl))) ⟨same_new hG, upd_same⟩ (fun i H' ⟨sm, _⟩ => ⟨SqL.of (sm _ _ h3), SqL.of (sm _ _ h4)⟩) ?_ ?_
              · rintro i x y U H5 hx hy ⟨s5, h5⟩ hU
                obtain ⟨a, ha, rfl⟩ := get_int hx
                obtain ⟨b, hb, rfl⟩ := get_int hy
                have hb2 : ps[i + 1]? = some b := by
                  rw [List.getElem?_drop, Nat.add_comm] at hb
                  exact hb
                have hg := ups_get ps i a b ha hb2
                refine ⟨U, _, rfl, SqT.of upd_same, rfl, _, _, rfl, _, _, rfl, rfl, rfl, yes_go ?_⟩
                refine ⟨_, rfl, _, rfl, _, _, rfl, rfl, _, same_new hU _ _ h5, ?_, ?_, ?_⟩
                · rw [List.length_map, List.length_take]
                  refine Nat.lt_of_le_of_lt (Nat.min_le_right _ _) ?_
                  rw [ups_len]
                  exact Nat.lt_of_le_of_lt (show ps.length - 1 ≤ 4 by omega) (by decide)
                · intro b o hb
                  rw [upd_ne (ne_of_none hb hG)]
                  exact same_new hU _ _ (s5 b o hb)
                · rw [upd_same, take_more hg, List.map_append]
                  rfl
              · rintro H5 ⟨s5, h5⟩
                have el : min (ps.map V.int).length ((ps.drop 1).map V.int).length = (ups ps).length := by
                  rw [ups_len, List.length_map, List.length_map, List.length_drop]
                  omega
                rw [el, List.take_length] at h5
                exact ⟨G, _, rfl, SqL.of h5, q H5 ((sm.trans s3).trans s5)⟩
            · refine iteN c3 ?_
              rw [decide_eq_false c3, Bool.false_and] at q
              exact q H2 sm
        · have e : asksV (.str z) = false := by
            show (decide (1 ≤ z.length) && (decide (z.length ≤ 4) && _)) = false
            rw [decide_eq_false c2, Bool.false_and, Bool.and_false]
          have q1 := q H (Same.refl H)
          rw [e] at q1
          exact iteNN (by omega) q1
      · have e : asksV (.str z) = false := by
          show (decide (1 ≤ z.length) && _) = false
          rw [decide_eq_false c1, Bool.false_and]
        have q1 := q H (Same.refl H)
        rw [e] at q1
        exact iteN (by omega) ⟨_, rfl, iteT q1⟩
    · have e : asksV x = false := by
        cases x <;> first | rfl | exact absurd rfl (h1 _)
      have q1 := q H (Same.refl H)
      rw [e] at q1
      exact ⟨_, rfl, _, _, t, _, false, rfl, .ty _, ty, hk, _, rfl, iteT (iteT q1)⟩
end
end As

namespace Ow
open PySem PySem.Spec PyProof.Rows L2
/-- an error of the class at C that bears x leaves, all else as it was -/
def Bears (C : Addr) (x : V) (H : Hp) (E : XK) : Prop := ∀ (d : Addr) (H' : Hp), Same H H' → H' d = some (.xd [(("thing" : Str), x)]) → E (.ref C) (some d) H'
def BearsP (C : Addr) (x : V) (H : Hp) (E : XK) : Prop := ∀ (d : Addr) (H' : Hp), Same H H' → H' d = some (.xd [(("part" : Str), x)]) → E (.ref C) (some d) H'
/-- a check that lets pass where b, else raises the error of the class at C that bears x -/
def Chk (b : Bool) (C : Addr) (x : V) (H : Hp) (Q : VK) (E : XK) : Prop := (b = false → Bears C x H E) ∧ (b = true → ∀ H', Same H H' → Q .non H')
end Ow
namespace As
open PySem PySem.Spec PyProof.Rows L2 Ow TL
section
variable {P : Program} {w : World} {K : PySem.W.Frag} {mg : Str → Option Value} {base : Heap} {A : Ad}
abbrev N_is_row_of : List Str := ["asks", "thing", "ask"]
theorem sc_is_row_of : FnScope N_is_row_of ["asks", "thing"] (defScope s_is_row_of) := ⟨rfl, rfl, rfl, by decide +kernel, rfl, by decide +kernel, by decide +kernel⟩
def spRowOf (K : PySem.W.Frag) : Sp := fun vs H Q _ => ∃ (a : Str) (x : V), vs = [.str a, x] ∧ Known K H x ∧ ∀ H', Same H H' → Q (.bl (rowV a x)) H'
theorem ok_rowof {fd : FuncData} (F : Fun K "is_row_of" "is_row_of" s_is_row_of A.f_is_row_of fd) (T : Tx K mg A) : FnOk P w K mg base CX0 1 A.f_is_row_of fd ["asks", "thing"] (spRowOf K) := by
  have nd := sc_is_row_of.nd
  refine F.ok sc_is_row_of (fun vs H Q E h => ?_) (fun cdv A' outer s H vs Q E hr h => ?_)
  · obtain ⟨a, x, rfl, _⟩ := h
    rfl
  · obtain ⟨a, x, rfl, hx, q⟩ := h
    refine ⟨_, (pss_one (ps_ret (pe_and (pe_callB call_isi (by rfl) T.nisinstance (by decide +kernel) (pa_cons (pv 1) (pa_cons (pe_bltn (v := .ty "str") (by rfl) T.nstr (by decide +kernel) rfl) pa_nil))) (pe_and (pe_cmpR op_le (pe_callB call_len (by rfl) T.nlen (by decide +kernel) (pa_cons (pv 1) pa_nil)) (pe_glob (v := .int 2000) rfl T.mLONGEST_ROW ⟨_, rfl⟩) (nomark _)) (pe_one (pe_callB (cr_all rfl) (by rfl) T.nall (by decide +kernel) (pa_cons (pe_lc (own := [("ask", 2)]) (g := gName 2) (tt := tYes) rfl nd (pi_str (pv 1)) (blkOk_by (own := [("ask", 2)]) (N := N_is_row_of) (sc := defScope s_is_row_of) (by decide +kernel)) (fun _ _ _ _ _ => (pg_name (i := 2) nd rfl (by first | exact Or.inl rfl | exact Or.inr rfl))) (fun _ _ _ _ _ => pts_nil) (fun _ _ _ _ _ => (pe_cmpR op_in_sign (pv 2) (pv 0) (by rfl)))) pa_nil))))))), ?_⟩
    rcases hx with ⟨z, rfl, hz⟩ | ⟨h1, t, ty, hk⟩
    · refine ⟨_, rfl, _, _, _, _, true, rfl, .ty _, .base (.str _), kit_ty (by decide +kernel), _, rfl, iteT ?_⟩
      refine ⟨_, rfl, V.str z, _, rfl, ⟨hz, rfl⟩, _, _, rfl, rfl, _, rfl, ite2 (fun c => ?_) (fun c => ?_)⟩
      · have c1 : z.length ≤ 2000 := by
          have c2 : ((z.length : Nat) : Int) ≤ 2000 := of_decide_eq_true c
          omega
        have ez : z.cps.toList.length = z.length := Array.length_toList
        refine ⟨_, rfl, z, rfl, fun D hD => ?_⟩
        refine lc_text (fun i H' => Same H H' ∧ H' D = some (.lst (((z.cps.toList.take i).map fun c => decide (c ∈ a.cps.toList)).map V.bl))) ⟨same_new hD, upd_same⟩ ?_ ?_
        · rintro i c H2 hc ⟨sm, h2⟩
          refine ⟨rfl, yes_go ?_⟩
          refine ⟨_, rfl, _, rfl, c, a, rfl, rfl, _, h2, ?_, ?_, ?_⟩
          · rw [List.length_map, List.length_map, List.length_take]
            exact Nat.lt_of_le_of_lt (Nat.min_le_right _ _) (by rw [ez]; exact Nat.lt_of_le_of_lt c1 (by decide))
          · intro b o hb
            rw [upd_ne (ne_of_none hb hD)]
            exact sm b o hb
          · rw [upd_same, take_more hc, List.map_append, List.map_append]
            rfl
        · rintro H2 ⟨sm, h2⟩
          rw [List.take_length] at h2
          refine ⟨D, _, rfl, SqL.of h2, ?_⟩
          have e : rowV a (.str z) = (z.cps.toList.map fun c => decide (c ∈ a.cps.toList)).all id := by
            show (decide (z.length ≤ 2000) && z.cps.toList.all fun c => decide (c ∈ a.cps.toList)) = _
            rw [decide_eq_true c1, Bool.true_and, List.all_map]
            rfl
          rw [← e]
          exact q H2 sm
      · have c1 : ¬ z.length ≤ 2000 := fun c2 => c (decide_eq_true (by omega))
        have e : rowV a (.str z) = false := by
          show (decide (z.length ≤ 2000) && _) = false
          rw [decide_eq_false c1, Bool.false_and]
        have q1 := q H (Same.refl H)
        rw [e] at q1
        exact q1
    · have e : rowV a x = false := by
        cases x <;> first | rfl | exact absurd rfl (h1 _)
      have q1 := q H (Same.refl H)
      rw [e] at q1
      exact ⟨_, rfl, _, _, t, _, false, rfl, .ty _, ty, hk, _, rfl, iteF q1⟩
abbrev N_check_asks : List Str := ["thing"]
theorem sc_check_asks : FnScope N_check_asks ["thing"] (defScope s_check_asks) := ⟨rfl, rfl, rfl, by decide +kernel, rfl, by decide +kernel, by decide +kernel⟩
def spChkAsks (K : PySem.W.Frag) (A : Ad) : Sp := fun vs H Q E => ∃ x, vs = [x] ∧ Known K H x ∧ Chk (asksV x) A.c_BadAsks x H Q E
theorem ok_chkasks {fd : FuncData} (F : Fun K "check_asks" "check_asks" s_check_asks A.f_check_asks fd) (T : Tx K mg A) (LA : PySem.LowX.LowTxt K mg "BadAsks" A.c_BadAsks A.f_WrongThing_init) (KA : Kp P w K mg base CX0 1 A.f_is_asks ["thing"] (spAsks K)) :
    FnOk P w K mg base (L2.CX P w) 3 A.f_check_asks fd ["thing"] (spChkAsks K A) := by
  obtain ⟨fdA, G_is_asks, b_is_asks, k_is_asks⟩ := KA
  have nd := sc_check_asks.nd
  refine F.okX sc_check_asks (fun vs H Q E h => ?_) (fun cdv A' outer s H vs Q E hr h => ?_)
  · obtain ⟨x, rfl, _⟩ := h
    rfl
  · obtain ⟨x, rfl, kx, no, yes⟩ := h
    refine ⟨_, (pss_one (ps_if (pt_not (pt_val (pe_call G_is_asks (hr.mono (by omega)) rfl T.mis_asks k_is_asks b_is_asks .nil pass0 (pa_cons (pv 0) pa_nil)))) (pss_one (ps_raiseTh rfl LA hr (takes_of rfl rfl rfl rfl) (pa_cons (pv 0) pa_nil))) pss_nil)), ?_⟩
    refine ⟨_, rfl, x, rfl, kx, fun H1 s1 => ⟨_, rfl, ?_⟩⟩
    cases e : asksV x with
    | false => exact iteT ⟨_, rfl, x, rfl, fun d hd => no e d _ (s1.trans (same_new hd)) upd_same⟩
    | true => exact iteF (yes e H1 s1)
abbrev N_check_row : List Str := ["asks", "thing"]
theorem sc_check_row : FnScope N_check_row ["asks", "thing"] (defScope s_check_row) := ⟨rfl, rfl, rfl, by decide +kernel, rfl, by decide +kernel, by decide +kernel⟩
def spChkRow (K : PySem.W.Frag) (A : Ad) : Sp := fun vs H Q E => ∃ (a : Str) (x : V), vs = [.str a, x] ∧ Known K H x ∧ Chk (rowV a x) A.c_BadRow x H Q E
theorem ok_chkrow {fd : FuncData} (F : Fun K "check_row" "check_row" s_check_row A.f_check_row fd) (T : Tx K mg A) (LR : PySem.LowX.LowTxt K mg "BadRow" A.c_BadRow A.f_WrongThing_init) (KA : Kp P w K mg base CX0 1 A.f_is_row_of ["asks", "thing"] (spRowOf K)) :
    FnOk P w K mg base (L2.CX P w) 3 A.f_check_row fd ["asks", "thing"] (spChkRow K A) := by
  obtain ⟨fdA, G_is_row_of, b_is_row_of, k_is_row_of⟩ := KA
  have nd := sc_check_row.nd
  refine F.okX sc_check_row (fun vs H Q E h => ?_) (fun cdv A' outer s H vs Q E hr h => ?_)
  · obtain ⟨a, x, rfl, _⟩ := h
    rfl
  · obtain ⟨a, x, rfl, kx, no, yes⟩ := h
    refine ⟨_, (pss_one (ps_if (pt_not (pt_val (pe_call G_is_row_of (hr.mono (by omega)) rfl T.mis_row_of k_is_row_of b_is_row_of .nil pass0 (pa_cons (pv 0) (pa_cons (pv 1) pa_nil))))) (pss_one (ps_raiseTh rfl LR hr (takes_of rfl rfl rfl rfl) (pa_cons (pv 1) pa_nil))) pss_nil)), ?_⟩
    refine ⟨_, rfl, _, rfl, a, x, rfl, kx, fun H1 s1 => ⟨_, rfl, ?_⟩⟩
    cases e : rowV a x with
    | false => exact iteT ⟨_, rfl, x, rfl, fun d hd => no e d _ (s1.trans (same_new hd)) upd_same⟩
    | true => exact iteF (yes e H1 s1)
end
end As

namespace Ow
open PySem PySem.Spec PyProof.Rows L2
def isNonD : PyData → Bool
  | .none => true
  | _ => false
def gateItemD (d : PyData) (a m : Int) : Bool := tupOfD d a && (itemsD d).all fun p => isNonD p || belowD m p
def spGateItem : Sp := fun vs H Q _ => ∃ (x : V) (d : PyData) (a m : Int), vs = [x, .int a, .int m] ∧ Th H x d ∧ ∀ H', Same H H' → Q (.bl (gateItemD d a m)) H'
/-! places and steps -/
def optD : Option Int → PyData
  | none => .none
  | some i => .int i
def optV : Option Int → V
  | none => .non
  | some i => .int i
def GT (st : List (List (Option Int))) : PyData := .tuple (st.map fun it => .tuple (it.map optD))
def GL (st : List (List (Option Int))) : PyData := .list (st.map fun it => .list (it.map optD))
def fnd (a : Str) (c : Nat) : Int := Txt.find a ⟨#[c]⟩
def stepAt (st : List (List (Option Int))) (p j : Nat) : Option Int := (st.getD p []).getD j none
def walkG (a : Str) (st : List (List (Option Int))) : Nat → List Nat → Option Nat
  | p, [] => some p
  | p, c :: r => match stepAt st p (fnd a c).toNat with
    | none => none
    | some q => walkG a st q.toNat r
structure GoodS (n : Nat) (st : List (List (Option Int))) : Prop where
  ne : 0 < st.length
  le : st.length ≤ 50
  len : ∀ it ∈ st, it.length = n
  ok : ∀ it ∈ st, ∀ q, some q ∈ it → 0 ≤ q ∧ q < (st.length : Int)
def Finds (a : Str) (c : Nat) : Prop := ∃ j : Nat, fnd a c = j ∧ j < a.length
def natV (o : Option Nat) : V := match o with | none => .non | some p => .int p
def spPlace : Sp := fun vs H Q _ => ∃ (a z : Str) (x : V) (st : List (List (Option Int))), vs = [.str a, x, .str z] ∧ Tt H x (GT st) ∧ GoodS a.length st ∧ (∀ c ∈ z.cps.toList, Finds a c) ∧ Q (natV (walkG a st 0 z.cps.toList)) H
theorem Tt.tupOf {H : Hp} {x : V} {ds : List PyData} (h : Tt H x (.tuple ds)) : ∃ l xs, x = .ref l ∧ H l = some (.tup xs) ∧ TtAll H xs ds := by
  cases h with
  | tup h hz r => exact ⟨_, _, rfl, h, r⟩
theorem TtAll.get {H : Hp} : ∀ {xs : List V} {ds : List PyData}, TtAll H xs ds → ∀ {i : Nat} {d : PyData}, ds[i]? = some d → ∃ x, xs[i]? = some x ∧ Tt H x d
  | _, _, .nil, _, _, h => by simp at h
  | _, _, .cons (x := x) h r, 0, d, e => ⟨x, rfl, by
    have e' := Option.some.inj e
    rw [← e']
    exact h⟩
  | _, _, .cons h r, i + 1, d, e => TtAll.get r (i := i) e
theorem Tt.opt {H : Hp} {x : V} {o : Option Int} (h : Tt H x (optD o)) : x = optV o := by
  cases o with
  | none => cases h; rfl
  | some i => cases h; rfl
theorem stepAt_get {st : List (List (Option Int))} {p j : Nat} {it : List (Option Int)} (h : st[p]? = some it) (hj : j < it.length) : it[j]? = some (stepAt st p j) := by
  have e : st.getD p [] = it := by rw [List.getD_eq_getElem?_getD, h]; rfl
  unfold stepAt
  rw [e, List.getD_eq_getElem?_getD, List.getElem?_eq_getElem hj]
  rfl
theorem walkG_snoc (a : Str) (st : List (List (Option Int))) (c : Nat) : ∀ (l : List Nat) (p : Nat), walkG a st p (l ++ [c]) = (walkG a st p l).bind fun q => (stepAt st q (fnd a c).toNat).map Int.toNat
  | [], p => by
    show walkG a st p [c] = (stepAt st p (fnd a c).toNat).map Int.toNat
    rw [walkG]
    cases stepAt st p (fnd a c).toNat <;> rfl
  | d :: l, p => by
    show walkG a st p (d :: (l ++ [c])) = (walkG a st p (d :: l)).bind _
    rw [walkG, walkG]
    cases stepAt st p (fnd a d).toNat with
    | none => rfl
    | some q => exact walkG_snoc a st c l q.toNat
theorem walkG_cut (a : Str) (st : List (List (Option Int))) : ∀ (l r : List Nat) (p : Nat), walkG a st p l = none → walkG a st p (l ++ r) = none
  | [], r, p, h => by rw [walkG] at h; cases h
  | d :: l, r, p, h => by
    show walkG a st p (d :: (l ++ r)) = none
    rw [walkG] at h ⊢
    cases e : stepAt st p (fnd a d).toNat with
    | none => rfl
    | some q => rw [e] at h; exact walkG_cut a st l r q.toNat h
theorem stepAt_ok {n : Nat} {st : List (List (Option Int))} (g : GoodS n st) {p j : Nat} (hp : p < st.length) (hj : j < n) {q : Int} (h : stepAt st p j = some q) : 0 ≤ q ∧ q.toNat < st.length := by
  have hm : st[p] ∈ st := List.getElem_mem hp
  have e := stepAt_get (j := j) (List.getElem?_eq_getElem hp) (by rw [g.len _ hm]; exact hj)
  rw [h] at e
  have := g.ok _ hm q (List.mem_of_getElem? e)
  omega
end Ow
namespace As
open PySem PySem.Spec PyProof.Rows L2 Ow
section
variable {P : Program} {w : World} {K : PySem.W.Frag} {mg : Str → Option Value} {base : Heap} {A : Ad}
abbrev N_is_gate_item : List Str := ["thing", "asks", "places", "place"]
theorem sc_is_gate_item : FnScope N_is_gate_item ["thing", "asks", "places"] (defScope s_is_gate_item) := ⟨rfl, rfl, rfl, by decide +kernel, rfl, by decide +kernel, by decide +kernel⟩
theorem ok_gitem {fd : FuncData} (F : Fun K "is_gate_item" "is_gate_item" s_is_gate_item A.f_is_gate_item fd) (T : Tx K mg A) (KT : Kp P w K mg base CX0 2 A.f_is_tuple_of ["thing", "count"] spTupOf) (KB : Kp P w K mg base CX0 2 A.f_is_below ["thing", "count"] spBelow) : FnOk P w K mg base CX0 3 A.f_is_gate_item fd ["thing", "asks", "places"] spGateItem := by
  obtain ⟨fdI, G_is_tuple_of, b_is_tuple_of, k_is_tuple_of⟩ := KT
  obtain ⟨fdB, G_is_below, b_is_below, k_is_below⟩ := KB
  have nd := sc_is_gate_item.nd
  refine F.ok sc_is_gate_item (fun vs H Q E h => ?_) (fun cdv A' outer s H vs Q E hr h => ?_)
  · obtain ⟨x, d, a, m, rfl, _⟩ := h
    rfl
  · obtain ⟨x, d, a, m, rfl, hx, q⟩ := h
    have eq1 : tupOfD d a = false → gateItemD d a m = false := fun e => by unfold gateItemD; rw [e]; rfl
    refine ⟨_, (pss_one (ps_ret (pe_and (pe_call G_is_tuple_of (hr.mono (by omega)) rfl T.mis_tuple_of k_is_tuple_of b_is_tuple_of .nil pass0 (pa_cons (pv 0) (pa_cons (pv 1) pa_nil))) (pe_one (pe_callB (cr_all rfl) (by rfl) T.nall (by decide +kernel) (pa_cons (pe_lc (own := [("place", 3)]) (g := gName 3) (tt := tYes) rfl nd (pi_seq (pv 0)) (blkOk_by (own := [("place", 3)]) (N := N_is_gate_item) (sc := defScope s_is_gate_item) (by decide +kernel)) (fun _ _ _ _ _ => (pg_name (i := 3) nd rfl (by first | exact Or.inl rfl | exact Or.inr rfl))) (fun _ _ _ _ _ => pts_nil) (fun _ _ _ _ _ => (pe_or (pe_cmpR op_isN (pv 3) pe_non (nomark _)) (pe_one (pe_call G_is_below (hr.mono (by omega)) rfl T.mis_below k_is_below b_is_below .nil pass0 (pa_cons (pv 3) (pa_cons (pv 2) pa_nil))))))) pa_nil)))))), ?_⟩
    refine ⟨_, rfl, _, rfl, x, d, a, rfl, hx, fun H1 s1 => ⟨_, rfl, ?_⟩⟩
    cases t : tupOfD d a with
    | false =>
      have q1 := q H1 s1
      rw [eq1 t] at q1
      exact iteF q1
    | true =>
      refine iteT ?_
      have t1 : isTupD d = true := by
        unfold tupOfD at t
        exact (Bool.and_eq_true_iff.mp t).1
      obtain ⟨l, xs, rfl, hsq, hz, r⟩ := (hx.mono s1).seq (K := K) t1
      have turn : ∀ D, H1 D = none → ∀ i x H2, xs[i]? = some x → (H2 D = some (.lst ((((itemsD d).take i).map fun p => isNonD p || belowD m p).map V.bl)) ∧ Same H1 H2) → ∃ dp, (itemsD d)[i]? = some dp ∧ Th H2 x dp ∧ ∀ b, b = (isNonD dp || belowD m dp) →
          ∃ acc, H2 D = some (.lst acc) ∧ acc.length < sizeLine ∧ (upd H2 D (.lst (acc ++ [.bl b]))) D = some (.lst ((((itemsD d).take (i + 1)).map fun p => isNonD p || belowD m p).map V.bl)) ∧ Same H1 (upd H2 D (.lst (acc ++ [.bl b]))) := by
        rintro D hD i x H2 hx ⟨h2, sm⟩
        obtain ⟨dp, ed, td⟩ := r.get hx
        have hi : i < xs.length := (List.getElem?_eq_some_iff.mp hx).1
        refine ⟨dp, ed, td.mono sm, fun b hb => ⟨_, h2, ?_, ?_, same_upd sm hD⟩⟩
        · rw [List.length_map, List.length_map, List.length_take]
          omega
        · rw [upd_same, take_get' ed, List.map_append, List.map_append, hb]
          rfl
      have done : ∀ D H2, (H2 D = some (.lst ((((itemsD d).take xs.length).map fun p => isNonD p || belowD m p).map V.bl)) ∧ Same H1 H2) → H2 D = some (.lst ((((itemsD d)).map fun p => isNonD p || belowD m p).map V.bl)) ∧ Q (.bl (((itemsD d).map fun p => isNonD p || belowD m p).all id)) H2 := by
        rintro D H2 ⟨h2, sm⟩
        rw [r.len, List.take_length] at h2
        refine ⟨h2, ?_⟩
        have q2 := q H2 (s1.trans sm)
        unfold gateItemD at q2
        rw [t, Bool.true_and] at q2
        rw [List.all_map]
        exact q2
      refine ⟨_, rfl, l, rfl, ?_⟩
      rcases hsq with hsq | hsq
      · refine .inl ⟨⟨xs, hsq⟩, fun D hD => ?_⟩
        refine lc_list (K := K) (xs := xs) (fun i H' => H' D = some (.lst ((((itemsD d).take i).map fun p => isNonD p || belowD m p).map V.bl)) ∧ Same H1 H') ⟨upd_same, same_new hD⟩ (fun i H' _ ⟨_, sm⟩ => L2.Same.seq sm hsq) (fun i x H2 hx p => ⟨rfl, yes_go ?_⟩) (fun H2 p => ?_)
        · obtain ⟨dp, ed, td, go⟩ := turn D hD i x H2 hx p
          refine ⟨_, rfl, rfl, _, rfl, ?_⟩
          have td' := td
          cases td with
          | non => exact iteY rfl (go true rfl)
          | bl b => exact iteN nofun ⟨_, rfl, _, rfl, _, _, m, rfl, td', go _ rfl⟩
          | int b => exact iteN nofun ⟨_, rfl, _, rfl, _, _, m, rfl, td', go _ rfl⟩
          | str b => exact iteN nofun ⟨_, rfl, _, rfl, _, _, m, rfl, td', go _ rfl⟩
          | lst _ _ _ => exact iteN nofun ⟨_, rfl, _, rfl, _, _, m, rfl, td', go _ rfl⟩
          | tup _ _ _ => exact iteN nofun ⟨_, rfl, _, rfl, _, _, m, rfl, td', go _ rfl⟩
          | dct _ => exact iteN nofun ⟨_, rfl, _, rfl, _, _, m, rfl, td', go _ rfl⟩
        · obtain ⟨h2, q2⟩ := done D H2 p
          exact ⟨D, _, rfl, SqL.of h2, q2⟩
      · refine .inr ⟨⟨xs, hsq⟩, fun D hD => ?_⟩
        refine lc_tup (K := K) (xs := xs) (fun i H' => H' D = some (.lst ((((itemsD d).take i).map fun p => isNonD p || belowD m p).map V.bl)) ∧ Same H1 H') ⟨upd_same, same_new hD⟩ (fun i H' _ ⟨_, sm⟩ => Ow.Same.sqT sm hsq) (fun i x H2 hx p => ⟨rfl, yes_go ?_⟩) (fun H2 p => ?_)
        · obtain ⟨dp, ed, td, go⟩ := turn D hD i x H2 hx p
          refine ⟨_, rfl, rfl, _, rfl, ?_⟩
          have td' := td
          cases td with
          | non => exact iteY rfl (go true rfl)
          | bl b => exact iteN nofun ⟨_, rfl, _, rfl, _, _, m, rfl, td', go _ rfl⟩
          | int b => exact iteN nofun ⟨_, rfl, _, rfl, _, _, m, rfl, td', go _ rfl⟩
          | str b => exact iteN nofun ⟨_, rfl, _, rfl, _, _, m, rfl, td', go _ rfl⟩
          | lst _ _ _ => exact iteN nofun ⟨_, rfl, _, rfl, _, _, m, rfl, td', go _ rfl⟩
          | tup _ _ _ => exact iteN nofun ⟨_, rfl, _, rfl, _, _, m, rfl, td', go _ rfl⟩
          | dct _ => exact iteN nofun ⟨_, rfl, _, rfl, _, _, m, rfl, td', go _ rfl⟩
        · obtain ⟨h2, q2⟩ := done D H2 p
          exact ⟨D, _, rfl, SqL.of h2, q2⟩
abbrev N_place_behind : List Str := ["asks", "steps", "row", "place", "ask"]
theorem sc_place_behind : FnScope N_place_behind ["asks", "steps", "row"] (defScope s_place_behind) := ⟨rfl, rfl, rfl, by decide +kernel, rfl, by decide +kernel, by decide +kernel⟩
theorem ok_place {fd : FuncData} (F : Fun K "place_behind" "place_behind" s_place_behind A.f_place_behind fd) (T : Tx K mg A) : FnOk P w K mg base CX0 1 A.f_place_behind fd ["asks", "steps", "row"] spPlace := by
  have nd := sc_place_behind.nd
  refine F.ok sc_place_behind (fun vs H Q E h => ?_) (fun cdv A' outer s H vs Q E hr h => ?_)
  · obtain ⟨a, z, x, st, rfl, _⟩ := h
    rfl
  · obtain ⟨a, z, x, st, rfl, hx, hg, hf, q⟩ := h
    refine ⟨_, (pss_cons (ps_set (i := 3) nd rfl (by first | exact Or.inl rfl | exact Or.inr rfl) pe_int)
  (pss_cons (ps_for PassesOwn.never rfl (pi_str (pv 2)) (pg_name (i := 4) nd rfl (by first | exact Or.inl rfl | exact Or.inr rfl)) (pss_cons (ps_set (i := 3) nd rfl (by first | exact Or.inl rfl | exact Or.inr rfl) (pe_ix ix_tup (pe_ix ix_tup (pv 1) (pv 3) (fun _ _ => rfl)) (pe_m1 PySem.F.slot_str_find PySem.F.type_str_find mt_find (pv 0) (pv 4)) (fun _ _ => rfl)))
  (pss_one (ps_if (pt_cmpR op_isN (pv 3) pe_non (nomark _)) (pss_one (ps_ret pe_non)) pss_nil))))
  (pss_one (ps_ret (pv 3))))), ?_⟩
    obtain ⟨l, xs, rfl, hl, r⟩ := hx.tupOf
    have hsz : z.cps.size = z.cps.toList.length := Array.length_toList.symm
    refine ⟨_, rfl, z, rfl, for_it walk_str (fun i σ H' => ∃ p o, walkG a st 0 (z.cps.toList.take i) = some p ∧ p < st.length ∧ σ = [some (.str a), some (.ref l), some (.str z), some (.int p), o] ∧ H' = H) ?_ (fun _ _ _ _ _ => trivial) ?_ ?_⟩
    · exact ⟨0, _, rfl, hg.ne, rfl, rfl⟩
    · rintro i v σ H2 H' hi ⟨p, o, e, hp, rfl, rfl⟩ ⟨rfl, c, hc, rfl⟩
      have hc' : z.cps.toList[i]? = some c := by rw [Array.getElem?_toList]; exact hc
      obtain ⟨j, ej, hj⟩ := hf c (List.mem_of_getElem? hc')
      have ep := List.getElem?_eq_getElem hp
      have ei := stepAt_get (j := j) ep (by rw [hg.len _ (List.getElem_mem hp)]; exact hj)
      obtain ⟨y, ey, ty⟩ := r.get (i := p) (d := .tuple (st[p].map optD)) (by rw [List.getElem?_map, ep]; rfl)
      obtain ⟨l2, ys, rfl, hl2, r2⟩ := ty.tupOf
      obtain ⟨o2, eo, to⟩ := r2.get (i := j) (d := optD (stepAt st p j)) (by rw [List.getElem?_map, ei]; rfl)
      obtain rfl := to.opt
      have hw := walkG_snoc a st c (z.cps.toList.take i) 0
      rw [← take_get' hc', e, Option.bind_some, ej, Int.toNat_natCast] at hw
      refine ⟨_, rfl, _, rfl, l, _, _, _, rfl, rfl, SqT.of hl, atI_nat (j := p) ey, _, rfl, ⟨_, rfl⟩, _, rfl, a, _, rfl, rfl, l2, _, _, _, rfl, (show V.int (fnd a c) = _ from congrArg V.int ej), SqT.of hl2, atI_nat (j := j) eo, ?_⟩
      cases es : stepAt st p j with
      | none =>
        rw [es] at hw
        refine ⟨_, rfl, rfl, _, rfl, iteY rfl ?_⟩
        have hn : walkG a st 0 z.cps.toList = none := by
          rw [← List.take_append_drop (i + 1) z.cps.toList]
          exact walkG_cut a st _ _ 0 hw
        rw [hn] at q
        exact q
      | some k =>
        rw [es] at hw
        obtain ⟨k0, k1⟩ := stepAt_ok hg hp hj es
        refine ⟨_, rfl, rfl, _, rfl, iteN nofun ?_⟩
        refine ⟨k.toNat, some (.str ⟨#[c]⟩), hw, k1, ?_, rfl⟩
        show [some (V.str a), some (V.ref l), some (V.str z), some (V.int k), some (.str ⟨#[c]⟩)] = _
        rw [Int.toNat_of_nonneg k0]
    · rintro σ H2 ⟨p, o, e, hp, rfl, rfl⟩
      rw [hsz, List.take_length] at e
      rw [e] at q
      exact ⟨_, rfl, q⟩
end
end As

namespace Ow
open PySem PySem.Spec PyProof.Rows L2
def BearsN (C : Addr) (x : V) (H : Hp) (E : XK) : Prop := ∀ (d : Addr) (H' : Hp), Same H H' → H' d = some (.xd [(("number" : Str), x)]) → E (.ref C) (some d) H'
def isDat : HO → Bool
  | .lst _ => true
  | .tup _ => true
  | .dK _ => true
  | _ => false
/-- lists, tuples and dicts stay -/
def KeepD (H H' : Hp) : Prop := ∀ a o, H a = some o → isDat o = true → H' a = some o
theorem KeepD.upd {H : Hp} {a : Addr} {o u : HO} (h : H a = some u) (n : isDat u = false) : KeepD H (upd H a o) := fun b v hb d => by
  rw [upd_ne (ne_of hb h (by rintro rfl; rw [d] at n; cases n))]
  exact hb
mutual
theorem Th.keepD {H H' : Hp} (e : KeepD H H') : ∀ {x : V} {d : PyData}, Th H x d → Th H' x d
  | _, _, .non => .non
  | _, _, .bl b => .bl b
  | _, _, .int i => .int i
  | _, _, .str h => .str h
  | _, _, .lst h z r => .lst (e _ _ h rfl) z (ThAll.keepD e r)
  | _, _, .tup h z r => .tup (e _ _ h rfl) z (ThAll.keepD e r)
  | _, _, .dct h => .dct (e _ _ h rfl)
theorem ThAll.keepD {H H' : Hp} (e : KeepD H H') : ∀ {xs : List V} {ds : List PyData}, ThAll H xs ds → ThAll H' xs ds
  | _, _, .nil => .nil
  | _, _, .cons h r => .cons (Th.keepD e h) (ThAll.keepD e r)
end
theorem KeepT.ofD {H H' : Hp} (e : KeepD H H') : KeepT H H' := fun a xs h => e a _ h rfl
theorem BearsN.same {C : Addr} {x : V} {H H1 : Hp} {E : XK} (b : BearsN C x H E) (s : Same H H1) : BearsN C x H1 E := fun d H' e h => b d H' (s.trans e) h
end Ow
namespace As
open PySem PySem.Spec PyProof.Rows L2 Ow
section
variable {P : Program} {w : World} {K : PySem.W.Frag} {mg : Str → Option Value} {base : Heap} {A : Ad}
abbrev N_wide_steps : List Str := ["asks"]
theorem sc_wide_steps : FnScope N_wide_steps ["asks"] (defScope s_wide_steps) := ⟨rfl, rfl, rfl, by decide +kernel, rfl, by decide +kernel, by decide +kernel⟩
def spWide : Sp := fun vs H Q _ => ∃ (a : Str), vs = [.str a] ∧ 1 ≤ a.length ∧ a.length ≤ 1000 ∧ ∀ v H', Same H H' → Tt H' v (GT [List.replicate a.length (some 0)]) → Q v H'
theorem ok_wide {fd : FuncData} (F : Fun K "wide_steps" "wide_steps" s_wide_steps A.f_wide_steps fd) (T : Tx K mg A) : FnOk P w K mg base CX0 1 A.f_wide_steps fd ["asks"] spWide := by
  have nd := sc_wide_steps.nd
  refine F.ok sc_wide_steps (fun vs H Q E h => ?_) (fun cdv A' outer s H vs Q E hr h => ?_)
  · obtain ⟨a, rfl, _⟩ := h
    rfl
  · obtain ⟨a, rfl, h1, h2, q⟩ := h
    refine ⟨_, (pss_one (ps_ret (pe_tup (pa_cons (pe_op op_repN (pe_tup (pa_cons pe_int pa_nil)) (pe_callB call_len_str (by rfl) T.nlen (by decide +kernel) (pa_cons (pv 0) pa_nil))) pa_nil)))), ?_⟩
    have hz : a.length ≤ sizeLine := Nat.le_trans h2 (by decide)
    refine ⟨(by show 1 ≤ sizeLine; decide), fun l hl => ?_⟩
    have s1 := same_new (o := .tup [.int 0]) hl
    have fin : ∀ p H2 xs, Same H H2 → H2 p = some (.tup xs) → xs = List.replicate a.length (.int 0) → 1 ≤ sizeLine ∧ ∀ t, H2 t = none → Q (.ref t) (upd H2 t (.tup [.ref p])) := by
      intro p H2 xs s2 hp e
      refine ⟨by decide, fun t ht => q _ _ (s2.trans (same_new ht)) (.tup upd_same (by show 1 ≤ sizeLine; decide) (.cons (.tup (same_new ht _ _ hp) (by rw [e, List.length_replicate]; exact hz) ?_) .nil))⟩
      subst e
      rw [List.map_replicate]
      generalize a.length = n
      induction n with
      | zero => exact .nil
      | succ n ih => exact .cons (.int 0) ih
    refine ⟨_, rfl, a, rfl, hz, l, a.length, [.int 0], rfl, rfl, SqT.of upd_same, nofun, h1, h2, by decide, fun e => ?_, fun p hp => ?_⟩
    · exact fin l _ [.int 0] s1 upd_same (by rw [e]; rfl)
    · exact fin p _ _ (s1.trans (same_new hp)) upd_same (by simp)
abbrev N_Gate_init : List Str := ["self", "asks", "steps", "number", "item"]
theorem sc_Gate_init : FnScope N_Gate_init ["self", "asks", "steps"] (defScope s_Gate_init) := ⟨rfl, rfl, rfl, by decide +kernel, rfl, by decide +kernel, by decide +kernel⟩
/-- what Gate's maker does with the thing d -/
def spGInit (K : PySem.W.Frag) (A : Ad) : Sp := fun vs H Q E => ∃ (self dx : Addr) (x y : V) (d : PyData), vs = [.ref self, x, y] ∧ H self = some (.ins A.c_Gate dx []) ∧ Known K H x ∧ Th H y d ∧
  (asksV x = false → Bears A.c_BadAsks x H E) ∧ ∀ z, x = .str z → asksV x = true →
    (¬ (isTupD d = true ∧ 1 ≤ (itemsD d).length ∧ (itemsD d).length ≤ 50) → BearsN A.c_BadGate (.int (-1)) H E) ∧
    (isTupD d = true → 1 ≤ (itemsD d).length → (itemsD d).length ≤ 50 →
      (∀ (k : Nat) dk, (itemsD d)[k]? = some dk → gateItemD dk z.length (itemsD d).length = false → (∀ (j : Nat) dj, j < k → (itemsD d)[j]? = some dj → gateItemD dj z.length (itemsD d).length = true) → BearsN A.c_BadGate (.int k) H E) ∧
      ((∀ (j : Nat) dj, (itemsD d)[j]? = some dj → gateItemD dj z.length (itemsD d).length = true) → d.depth ≤ 2 ∧ plainD d = true ∧
        ∀ v H1, But self H H1 → H1 self = some (.ins A.c_Gate dx [(("asks" : Str), .str z), (("steps" : Str), v)]) → Tt H1 v (deepD d) → Q .non H1))
/-- the loop of Gate's maker: the first i items are good -/
def GIv (self a : Addr) (z : Str) (d : PyData) (H2 : Hp) (i : Nat) (σ : L2.St) (H3 : Hp) : Prop := ∃ o3 o4, σ = [some (V.ref self), some (V.str z), some (V.ref a), o3, o4] ∧ Same H2 H3 ∧ ∀ (j : Nat) dj, j < i → (itemsD d)[j]? = some dj → gateItemD dj z.length (itemsD d).length = true
/-- what the class Gate has -/
structure GCls (K : PySem.W.Frag) (A : Ad) : Prop where
  cls : Cls K A.c_Gate
  nAsks : NoAttr K A.c_Gate "asks"
  nSteps : NoAttr K A.c_Gate "steps"
  mkr : Mk K A.c_Gate A.f_Gate_init
  hcl : PySem.W.findIn K (.ref A.c_Gate) "__class__" = some (some (.builtin "object.__class__"))
  hgs : PySem.W.specialIn K (.builtin "object.__class__") "__get__" = some (some (.builtin "getset_descriptor.__get__"))
  htk : PySem.W.takesIn K (.builtin "object.__class__") = some true
  hm : PySem.W.mroIn K A.c_Gate (.type "object") = some true
  isG : PySem.W.kitOne K (.ref A.c_Gate) (.ref A.c_Gate) = some true
  lenF : PySem.W.findIn K (.ref A.c_Gate) "__len__" = some (some (.ref A.f_Gate_len))
  lenN : PySem.W.isFn K (.ref A.f_Gate_len) = true
  conF : PySem.W.findIn K (.ref A.c_Gate) "__contains__" = some (some (.ref A.f_Gate_contains))
  conN : PySem.W.isFn K (.ref A.f_Gate_contains) = true
  eqF : PySem.W.findIn K (.ref A.c_Gate) "__eq__" = some (some (.ref A.f_Gate_eq))
  eqN : PySem.W.isFn K (.ref A.f_Gate_eq) = true
  nfG : PySem.W.notFirst K A.c_Gate (.ref A.c_Gate) = true
  nfS : PySem.W.notFirst K A.c_Gate (.type "str") = true
  mPlace : Meth K A.c_Gate "place_of" A.f_Gate_place_of
  crd : ClX.CRead K A.c_Gate (.type "type")
  cmt : ∃ p, ClX.CMet K A.c_Gate (.type "type") "wide" p A.f_Gate_wide
  isStr : PySem.W.kitOne K (.type "str") (.ref A.c_Gate) = some false
theorem ok_ginit {fd : FuncData} (F : Fun K "__init__" "Gate.__init__" s_Gate_init A.f_Gate_init fd) (T : Tx K mg A) (GC : GCls K A) (LG : PySem.LowN.LowTxt K mg "BadGate" A.c_BadGate A.f_WrongItem_init)
    (KC : Kp P w K mg base (L2.CX P w) 3 A.f_check_asks ["thing"] (spChkAsks K A)) (KT : Kp P w K mg base CX0 1 A.f_is_tuple ["thing"] spIsTup) (KI : Kp P w K mg base CX0 3 A.f_is_gate_item ["thing", "asks", "places"] spGateItem) (KA : Kp P w K mg base CX0 4 A.f_as_tuples ["thing"] (spDeep 2)) :
    FnOk P w K mg base (L2.CX P w) 5 A.f_Gate_init fd ["self", "asks", "steps"] (spGInit K A) := by
  obtain ⟨fdC, G_check_asks, b_check_asks, k_check_asks⟩ := KC
  obtain ⟨fdT, G_is_tuple, b_is_tuple, k_is_tuple⟩ := KT
  obtain ⟨fdI, G_is_gate_item, b_is_gate_item, k_is_gate_item⟩ := KI
  obtain ⟨fdB, G_as_tuples, b_as_tuples, k_as_tuples⟩ := KA
  have nd := sc_Gate_init.nd
  refine F.okX sc_Gate_init (fun vs H Q E h => ?_) (fun cdv A' outer s H vs Q E hr h => ?_)
  · obtain ⟨self, dx, x, y, d, rfl, _⟩ := h
    rfl
  · obtain ⟨self, dx, x, y, d, rfl, h0, kx, hy, bad, good⟩ := h
    refine ⟨_, (pss_cons (ps_expr (pe_callS G_check_asks (hr.mono (by omega)) rfl T.mcheck_asks k_check_asks b_check_asks (fun σ => passAt (takes_of rfl rfl rfl rfl) σ) (pa_cons (pv 1) pa_nil)))
  (pss_cons (ps_if (PW.pt (pw_or (pt_not (pt_val (pe_call G_is_tuple (hr.mono (by omega)) rfl T.mis_tuple k_is_tuple b_is_tuple .nil pass0 (pa_cons (pv 2) pa_nil)))) (pw_or1 (pt_not (pt_chain op_le op_le pe_int (pe_callB call_len (by rfl) T.nlen (by decide +kernel) (pa_cons (pv 2) pa_nil)) (pe_glob (v := .int 50) rfl T.mMOST_PLACES ⟨_, rfl⟩)))))) (pss_one (ps_raiseThN rfl LG hr (takes_of rfl rfl rfl rfl) (pa_cons (pe_un un_neg pe_int) pa_nil))) pss_nil)
  (pss_cons (ps_for (passes_of rfl) rfl (pi_enumA (by rfl) T.nenumerate (pa_cons (pv 2) pa_nil)) (pg_tup (by rfl) (pgs_cons (pg_name (i := 3) nd rfl (by first | exact Or.inl rfl | exact Or.inr rfl)) (pgs_cons (pg_name (i := 4) nd rfl (by first | exact Or.inl rfl | exact Or.inr rfl)) pgs_nil))) (pss_one (ps_if (pt_not (pt_val (pe_call G_is_gate_item (hr.mono (by omega)) rfl T.mis_gate_item k_is_gate_item b_is_gate_item .nil pass0 (pa_cons (pv 4) (pa_cons (pe_callB call_len_str (by rfl) T.nlen (by decide +kernel) (pa_cons (pv 1) pa_nil)) (pa_cons (pe_callB call_len (by rfl) T.nlen (by decide +kernel) (pa_cons (pv 2) pa_nil)) pa_nil)))))) (pss_one (ps_raiseThN rfl LG hr (takes_of rfl rfl rfl rfl) (pa_cons (pv 3) pa_nil))) pss_nil)))
  (pss_cons (ps_fld (pv 0) (pv 1) (by rfl))
  (pss_one (ps_fld (pv 0) (pe_call G_as_tuples (hr.mono (by omega)) rfl T.mas_tuples k_as_tuples b_as_tuples .nil pass0 (pa_cons (pv 2) pa_nil)) (by rfl))))))), ?_⟩
    refine ⟨_, rfl, x, rfl, kx, fun e => bad e, fun e H1 s1 => ?_⟩
    obtain ⟨z, rfl⟩ : ∃ z, x = .str z := by
      cases x <;> first | exact ⟨_, rfl⟩ | cases e
    obtain ⟨bad1, good⟩ := good z rfl e
    have hzl : z.length ≤ sizeLine := by
      rcases kx with ⟨z', ez, hz⟩ | ⟨h1, _⟩
      · cases ez
        exact hz
      · exact absurd rfl (h1 z)
    refine ⟨_, rfl, y, d, rfl, hy.mono s1, fun H2 s2 => ⟨_, rfl, ?_⟩⟩
    have s12 := s1.trans s2
    cases t : isTupD d with
    | false =>
      refine iteT (iteT ⟨1, rfl, _, rfl, fun dd hd => bad1 (fun c => by rw [t] at c; cases c.1) dd _ (s12.trans (same_new hd)) upd_same⟩)
    | true =>
      refine iteF ?_
      have hy2 := hy.mono s12
      obtain ⟨a, xs, rfl, hsq, hz, r⟩ := hy2.seq (K := K) t
      have lv : ∀ H', Same H2 H' → SqL K H' a xs ∨ SqT K H' a xs := fun H' sm => by
        rcases hsq with hsq | hsq
        · exact .inl (L2.Same.seq sm hsq)
        · exact .inr (Ow.Same.sqT sm hsq)
      have lenv : ∀ H', Same H2 H' → LenV (cxOf (L2.CX P w) P w K mg base N_Gate_init "Gate.__init__" (defScope s_Gate_init) A.f_Gate_init cdv A' outer s H E).K (.ref a) H' xs.length := fun H' sm => by
        rcases lv H' sm with q | q
        · exact .inl ⟨_, q, rfl⟩
        · exact .inr ⟨_, q, rfl⟩
      refine ⟨_, rfl, _, xs.length, rfl, lenv H2 (Same.refl H2), ?_⟩
      have hbad : ¬ (1 ≤ xs.length ∧ xs.length ≤ 50) → BearsN A.c_BadGate (.int (-1)) H E := fun c => bad1 (fun z => c (by rw [r.len]; exact z.2))
      refine ⟨_, _, rfl, rfl, _, rfl, ?_⟩
      by_cases c1 : 1 ≤ xs.length
      · refine iteY (by omega) ⟨_, _, rfl, rfl, _, rfl, ?_⟩
        by_cases c2 : xs.length ≤ 50
        · refine iteNS (by omega) ?_
          obtain ⟨badk, fin⟩ := good t (by rw [← r.len]; exact c1) (by rw [← r.len]; exact c2)
          have hself : ∀ H', Same H2 H' → H' self = some (.ins A.c_Gate dx []) := fun H' sm => sm _ _ (s12 _ _ h0)
          refine ⟨_, rfl, a, xs, rfl, ?_⟩
          have tail : ∀ σ H3, GIv self a z d H2 xs.length σ H3 → ∃ o3 o4, σ = [some (V.ref self), some (V.str z), some (V.ref a), o3, o4] ∧ Same H2 H3 ∧ (d.depth ≤ 2 ∧ plainD d = true ∧ ∀ v H1, But self H H1 → H1 self = some (.ins A.c_Gate dx [(("asks" : Str), .str z), (("steps" : Str), v)]) → Tt H1 v (deepD d) → Q .non H1) := by
            rintro σ H3 ⟨o3, o4, rfl, sm, ok⟩
            refine ⟨o3, o4, rfl, sm, fin fun j dj ej => ok j dj ?_ ej⟩
            rw [r.len]
            exact (List.getElem?_eq_some_iff.mp ej).1
          have ends : ∀ σ H3, GIv self a z d H2 xs.length σ H3 → (tSeq (sFld K (tVar 0) (tVar 1) "asks") (sFld K (tVar 0) (tCall (spDeep 2) [] E0 (tCons (tVar 2) tNil)) "steps")) { nx := fun _ H' => Q .non H', rt := Q } σ H3 := by
            intro σ H3 g
            obtain ⟨o3, o4, rfl, sm, hdep, hpl, fin⟩ := tail σ H3 g
            refine ⟨_, rfl, _, rfl, self, A.c_Gate, dx, [], rfl, hself H3 sm, GC.cls, GC.nAsks, by decide, ?_⟩
            have hp1 : putF "asks" (V.str z) [] = [(("asks" : Str), V.str z)] := rfl
            rw [hp1]
            have h3 := hself H3 sm
            have k3 : KeepD H3 (upd H3 self (.ins A.c_Gate dx [(("asks" : Str), V.str z)])) := KeepD.upd h3 rfl
            have b3 : But self H (upd H3 self (.ins A.c_Gate dx [(("asks" : Str), V.str z)])) := (But.of (s12.trans sm)).trans But.upd
            have th := ((hy2.mono sm).keepD k3)
            have e3 : (upd H3 self (.ins A.c_Gate dx [(("asks" : Str), V.str z)])) self = some (.ins A.c_Gate dx [(("asks" : Str), V.str z)]) := upd_same
            generalize upd H3 self (.ins A.c_Gate dx [(("asks" : Str), V.str z)]) = H4 at b3 th e3 ⊢
            refine ⟨_, rfl, _, d, rfl, th, hdep, hpl, fun v H5 s5 tv => ⟨_, rfl, self, A.c_Gate, dx, _, rfl, s5 _ _ e3, GC.cls, GC.nSteps, (by show 1 < 1000; decide), ?_⟩⟩
            have hp2 : putF "steps" v [(("asks" : Str), V.str z)] = [(("asks" : Str), V.str z), (("steps" : Str), v)] := rfl
            rw [hp2]
            exact fin v _ (b3.trans ((But.of s5).trans But.upd)) upd_same (tv.keep (KeepT.ofD (KeepD.upd (s5 _ _ e3) rfl)))
          rcases hsq with hsq | hsq
          · refine .inl ⟨hsq, for_enumL (K := K) (xs := xs) (fun i σ H' => GIv self a z d H2 i σ H') ⟨_, _, rfl, Same.refl H2, fun j dj c => absurd c (Nat.not_lt_zero j)⟩ (fun i σ H' ⟨_, _, _, sm, _⟩ => L2.Same.seq sm hsq) ?_ ends⟩
            rintro i v T σ H3 hv ⟨o3, o4, rfl, sm, ok⟩ hT
            have sT := same_new (o := .tup [.int (i : Nat), v]) hT
            obtain ⟨dv, ev, tv⟩ := r.get hv
            refine ⟨T, _, rfl, SqT.of upd_same, rfl, _, _, rfl, _, _, rfl, rfl, ?_⟩
            refine ⟨_, rfl, _, rfl, z, rfl, hzl, _, rfl, _, xs.length, rfl, lenv _ (sm.trans sT), v, dv, _, _, rfl, tv.mono (sm.trans sT), fun H4 s4 => ⟨_, rfl, ?_⟩⟩
            have sm4 := (sm.trans sT).trans s4
            cases eg : gateItemD dv z.length xs.length with
            | false => exact iteT ⟨_, rfl, _, rfl, fun dd hd => badk i dv ev (by rw [← r.len]; exact eg) ok dd _ (s12.trans (sm4.trans (same_new hd))) upd_same⟩
            | true =>
              refine iteF ⟨_, _, rfl, sm4, fun j dj hj ej => ?_⟩
              by_cases e : j = i
              · subst e
                obtain rfl : dv = dj := Option.some.inj (ev.symm.trans ej)
                rw [← r.len]
                exact eg
              · exact ok j dj (by omega) ej
          · refine .inr ⟨hsq, for_enumT (K := K) (xs := xs) (fun i σ H' => GIv self a z d H2 i σ H') ⟨_, _, rfl, Same.refl H2, fun j dj c => absurd c (Nat.not_lt_zero j)⟩ (fun i σ H' ⟨_, _, _, sm, _⟩ => Ow.Same.sqT sm hsq) ?_ ends⟩
            rintro i v T σ H3 hv ⟨o3, o4, rfl, sm, ok⟩ hT
            have sT := same_new (o := .tup [.int (i : Nat), v]) hT
            obtain ⟨dv, ev, tv⟩ := r.get hv
            refine ⟨T, _, rfl, SqT.of upd_same, rfl, _, _, rfl, _, _, rfl, rfl, ?_⟩
            refine ⟨_, rfl, _, rfl, z, rfl, hzl, _, rfl, _, xs.length, rfl, lenv _ (sm.trans sT), v, dv, _, _, rfl, tv.mono (sm.trans sT), fun H4 s4 => ⟨_, rfl, ?_⟩⟩
            have sm4 := (sm.trans sT).trans s4
            cases eg : gateItemD dv z.length xs.length with
            | false => exact iteT ⟨_, rfl, _, rfl, fun dd hd => badk i dv ev (by rw [← r.len]; exact eg) ok dd _ (s12.trans (sm4.trans (same_new hd))) upd_same⟩
            | true =>
              refine iteF ⟨_, _, rfl, sm4, fun j dj hj ej => ?_⟩
              by_cases e : j = i
              · subst e
                obtain rfl : dv = dj := Option.some.inj (ev.symm.trans ej)
                rw [← r.len]
                exact eg
              · exact ok j dj (by omega) ej
        · exact iteNN (by omega) ⟨1, rfl, _, rfl, fun dd hd => hbad (fun z => c2 z.2) dd _ (s12.trans (same_new hd)) upd_same⟩
      · exact iteN (by omega) ⟨_, rfl, iteT ⟨1, rfl, _, rfl, fun dd hd => hbad (fun z => c1 z.1) dd _ (s12.trans (same_new hd)) upd_same⟩⟩
end
end As

namespace Ow
open PySem PySem.Spec PyProof.Rows L2
/-- all but lists stay -/
def KeepX (H H' : Hp) : Prop := ∀ a o, H a = some o → (∀ xs, o ≠ .lst xs) → H' a = some o
theorem KeepX.of {H H' : Hp} (e : Same H H') : KeepX H H' := fun a o h _ => e a o h
theorem KeepX.trans {H H1 H2 : Hp} (a : KeepX H H1) (b : KeepX H1 H2) : KeepX H H2 := fun c o h n => b c o (a c o h n) n
theorem KeepX.upd {H : Hp} {a : Addr} {o : HO} {ys : List V} (h : H a = some (.lst ys)) : KeepX H (upd H a o) := fun b u hb n => by
  rw [upd_ne (ne_of hb h (n ys))]
  exact hb
theorem KeepX.t {H H' : Hp} (e : KeepX H H') : KeepT H H' := fun a xs h => e a _ h nofun
theorem KeepX.but {H H' : Hp} {a : Addr} {ys : List V} (h : H a = some (.lst ys)) (b : But a H H') : KeepX H H' := fun c o hc n => b c o hc (ne_of hc h (n ys))
/-- an instance of the class at C, of asks z and steps st -/
def IsG (C : Addr) (H : Hp) (g : Addr) (z : Str) (st : List (List (Option Int))) : Prop := ∃ dx v, H g = some (.ins C dx [(("asks" : Str), .str z), (("steps" : Str), v)]) ∧ Tt H v (GT st)
theorem IsG.keep {C g : Addr} {H H' : Hp} {z : Str} {st : List (List (Option Int))} (h : IsG C H g z st) (k : KeepX H H') : IsG C H' g z st := by
  obtain ⟨dx, v, h1, h2⟩ := h
  exact ⟨dx, v, k _ _ h1 nofun, h2.keep k.t⟩
def isInB (z : Str) (st : List (List (Option Int))) (x : V) : Bool := rowV z x && (match x with | .str r => (walkG z st 0 r.cps.toList).isSome | _ => false)
theorem rowB_mem {a z : Str} (h : rowB a z = true) : ∀ c ∈ z.cps.toList, c ∈ a.cps.toList := fun c hc => by
  unfold rowB at h
  exact of_decide_eq_true (List.all_eq_true.mp (Bool.and_eq_true_iff.mp h).2 c hc)
end Ow
namespace Ow
open PySem PySem.Spec PyProof.Rows L2
mutual
theorem Tt.dp {K : PySem.W.Frag} {H : Hp} : ∀ {x : V} {d : PyData}, Tt H x d → Dp K H x d
  | _, _, .non => .non
  | _, _, .bl b => .bl b
  | _, _, .int i => .int i
  | _, _, .str h => .str _
  | _, _, .tup h z r => .tup (SqT.of h) (TtAll.dp r)
theorem TtAll.dp {K : PySem.W.Frag} {H : Hp} : ∀ {xs : List V} {ds : List PyData}, TtAll H xs ds → DpAll K H xs ds
  | _, _, .nil => .nil
  | _, _, .cons h r => .cons (Tt.dp h) (TtAll.dp r)
end
theorem eqv_opt (a b : Option Int) : PyData.eqv (optD a) (optD b) = decide (a = b) := by
  cases a <;> cases b <;> simp [optD, PyData.eqv]
  exact (Bool.beq_eq_decide_eq _ _)
theorem eqv_item : ∀ a b : List (Option Int), PyData.eqvAll (a.map optD) (b.map optD) = decide (a = b)
  | [], [] => by simp [PyData.eqvAll]
  | [], b :: bs => by simp [PyData.eqvAll]
  | a :: as, [] => by simp [PyData.eqvAll]
  | a :: as, b :: bs => by
    rw [List.map_cons, List.map_cons, PyData.eqvAll, eqv_opt, eqv_item as bs]
    simp
theorem eqv_items : ∀ a b : List (List (Option Int)), PyData.eqvAll (a.map fun it => .tuple (it.map optD)) (b.map fun it => .tuple (it.map optD)) = decide (a = b)
  | [], [] => by simp [PyData.eqvAll]
  | [], b :: bs => by simp [PyData.eqvAll]
  | a :: as, [] => by simp [PyData.eqvAll]
  | a :: as, b :: bs => by
    rw [List.map_cons, List.map_cons, PyData.eqvAll, PyData.eqv, eqv_item, eqv_items as bs]
    simp
theorem eqv_GT (a b : List (List (Option Int))) : PyData.eqv (GT a) (GT b) = decide (a = b) := by
  unfold GT
  rw [PyData.eqv]
  exact eqv_items a b
theorem lay_item : ∀ a : List (Option Int), PyData.canLayAll0 (a.map optD) = true
  | [] => by simp [PyData.canLayAll0]
  | a :: as => by
    rw [List.map_cons, PyData.canLayAll0, lay_item as]
    cases a <;> simp [optD, PyData.canLay0]
theorem lay_items : ∀ a : List (List (Option Int)), PyData.canLayAll0 (a.map fun it => .tuple (it.map optD)) = true
  | [] => by simp [PyData.canLayAll0]
  | a :: as => by
    rw [List.map_cons, PyData.canLayAll0, lay_items as, PyData.canLay0, lay_item]
    rfl
theorem dep_item : ∀ a : List (Option Int), PyData.depthAll (a.map optD) = 0
  | [] => by simp [PyData.depthAll]
  | a :: as => by
    rw [List.map_cons, PyData.depthAll, dep_item as]
    cases a <;> simp [optD, PyData.depth]
theorem dep_items : ∀ a : List (List (Option Int)), PyData.depthAll (a.map fun it => .tuple (it.map optD)) ≤ 1
  | [] => by simp [PyData.depthAll]
  | a :: as => by
    rw [List.map_cons, PyData.depthAll, PyData.depth, dep_item]
    exact Nat.max_le.mpr ⟨Nat.le_refl _, dep_items as⟩
theorem shaped_GT (a : List (List (Option Int))) : SeqAt.shaped (GT a) = true := by
  unfold SeqAt.shaped GT
  rw [PyData.canLay0, lay_items, PyData.depth, Bool.true_and]
  have := dep_items a
  exact decide_eq_true (by omega)
end Ow
namespace As
open PySem PySem.Spec PyProof.Rows L2 Ow
section
variable {P : Program} {w : World} {K : PySem.W.Frag} {mg : Str → Option Value} {base : Heap} {A : Ad}
abbrev N_Gate_place_of : List Str := ["self", "row"]
theorem sc_Gate_place_of : FnScope N_Gate_place_of ["self", "row"] (defScope s_Gate_place_of) := ⟨rfl, rfl, rfl, by decide +kernel, rfl, by decide +kernel, by decide +kernel⟩
def spPlaceOf (K : PySem.W.Frag) (A : Ad) : Sp := fun vs H Q E => ∃ (g : Addr) (x : V) (z : Str) (st : List (List (Option Int))), vs = [.ref g, x] ∧ IsG A.c_Gate H g z st ∧ GoodS z.length st ∧ (∀ c ∈ z.cps.toList, Finds z c) ∧ Known K H x ∧
  (rowV z x = false → Bears A.c_BadRow x H E) ∧ ∀ r, x = .str r → rowV z x = true → ∀ H', Same H H' → Q (natV (walkG z st 0 r.cps.toList)) H'
theorem ok_placeof {fd : FuncData} (F : Fun K "place_of" "Gate.place_of" s_Gate_place_of A.f_Gate_place_of fd) (T : Tx K mg A) (GC : GCls K A) (KC : Kp P w K mg base (L2.CX P w) 3 A.f_check_row ["asks", "thing"] (spChkRow K A)) (KP : Kp P w K mg base CX0 1 A.f_place_behind ["asks", "steps", "row"] spPlace) :
    FnOk P w K mg base (L2.CX P w) 4 A.f_Gate_place_of fd ["self", "row"] (spPlaceOf K A) := by
  obtain ⟨fdC, G_check_row, b_check_row, k_check_row⟩ := KC
  obtain ⟨fdP, G_place_behind, b_place_behind, k_place_behind⟩ := KP
  have nd := sc_Gate_place_of.nd
  refine F.okX sc_Gate_place_of (fun vs H Q E h => ?_) (fun cdv A' outer s H vs Q E hr h => ?_)
  · obtain ⟨g, x, z, st, rfl, _⟩ := h
    rfl
  · obtain ⟨g, x, z, st, rfl, ⟨dx, v, hg, tv⟩, gs, fs, kx, bad, q⟩ := h
    refine ⟨_, (pss_cons (ps_expr (pe_callS G_check_row (hr.mono (by omega)) rfl T.mcheck_row k_check_row b_check_row (fun σ => passAt (takes_of rfl rfl rfl rfl) σ) (pa_cons (pe_fld (pv 0) (by rfl)) (pa_cons (pv 1) pa_nil))))
  (pss_one (ps_ret (pe_call G_place_behind (hr.mono (by omega)) rfl T.mplace_behind k_place_behind b_place_behind .nil pass0 (pa_cons (pe_fld (pv 0) (by rfl)) (pa_cons (pe_fld (pv 0) (by rfl)) (pa_cons (pv 1) pa_nil))))))), ?_⟩
    refine ⟨_, rfl, g, A.c_Gate, dx, _, _, rfl, hg, GC.cls, GC.nAsks, rfl, _, rfl, z, x, rfl, kx, fun e => bad e, fun e H1 s1 => ?_⟩
    obtain ⟨r, rfl⟩ : ∃ r, x = .str r := by
      cases x <;> first | exact ⟨_, rfl⟩ | cases e
    refine ⟨_, rfl, g, A.c_Gate, dx, _, _, rfl, s1 _ _ hg, GC.cls, GC.nAsks, rfl, _, rfl, g, A.c_Gate, dx, _, _, rfl, s1 _ _ hg, GC.cls, GC.nSteps, rfl, _, rfl, z, r, v, st, rfl, tv.keep (KeepT.of s1), gs, fun c hc => fs c (rowB_mem e c hc), q r rfl e H1 s1⟩
abbrev N_Gate_contains : List Str := ["self", "x"]
theorem sc_Gate_contains : FnScope N_Gate_contains ["self", "x"] (defScope s_Gate_contains) := ⟨rfl, rfl, rfl, by decide +kernel, rfl, by decide +kernel, by decide +kernel⟩
def spContains (K : PySem.W.Frag) (A : Ad) : Sp := fun vs H Q E => ∃ (g : Addr) (x : V) (z : Str) (st : List (List (Option Int))), vs = [.ref g, x] ∧ IsG A.c_Gate H g z st ∧ GoodS z.length st ∧ (∀ c ∈ z.cps.toList, Finds z c) ∧ Known K H x ∧ ∀ H', Same H H' → Q (.bl (isInB z st x)) H'
theorem ok_contains {fd : FuncData} (F : Fun K "__contains__" "Gate.__contains__" s_Gate_contains A.f_Gate_contains fd) (T : Tx K mg A) (GC : GCls K A) (KC : Kp P w K mg base CX0 1 A.f_is_row_of ["asks", "thing"] (spRowOf K)) (KP : Kp P w K mg base CX0 1 A.f_place_behind ["asks", "steps", "row"] spPlace) :
    FnOk P w K mg base CX0 2 A.f_Gate_contains fd ["self", "x"] (spContains K A) := by
  obtain ⟨fdC, G_is_row_of, b_is_row_of, k_is_row_of⟩ := KC
  obtain ⟨fdP, G_place_behind, b_place_behind, k_place_behind⟩ := KP
  have nd := sc_Gate_contains.nd
  refine F.ok sc_Gate_contains (fun vs H Q E h => ?_) (fun cdv A' outer s H vs Q E hr h => ?_)
  · obtain ⟨g, x, z, st, rfl, _⟩ := h
    rfl
  · obtain ⟨g, x, z, st, rfl, ⟨dx, v, hg, tv⟩, gs, fs, kx, q⟩ := h
    refine ⟨_, (pss_one (ps_ret (pe_and (pe_call G_is_row_of (hr.mono (by omega)) rfl T.mis_row_of k_is_row_of b_is_row_of .nil pass0 (pa_cons (pe_fld (pv 0) (by rfl)) (pa_cons (pv 1) pa_nil))) (pe_one (pe_cmpR op_notN (pe_call G_place_behind (hr.mono (by omega)) rfl T.mplace_behind k_place_behind b_place_behind .nil pass0 (pa_cons (pe_fld (pv 0) (by rfl)) (pa_cons (pe_fld (pv 0) (by rfl)) (pa_cons (pv 1) pa_nil)))) pe_non (nomark _)))))), ?_⟩
    refine ⟨_, rfl, g, A.c_Gate, dx, _, _, rfl, hg, GC.cls, GC.nAsks, rfl, _, rfl, z, x, rfl, kx, fun H1 s1 => ⟨_, rfl, ?_⟩⟩
    have q1 := q H1 s1
    unfold isInB at q1
    cases e : rowV z x with
    | false =>
      rw [e, Bool.false_and] at q1
      exact iteF q1
    | true =>
      rw [e, Bool.true_and] at q1
      obtain ⟨r, rfl⟩ : ∃ r, x = .str r := by
        cases x <;> first | exact ⟨_, rfl⟩ | cases e
      refine iteT ⟨_, rfl, g, A.c_Gate, dx, _, _, rfl, s1 _ _ hg, GC.cls, GC.nAsks, rfl, _, rfl, g, A.c_Gate, dx, _, _, rfl, s1 _ _ hg, GC.cls, GC.nSteps, rfl, _, rfl, z, r, v, st, rfl, tv.keep (KeepT.of s1), gs, fun c hc => fs c (rowB_mem e c hc), rfl, ?_⟩
      have q2 : Q (.bl (walkG z st 0 r.cps.toList).isSome) H1 := q1
      cases ew : walkG z st 0 r.cps.toList with
      | none => rw [ew] at q2; exact q2
      | some p => rw [ew] at q2; exact q2
abbrev N_Gate_len : List Str := ["self"]
theorem sc_Gate_len : FnScope N_Gate_len ["self"] (defScope s_Gate_len) := ⟨rfl, rfl, rfl, by decide +kernel, rfl, by decide +kernel, by decide +kernel⟩
def spGLen (A : Ad) : Sp := fun vs H Q E => ∃ (g : Addr) (z : Str) (st : List (List (Option Int))), vs = [.ref g] ∧ IsG A.c_Gate H g z st ∧ Q (.int st.length) H
theorem ok_glen {fd : FuncData} (F : Fun K "__len__" "Gate.__len__" s_Gate_len A.f_Gate_len fd) (T : Tx K mg A) (GC : GCls K A) :
    FnOk P w K mg base CX0 1 A.f_Gate_len fd ["self"] (spGLen A) := by
  have nd := sc_Gate_len.nd
  refine F.ok sc_Gate_len (fun vs H Q E h => ?_) (fun cdv A' outer s H vs Q E hr h => ?_)
  · obtain ⟨g, z, st, rfl, _⟩ := h
    rfl
  · obtain ⟨g, z, st, rfl, ⟨dx, v, hg, tv⟩, q⟩ := h
    refine ⟨_, (pss_one (ps_ret (pe_callB call_len (by rfl) T.nlen (by decide +kernel) (pa_cons (pe_fld (pv 0) (by rfl)) pa_nil)))), ?_⟩
    obtain ⟨l, xs, rfl, hl, r⟩ := tv.tupOf
    have e : xs.length = st.length := by
      rw [r.dt.len, List.length_map]
    refine ⟨_, rfl, g, A.c_Gate, dx, _, _, rfl, hg, GC.cls, GC.nSteps, rfl, _, xs.length, rfl, .inr ⟨_, SqT.of hl, rfl⟩, ?_⟩
    rw [e]
    exact q
abbrev N_Gate_eq : List Str := ["self", "other"]
theorem sc_Gate_eq : FnScope N_Gate_eq ["self", "other"] (defScope s_Gate_eq) := ⟨rfl, rfl, rfl, by decide +kernel, rfl, by decide +kernel, by decide +kernel⟩
def spGEq (A : Ad) : Sp := fun vs H Q E => ∃ (g : Addr) (y : V) (z : Str) (st : List (List (Option Int))), vs = [.ref g, y] ∧ IsG A.c_Gate H g z st ∧
  ((∃ z2, y = .str z2 ∧ Q (.bl false) H) ∨ ∃ g2 z2 st2, y = .ref g2 ∧ IsG A.c_Gate H g2 z2 st2 ∧ Q (.bl (decide (z = z2) && decide (st = st2))) H)
theorem ok_geq {fd : FuncData} (F : Fun K "__eq__" "Gate.__eq__" s_Gate_eq A.f_Gate_eq fd) (T : Tx K mg A) (GC : GCls K A) :
    FnOk P w K mg base CX0 1 A.f_Gate_eq fd ["self", "other"] (spGEq A) := by
  have nd := sc_Gate_eq.nd
  refine F.ok sc_Gate_eq (fun vs H Q E h => ?_) (fun cdv A' outer s H vs Q E hr h => ?_)
  · obtain ⟨g, y, z, st, rfl, _⟩ := h
    rfl
  · obtain ⟨g, y, z, st, rfl, ⟨dx, v, hg, tv⟩, h⟩ := h
    refine ⟨_, (pss_one (ps_ret (pe_and (pe_callB call_isi (by rfl) T.nisinstance (by decide +kernel) (pa_cons (pv 1) (pa_cons (pe_glob (v := .ref A.c_Gate) rfl T.mGate rfl) pa_nil))) (pe_and (pe_cmpR op_eq (pe_fld (pv 0) (by rfl)) (pe_fld (pv 1) (by rfl)) (nomark _)) (pe_one (pe_cmpR (op_eqD hr.units) (pe_fld (pv 0) (by rfl)) (pe_fld (pv 1) (by rfl)) (nomark _))))))), ?_⟩
    rcases h with ⟨z2, rfl, q⟩ | ⟨g2, z2, st2, rfl, ⟨dx2, v2, hg2, tv2⟩, q⟩
    · exact ⟨_, rfl, _, _, _, _, false, rfl, .own _, .base (.str _), GC.isStr, _, rfl, iteF q⟩
    · refine ⟨_, rfl, _, _, _, _, true, rfl, .own _, .base (.ins hg2 GC.cls GC.hcl GC.hgs GC.htk GC.hm), GC.isG, _, rfl, iteT ?_⟩
      refine ⟨_, rfl, g, A.c_Gate, dx, _, _, rfl, hg, GC.cls, GC.nAsks, rfl, _, rfl, g2, A.c_Gate, dx2, _, _, rfl, hg2, GC.cls, GC.nAsks, rfl, rfl, _, rfl, ?_⟩
      by_cases e : z = z2
      · subst e
        refine iteY rfl ?_
        refine ⟨_, rfl, g, A.c_Gate, dx, _, _, rfl, hg, GC.cls, GC.nSteps, rfl, _, rfl, g2, A.c_Gate, dx2, _, _, rfl, hg2, GC.cls, GC.nSteps, rfl, _, _, tv.dp, tv2.dp, shaped_GT st, shaped_GT st2, ?_⟩
        rw [eqv_GT]
        rw [decide_eq_true rfl, Bool.true_and] at q
        exact q
      · rw [decide_eq_false e, Bool.false_and] at q
        exact iteN (fun c => e (V.str.inj c)) q
end
end As

namespace As
open PySem PySem.Spec PyProof.Rows L2 Ow
section
variable {P : Program} {w : World} {K : PySem.W.Frag} {mg : Str → Option Value} {base : Heap} {A : Ad}
/-- d is what a Gate of asks z can be made of, with the steps st -/
structure GS (d : PyData) (n : Nat) (st : List (List (Option Int))) : Prop where
  tup : isTupD d = true
  len : (itemsD d).length = st.length
  items : ∀ (j : Nat) dj, (itemsD d)[j]? = some dj → gateItemD dj n st.length = true
  deep : deepD d = GT st
  dep : d.depth ≤ 2
  pl : plainD d = true
theorem item_good {n : Nat} {st : List (List (Option Int))} (g : GoodS n st) {it : List (Option Int)} (h : it ∈ st) {d : PyData} (ht : isTupD d = true) (hi : itemsD d = it.map optD) : gateItemD d n st.length = true := by
  unfold gateItemD tupOfD
  rw [ht, hi, List.length_map, g.len it h, Bool.true_and, decide_eq_true rfl, Bool.true_and]
  refine List.all_eq_true.mpr fun p hp => ?_
  obtain ⟨o, ho, rfl⟩ := List.mem_map.mp hp
  cases o with
  | none => rfl
  | some q =>
    obtain ⟨q0, q1⟩ := g.ok it h q ho
    show (false || (decide (0 ≤ q) && decide (q < (st.length : Int)))) = true
    rw [decide_eq_true q0, decide_eq_true q1]
    rfl
theorem deep_opt : ∀ it : List (Option Int), (it.map optD).map deepD = it.map optD
  | [] => rfl
  | o :: r => by
    rw [List.map_cons, List.map_cons, deep_opt r]
    cases o <;> rfl
theorem deep_tups : ∀ st : List (List (Option Int)), (st.map fun it => PyData.tuple (it.map optD)).map deepD = st.map fun it => .tuple (it.map optD)
  | [] => rfl
  | it :: r => by
    rw [List.map_cons, List.map_cons, deep_tups r, deepD, deepAll_map, deep_opt]
theorem deep_lists : ∀ st : List (List (Option Int)), (st.map fun it => PyData.list (it.map optD)).map deepD = st.map fun it => .tuple (it.map optD)
  | [] => rfl
  | it :: r => by
    rw [List.map_cons, List.map_cons, List.map_cons, deep_lists r, deepD, deepAll_map, deep_opt]
theorem dep_lists : ∀ a : List (List (Option Int)), PyData.depthAll (a.map fun it => .list (it.map optD)) ≤ 1
  | [] => by simp [PyData.depthAll]
  | a :: as => by
    rw [List.map_cons, PyData.depthAll, PyData.depth, dep_item]
    exact Nat.max_le.mpr ⟨Nat.le_refl _, dep_lists as⟩
theorem plain_opt : ∀ it : List (Option Int), plainAll (it.map optD) = true
  | [] => rfl
  | o :: r => by
    rw [List.map_cons, plainAll, plain_opt r]
    cases o <;> rfl
theorem plain_tups : ∀ st : List (List (Option Int)), plainAll (st.map fun it => .tuple (it.map optD)) = true
  | [] => rfl
  | it :: r => by
    rw [List.map_cons, plainAll, plain_tups r, plainD, plain_opt]
    rfl
theorem plain_lists : ∀ st : List (List (Option Int)), plainAll (st.map fun it => .list (it.map optD)) = true
  | [] => rfl
  | it :: r => by
    rw [List.map_cons, plainAll, plain_lists r, plainD, plain_opt]
    rfl
theorem gs_tup {n : Nat} {st : List (List (Option Int))} (g : GoodS n st) : GS (GT st) n st where
  tup := rfl
  len := List.length_map _
  items := fun j dj h => by
    have h' : (st.map fun it => PyData.tuple (it.map optD))[j]? = some dj := h
    rw [List.getElem?_map] at h'
    obtain ⟨it, hit, rfl⟩ := Option.map_eq_some_iff.mp h'
    exact item_good g (List.mem_of_getElem? hit) rfl rfl
  deep := by
    unfold GT
    rw [deepD, deepAll_map, deep_tups]
  dep := by
    unfold GT
    rw [PyData.depth]
    have := dep_items st
    omega
  pl := by
    unfold GT
    rw [plainD, plain_tups]
theorem gs_lst {n : Nat} {st : List (List (Option Int))} (g : GoodS n st) : GS (GL st) n st where
  tup := rfl
  len := List.length_map _
  items := fun j dj h => by
    have h' : (st.map fun it => PyData.list (it.map optD))[j]? = some dj := h
    rw [List.getElem?_map] at h'
    obtain ⟨it, hit, rfl⟩ := Option.map_eq_some_iff.mp h'
    exact item_good g (List.mem_of_getElem? hit) rfl rfl
  deep := by
    unfold GL GT
    rw [deepD, deepAll_map, deep_lists]
  dep := by
    unfold GL
    rw [PyData.depth]
    have := dep_lists st
    omega
  pl := by
    unfold GL
    rw [plainD, plain_lists]
theorem known_str {z : Str} {H : Hp} (h : z.length ≤ sizeLine) : Known K H (.str z) := .inl ⟨z, rfl, h⟩
/-- a Gate made of good things -/
theorem make_good {H1 : Hp} {y : V} {z : Str} {d : PyData} {st : List (List (Option Int))} {Q : VK} {E : XK} (hz : asksV (.str z) = true) (zl : z.length ≤ sizeLine) (hy : Th H1 y d) (g : GoodS z.length st) (gs : GS d z.length st)
    (q : ∀ a H2, Same H1 H2 → H1 a = none → IsG A.c_Gate H2 a z st → Q (.ref a) H2) :
    ∀ x dx, H1 x = none → H1 dx = none → dx ≠ x → spGInit K A [.ref x, .str z, y] (upd (upd H1 dx (.own x)) x (.ins A.c_Gate dx [])) (fun v H2 => v = .non ∧ Q (.ref x) H2) E := by
  intro x dx hx hdx ne
  have s0 : Same H1 (upd (upd H1 dx (.own x)) x (.ins A.c_Gate dx [])) := fun b o hb => by
    rw [upd_ne (ne_of_none hb hx), upd_ne (ne_of_none hb hdx)]
    exact hb
  refine ⟨x, dx, .str z, y, d, rfl, upd_same, known_str zl, hy.mono s0, fun e => (by rw [hz] at e; cases e), fun z' ez _ => ?_⟩
  cases ez
  have l1 := g.ne
  have l2 := g.le
  refine ⟨fun c => absurd ⟨gs.tup, by rw [gs.len]; exact l1, by rw [gs.len]; exact l2⟩ c, fun _ _ _ => ⟨fun k dk e b _ => ?_, fun _ => ⟨gs.dep, gs.pl, fun v H2 bt hs tv => ⟨rfl, q x H2 (fun b o hb => ?_) hx ⟨dx, v, hs, ?_⟩⟩⟩⟩⟩
  · rw [gs.len, gs.items k dk e] at b
    cases b
  · exact bt b o (s0 b o hb) (ne_of_none hb hx)
  · rw [← gs.deep]
    exact tv
abbrev N_Gate_wide : List Str := ["cls", "asks"]
theorem sc_Gate_wide : FnScope N_Gate_wide ["cls", "asks"] (defScope s_Gate_wide) := ⟨rfl, rfl, rfl, by decide +kernel, rfl, by decide +kernel, by decide +kernel⟩
def wideS (n : Nat) : List (List (Option Int)) := [List.replicate n (some 0)]
theorem good_wide (n : Nat) : GoodS n (wideS n) where
  ne := (by show 0 < 1; decide)
  le := (by show 1 ≤ 50; decide)
  len := fun it h => by
    obtain rfl := List.mem_singleton.mp h
    exact List.length_replicate
  ok := fun it h q hq => by
    obtain rfl := List.mem_singleton.mp h
    obtain rfl := Option.some.inj (List.eq_of_mem_replicate hq)
    exact ⟨by decide, (by show (0 : Int) < 1; decide)⟩
def spWideG (K : PySem.W.Frag) (A : Ad) : Sp := fun vs H Q E => ∃ (z : Str), vs = [.ref A.c_Gate, .str z] ∧ asksV (.str z) = true ∧ z.length ≤ sizeLine ∧ ∀ g H', Same H H' → H g = none → IsG A.c_Gate H' g z (wideS z.length) → Q (.ref g) H'
theorem ok_gwide {fd : FuncData} (F : Fun K "wide" "Gate.wide" s_Gate_wide A.f_Gate_wide fd) (T : Tx K mg A) (GC : GCls K A)
    (KC : Kp P w K mg base (L2.CX P w) 3 A.f_check_asks ["thing"] (spChkAsks K A)) (KW : Kp P w K mg base CX0 1 A.f_wide_steps ["asks"] spWide) (KG : Kp P w K mg base (L2.CX P w) 5 A.f_Gate_init ["self", "asks", "steps"] (spGInit K A)) :
    FnOk P w K mg base (L2.CX P w) 7 A.f_Gate_wide fd ["cls", "asks"] (spWideG K A) := by
  obtain ⟨fdC, G_check_asks, b_check_asks, k_check_asks⟩ := KC
  obtain ⟨fdW, G_wide_steps, b_wide_steps, k_wide_steps⟩ := KW
  obtain ⟨fdG, G_Gate_init, b_Gate_init, k_Gate_init⟩ := KG
  have nd := sc_Gate_wide.nd
  refine F.okX sc_Gate_wide (fun vs H Q E h => ?_) (fun cdv A' outer s H vs Q E hr h => ?_)
  · obtain ⟨z, rfl, _⟩ := h
    rfl
  · obtain ⟨z, rfl, ez, hz, q⟩ := h
    refine ⟨_, (pss_cons (ps_expr (pe_callS G_check_asks (hr.mono (by omega)) rfl T.mcheck_asks k_check_asks b_check_asks (fun σ => passAt (takes_of rfl rfl rfl rfl) σ) (pa_cons (pv 1) pa_nil)))
  (pss_one (ps_ret (pe_makeL (pv 0) GC.mkr G_Gate_init (hr.mono (by omega)) b_Gate_init (fun σ => passAt (takes_of rfl rfl rfl rfl) σ) (pa_cons (pv 1) (pa_cons (pe_call G_wide_steps (hr.mono (by omega)) rfl T.mwide_steps k_wide_steps b_wide_steps .nil pass0 (pa_cons (pv 1) pa_nil)) pa_nil)))))), ?_⟩
    have zl : z.length ≤ 4 ∧ 1 ≤ z.length := by
      have e : (decide (1 ≤ z.length) && (decide (z.length ≤ 4) && _)) = true := ez
      have e1 := Bool.and_eq_true_iff.mp e
      have e2 := Bool.and_eq_true_iff.mp e1.2
      exact ⟨of_decide_eq_true e2.1, of_decide_eq_true e1.1⟩
    refine ⟨_, rfl, _, rfl, known_str hz, fun e => (by rw [ez] at e; cases e), fun _ H1 s1 => ?_⟩
    refine ⟨_, rfl, rfl, _, rfl, _, rfl, z, rfl, zl.2, by omega, fun v H2 s2 tv => ?_⟩
    exact make_good ez hz tv.th (good_wide z.length) (gs_tup (good_wide z.length)) fun a H3 s3 fr ig => q a H3 (s1.trans (s2.trans s3)) (s1.free (s2.free fr)) ig
end
end As

namespace Ow
open PySem PySem.Spec PyProof.Rows L2
theorem Th.lstOf {H : Hp} {x : V} {ds : List PyData} (h : Th H x (.list ds)) : ∃ l xs, x = .ref l ∧ H l = some (.lst xs) ∧ ThAll H xs ds := by
  cases h with
  | lst h hz r => exact ⟨_, _, rfl, h, r⟩
theorem ThAll.got {H : Hp} : ∀ {xs : List V} {ds : List PyData}, ThAll H xs ds → ∀ {i : Nat} {d : PyData}, ds[i]? = some d → ∃ x, xs[i]? = some x ∧ Th H x d
  | _, _, .nil, _, _, h => by simp at h
  | _, _, .cons (x := x) h r, 0, d, e => ⟨x, rfl, by
    have e' := Option.some.inj e
    rw [← e']
    exact h⟩
  | _, _, .cons h r, i + 1, d, e => ThAll.got r (i := i) e
theorem Th.optT {H : Hp} {x : V} {o : Option Int} (h : Th H x (optD o)) : x = optV o := by
  cases o with
  | none => cases h; rfl
  | some i => cases h; rfl
def spPasses : Sp := fun vs H Q _ => ∃ (a z : Str) (x : V) (st : List (List (Option Int))), vs = [.str a, x, .str z] ∧ Th H x (GL st) ∧ GoodS a.length st ∧ (∀ c ∈ z.cps.toList, Finds a c) ∧ Q (natV (walkG a st 0 z.cps.toList)) H
end Ow
namespace As
open PySem PySem.Spec PyProof.Rows L2 Ow TL
section
variable {P : Program} {w : World} {K : PySem.W.Frag} {mg : Str → Option Value} {base : Heap} {A : Ad}
abbrev N__law_row : List Str := ["_law_source_here", "_law_asks_here", "_law_longest", "_law_size", "_law_k"]
theorem sc__law_row : FnScope N__law_row ["_law_source_here", "_law_asks_here", "_law_longest"] (defScope s__law_row) := ⟨rfl, rfl, rfl, by decide +kernel, rfl, by decide +kernel, by decide +kernel⟩
theorem ok_lrow {fd : FuncData} (F : Fun K "_law_row" "_law_row" s__law_row A.f__law_row fd) (T : Tx K mg A) (KDraw : Kp P w K mg base CX0 1 A.f__law_draw ["_law_source_here", "_law_many"] spDraw) :
    FnOk P w K mg base CX0 2 A.f__law_row fd ["_law_source_here", "_law_asks_here", "_law_longest"] spLRow := by
  obtain ⟨fdD, G__law_draw, b__law_draw, k__law_draw⟩ := KDraw
  have nd := sc__law_row.nd
  refine F.ok sc__law_row (fun vs H Q E h => ?_) (fun cdv A' outer s H vs Q E hr h => ?_)
  · obtain ⟨p, z, m, rfl, _⟩ := h
    rfl
  · obtain ⟨p, z, m, rfl, hp, hz, hz2, hm, hm2, q⟩ := h
    have hzl : z.length ≤ sizeLine := Nat.le_trans hz2 (by decide)
    have ez : z.cps.toList.length = z.length := Array.length_toList
    refine ⟨_, (pss_cons (ps_set (i := 3) nd rfl (by first | exact Or.inl rfl | exact Or.inr rfl) (pe_call G__law_draw (hr.mono (by omega)) rfl T.m_law_draw k__law_draw b__law_draw .nil pass0 (pa_cons (pv 0) (pa_cons (pe_op op_add (pv 2) pe_int) pa_nil))))
  (pss_one (ps_ret (pe_join pe_str (pe_lc (own := [("_law_k", 4)]) (g := gName 4) (tt := tYes) rfl nd (pi_range1 (by rfl) T.nrange (pa_cons (pv 3) pa_nil)) (blkOk_by (own := [("_law_k", 4)]) (N := N__law_row) (sc := defScope s__law_row) (by decide +kernel)) (fun _ _ _ _ _ => (pg_name (i := 4) nd rfl (by first | exact Or.inl rfl | exact Or.inr rfl))) (fun _ _ _ _ _ => pts_nil) (fun _ _ _ _ _ => (pe_ix ix_str (pv 1) (pe_call G__law_draw (hr.mono (by omega)) rfl T.m_law_draw k__law_draw b__law_draw .nil pass0 (pa_cons (pv 0) (pa_cons (pe_callB call_len_str (by rfl) T.nlen (by decide +kernel) (pa_cons (pv 1) pa_nil)) pa_nil))) (fun _ _ => rfl)))))))), ?_⟩
    refine ⟨_, rfl, _, rfl, _, _, rfl, rfl, p, m + 1, rfl, hp, by omega, by omega, fun d H1 d0 d1 g1 b1 => ?_⟩
    refine ⟨⟨_, rfl⟩, _, rfl, d, rfl, by omega, by omega, fun D hD => ?_⟩
    have hDp : D ≠ p := by
      obtain ⟨o, ho⟩ := g1.some
      exact (ne_of_none ho hD).symm
    refine lc_range (lo := 0) (n := d.toNat) (fun i H' => ∃ ys : List Str, H' D = some (.lst (ys.map V.str)) ∧ ys.length = i ∧ (∀ y ∈ ys, ∃ c ∈ z.cps.toList, y = ⟨#[c]⟩) ∧ Src H' p ∧ But p H1 H')
      ⟨[], upd_same, rfl, (fun _ h => nomatch h), g1.same (same_new hD), But.of (same_new hD)⟩ ?_ ?_
    · rintro i H2 hi ⟨ys, hy1, hy2, hy3, g2, b2⟩
      refine ⟨rfl, ?_⟩
      refine yes_go ?_
      refine ⟨_, rfl, _, rfl, _, rfl, z, rfl, hzl, p, (z.length : Int), rfl, g2, by omega, by omega, fun e H4 e0 e1 g4 b4 => ?_⟩
      obtain ⟨j, rfl⟩ : ∃ j : Nat, e = (j : Int) := ⟨e.toNat, by omega⟩
      have hj : j < z.cps.toList.length := by omega
      refine ⟨z, _, z.cps.toList[j], rfl, rfl, hzl, atI_nat (List.getElem?_eq_getElem hj), _, b4 D _ hy1 hDp, ?_, ys ++ [⟨#[z.cps.toList[j]]⟩], ?_, ?_, ?_, ?_, ?_⟩
      · rw [List.length_map, hy2]
        exact Nat.lt_of_lt_of_le (show i < 2000 by omega) (by decide)
      · rw [upd_same, List.map_append]
        rfl
      · rw [List.length_append, hy2]
        rfl
      · intro y hy
        rcases List.mem_append.mp hy with hy | hy
        · exact hy3 y hy
        · rw [List.mem_singleton.mp hy]
          exact ⟨_, List.getElem_mem hj, rfl⟩
      · exact g4.but (But.upd (s := D)) hDp.symm
      · intro b o hb nb
        rw [upd_ne (ne_of_none hb hD)]
        exact b4 b o (b2 b o hb nb) nb
    · rintro H2 ⟨ys, hy1, hy2, hy3, g2, b2⟩
      have hl1 : ∀ y ∈ ys, y.length = 1 := fun y hy => by
        obtain ⟨c, _, rfl⟩ := hy3 y hy
        rfl
      refine ⟨_, D, ys, rfl, rfl, .inl (SqL.of hy1), ?_, ?_⟩
      · rw [sum_ones ys hl1]
        show ys.length + ys.length * (Str.ofString "").length ≤ 16777216
        rw [show (Str.ofString "").length = 0 by decide +kernel]
        omega
      · obtain ⟨k1, k2⟩ := join_signs z.cps.toList ys hy3
        have et : tl (Txt.join (Str.ofString "") ys) = joinL [] (ys.map tl) := by rw [join_eq, tl_join, tl_empty]
        refine q _ H2 (fun c hc => k1 c ?_) ?_ g2 (b1.trans b2)
        · rw [← et]
          exact hc
        · rw [len_tl, et, k2, hy2]
          omega
abbrev N__law_passes : List Str := ["_law_asks_here", "_law_doors", "_law_row_here", "_law_place", "_law_letter"]
theorem sc__law_passes : FnScope N__law_passes ["_law_asks_here", "_law_doors", "_law_row_here"] (defScope s__law_passes) := ⟨rfl, rfl, rfl, by decide +kernel, rfl, by decide +kernel, by decide +kernel⟩
theorem ok_passes {fd : FuncData} (F : Fun K "_law_passes" "_law_passes" s__law_passes A.f__law_passes fd) (T : Tx K mg A) : FnOk P w K mg base CX0 1 A.f__law_passes fd ["_law_asks_here", "_law_doors", "_law_row_here"] spPasses := by
  have nd := sc__law_passes.nd
  refine F.ok sc__law_passes (fun vs H Q E h => ?_) (fun cdv A' outer s H vs Q E hr h => ?_)
  · obtain ⟨a, z, x, st, rfl, _⟩ := h
    rfl
  · obtain ⟨a, z, x, st, rfl, hx, hg, hf, q⟩ := h
    refine ⟨_, (pss_cons (ps_set (i := 3) nd rfl (by first | exact Or.inl rfl | exact Or.inr rfl) pe_int)
  (pss_cons (ps_for PassesOwn.never rfl (pi_str (pv 2)) (pg_name (i := 4) nd rfl (by first | exact Or.inl rfl | exact Or.inr rfl)) (pss_cons (ps_set (i := 3) nd rfl (by first | exact Or.inl rfl | exact Or.inr rfl) (pe_ix ix_list (pe_ix ix_list (pv 1) (pv 3) (fun _ _ => rfl)) (pe_m1 PySem.F.slot_str_find PySem.F.type_str_find mt_find (pv 0) (pv 4)) (fun _ _ => rfl)))
  (pss_one (ps_if (pt_cmpR op_isN (pv 3) pe_non (nomark _)) (pss_one (ps_ret pe_non)) pss_nil))))
  (pss_one (ps_ret (pv 3))))), ?_⟩
    obtain ⟨l, xs, rfl, hl, r⟩ := hx.lstOf
    have hsz : z.cps.size = z.cps.toList.length := Array.length_toList.symm
    refine ⟨_, rfl, z, rfl, for_it walk_str (fun i σ H' => ∃ p o, walkG a st 0 (z.cps.toList.take i) = some p ∧ p < st.length ∧ σ = [some (.str a), some (.ref l), some (.str z), some (.int p), o] ∧ H' = H) ?_ (fun _ _ _ _ _ => trivial) ?_ ?_⟩
    · exact ⟨0, _, rfl, hg.ne, rfl, rfl⟩
    · rintro i v σ H2 H' hi ⟨p, o, e, hp, rfl, rfl⟩ ⟨rfl, c, hc, rfl⟩
      have hc' : z.cps.toList[i]? = some c := by rw [Array.getElem?_toList]; exact hc
      obtain ⟨j, ej, hj⟩ := hf c (List.mem_of_getElem? hc')
      have ep := List.getElem?_eq_getElem hp
      have ei := stepAt_get (j := j) ep (by rw [hg.len _ (List.getElem_mem hp)]; exact hj)
      obtain ⟨y, ey, ty⟩ := r.got (i := p) (d := .list (st[p].map optD)) (by rw [List.getElem?_map, ep]; rfl)
      obtain ⟨l2, ys, rfl, hl2, r2⟩ := ty.lstOf
      obtain ⟨o2, eo, to⟩ := r2.got (i := j) (d := optD (stepAt st p j)) (by rw [List.getElem?_map, ei]; rfl)
      obtain rfl := to.optT
      have hw := walkG_snoc a st c (z.cps.toList.take i) 0
      rw [← take_get' hc', e, Option.bind_some, ej, Int.toNat_natCast] at hw
      refine ⟨_, rfl, _, rfl, l, _, _, _, rfl, rfl, SqL.of hl, atI_nat (j := p) ey, _, rfl, ⟨_, rfl⟩, _, rfl, a, _, rfl, rfl, l2, _, _, _, rfl, (show V.int (fnd a c) = _ from congrArg V.int ej), SqL.of hl2, atI_nat (j := j) eo, ?_⟩
      cases es : stepAt st p j with
      | none =>
        rw [es] at hw
        refine ⟨_, rfl, rfl, _, rfl, iteY rfl ?_⟩
        have hn : walkG a st 0 z.cps.toList = none := by
          rw [← List.take_append_drop (i + 1) z.cps.toList]
          exact walkG_cut a st _ _ 0 hw
        rw [hn] at q
        exact q
      | some k =>
        rw [es] at hw
        obtain ⟨k0, k1⟩ := stepAt_ok hg hp hj es
        refine ⟨_, rfl, rfl, _, rfl, iteN nofun ?_⟩
        refine ⟨k.toNat, some (.str ⟨#[c]⟩), hw, k1, ?_, rfl⟩
        show [some (V.str a), some (V.ref l), some (V.str z), some (V.int k), some (.str ⟨#[c]⟩)] = _
        rw [Int.toNat_of_nonneg k0]
    · rintro σ H2 ⟨p, o, e, hp, rfl, rfl⟩
      rw [hsz, List.take_length] at e
      rw [e] at q
      exact ⟨_, rfl, q⟩
end
end As

namespace Ow
open PySem PySem.Spec PyProof.Rows L2
/-- lists of places at bs -/
inductive Each (H : Hp) : List Addr → List (List (Option Int)) → Prop
  | nil : Each H [] []
  | cons {b : Addr} {bs : List Addr} {it : List (Option Int)} {st : List (List (Option Int))} (h : H b = some (.lst (it.map optV))) (r : Each H bs st) : Each H (b :: bs) (it :: st)
theorem Each.keep {H H' : Hp} : ∀ {bs : List Addr} {st : List (List (Option Int))}, Each H bs st → (∀ b ∈ bs, ∀ o, H b = some o → H' b = some o) → Each H' bs st
  | _, _, .nil, _ => .nil
  | _, _, .cons h r, k => .cons (k _ List.mem_cons_self _ h) (Each.keep r fun b hb => k b (List.mem_cons_of_mem _ hb))
theorem Each.len {H : Hp} : ∀ {bs : List Addr} {st : List (List (Option Int))}, Each H bs st → bs.length = st.length
  | _, _, .nil => rfl
  | _, _, .cons _ r => by rw [List.length_cons, List.length_cons, r.len]
theorem Each.snoc {H : Hp} {b : Addr} {it : List (Option Int)} (h : H b = some (.lst (it.map optV))) : ∀ {bs : List Addr} {st : List (List (Option Int))}, Each H bs st → Each H (bs ++ [b]) (st ++ [it])
  | _, _, .nil => .cons h .nil
  | _, _, .cons a r => .cons a (Each.snoc h r)
theorem Each.get {H : Hp} : ∀ {bs : List Addr} {st : List (List (Option Int))}, Each H bs st → ∀ {i : Nat} {b : Addr}, bs[i]? = some b → ∃ it, st[i]? = some it ∧ H b = some (.lst (it.map optV))
  | _, _, .nil, _, _, h => by simp at h
  | _, _, .cons (it := it) h r, 0, b, e => ⟨it, rfl, by
    have e' := Option.some.inj e
    rw [← e']
    exact h⟩
  | _, _, .cons h r, i + 1, b, e => Each.get r (i := i) e
theorem Each.set {H : Hp} {b : Addr} {it : List (Option Int)} (h : H b = some (.lst (it.map optV))) : ∀ {bs : List Addr} {st : List (List (Option Int))}, Each H bs st → ∀ i, Each H (bs.set i b) (st.set i it)
  | _, _, .nil, _ => .nil
  | _, _, .cons _ r, 0 => .cons h r
  | _, _, .cons a r, i + 1 => .cons a (Each.set h r i)
/-- the i-th list is changed in place -/
theorem Each.put {H : Hp} {b : Addr} {it : List (Option Int)} : ∀ {bs : List Addr} {st : List (List (Option Int))}, Each H bs st → bs.Nodup → ∀ {i}, bs[i]? = some b → Each (upd H b (.lst (it.map optV))) bs (st.set i it)
  | _, _, .nil, _, _, h => by simp at h
  | _, _, .cons (b := c) h r, nd, 0, e => by
    obtain rfl : c = b := Option.some.inj e
    exact .cons upd_same (r.keep fun d hd o ho => by
      rw [upd_ne (fun z => (List.nodup_cons.mp nd).1 (by rw [← z]; exact hd))]
      exact ho)
  | _, _, .cons (b := c) (bs := cs) h r, nd, i + 1, e => by
    refine .cons ?_ (r.put (List.nodup_cons.mp nd).2 e)
    have e' : cs[i]? = some b := e
    rw [upd_ne (fun z => (List.nodup_cons.mp nd).1 (by rw [z]; exact List.mem_of_getElem? e'))]
    exact h
/-- a list of lists of places, all of it new since H0 -/
structure LLF (H0 H : Hp) (l : Addr) (bs : List Addr) (st : List (List (Option Int))) : Prop where
  at_ : H l = some (.lst (bs.map V.ref))
  each : Each H bs st
  nd : bs.Nodup
  nl : l ∉ bs
  fl : H0 l = none
  fb : ∀ b ∈ bs, H0 b = none
theorem LLF.keep {H0 H H' : Hp} {l : Addr} {bs : List Addr} {st : List (List (Option Int))} (h : LLF H0 H l bs st) (k : ∀ b o, b = l ∨ b ∈ bs → H b = some o → H' b = some o) : LLF H0 H' l bs st :=
  ⟨k _ _ (.inl rfl) h.at_, h.each.keep fun b hb o ho => k b o (.inr hb) ho, h.nd, h.nl, h.fl, h.fb⟩
theorem LLF.same {H0 H H' : Hp} {l : Addr} {bs : List Addr} {st : List (List (Option Int))} (h : LLF H0 H l bs st) (k : Same H H') : LLF H0 H' l bs st := h.keep fun b o _ ho => k b o ho
/-- what stood before the lists came is changed -/
theorem LLF.but {H0 H H' : Hp} {l p : Addr} {o : HO} {bs : List Addr} {st : List (List (Option Int))} (h : LLF H0 H l bs st) (hp : H0 p = some o) (k : But p H H') : LLF H0 H' l bs st :=
  h.keep fun b u hb hu => k b u hu fun e => by
    subst e
    rcases hb with rfl | hb
    · rw [h.fl] at hp; cases hp
    · rw [h.fb _ hb] at hp; cases hp
theorem LLF.from {H0 H1 H : Hp} {l : Addr} {bs : List Addr} {st : List (List (Option Int))} (h : LLF H1 H l bs st) (k : ∀ b, H1 b = none → H0 b = none) : LLF H0 H l bs st :=
  ⟨h.at_, h.each, h.nd, h.nl, k _ h.fl, fun b hb => k b (h.fb b hb)⟩
theorem Each.th {H : Hp} : ∀ {bs : List Addr} {st : List (List (Option Int))}, Each H bs st → (∀ it ∈ st, it.length ≤ sizeLine) → ThAll H (bs.map V.ref) (st.map fun it => .list (it.map optD))
  | _, _, .nil, _ => .nil
  | _, _, .cons (it := it) h r, z => .cons (.lst h (by rw [List.length_map]; exact z _ List.mem_cons_self) (by
      clear h z
      induction it with
      | nil => exact .nil
      | cons o r ih => exact .cons (by cases o <;> constructor) ih)) (Each.th r fun it hi => z it (List.mem_cons_of_mem _ hi))
theorem LLF.th {H0 H : Hp} {l : Addr} {bs : List Addr} {st : List (List (Option Int))} (h : LLF H0 H l bs st) (z : ∀ it ∈ st, it.length ≤ sizeLine) (z2 : st.length ≤ sizeLine) : Th H (.ref l) (GL st) :=
  .lst h.at_ (by rw [List.length_map, h.each.len]; exact z2) (h.each.th z)
theorem GoodS.z1 {n : Nat} {st : List (List (Option Int))} (g : GoodS n st) (hn : n ≤ 100) : ∀ it ∈ st, it.length ≤ sizeLine := fun it h => by
  rw [g.len it h]
  exact Nat.le_trans hn (by decide)
theorem GoodS.z2 {n : Nat} {st : List (List (Option Int))} (g : GoodS n st) : st.length ≤ sizeLine := Nat.le_trans g.le (by decide)
/-- entries of one item: none, or a place below m -/
def EG (m : Nat) (it : List (Option Int)) : Prop := ∀ q, some q ∈ it → 0 ≤ q ∧ q < (m : Int)
def LGo (H : Hp) (p : Addr) (a : Str) (m : Nat) (i : Nat) (σ : L2.St) (H' : Hp) : Prop := ∃ l bs st o4 o5 o6 o7, σ = [some (V.ref p), some (V.str a), some (V.int (m : Int)), some (V.ref l), o4, o5, o6, o7] ∧ LLF H H' l bs st ∧ st.length = i ∧
  (∀ it ∈ st, it.length = a.length ∧ EG m it) ∧ Src H' p ∧ But p H H'
def LGi (H : Hp) (p l i0 : Addr) (bs : List Addr) (st : List (List (Option Int))) (a : Str) (m : Nat) (o4 : Option V) (j : Nat) (σ : L2.St) (H' : Hp) : Prop := ∃ it o6 o7, σ = [some (V.ref p), some (V.str a), some (V.int (m : Int)), some (V.ref l), o4, some (V.ref i0), o6, o7] ∧
  LLF H H' l bs st ∧ H' i0 = some (.lst (it.map optV)) ∧ it.length = j ∧ EG m it ∧ Src H' p ∧ But p H H'
theorem EG.snoc {m : Nat} {it : List (Option Int)} (h : EG m it) {o : Option Int} (ho : ∀ q, o = some q → 0 ≤ q ∧ q < (m : Int)) : EG m (it ++ [o]) := fun q hq => by
  rcases List.mem_append.mp hq with hq | hq
  · exact h q hq
  · exact ho q (List.mem_singleton.mp hq).symm
theorem LLF.snoc {H0 H : Hp} {l b : Addr} {bs : List Addr} {st : List (List (Option Int))} {it : List (Option Int)} (h : LLF H0 H l bs st) (hb : H b = some (.lst (it.map optV))) (nb : b ∉ bs) (nl : b ≠ l) (fb : H0 b = none) :
    LLF H0 (upd H l (.lst (bs.map V.ref ++ [.ref b]))) l (bs ++ [b]) (st ++ [it]) where
  at_ := by rw [upd_same, List.map_append]; rfl
  each := by
    refine Each.snoc (by rw [upd_ne nl]; exact hb) (h.each.keep fun c hc o ho => ?_)
    rw [upd_ne (fun z => h.nl (by rw [← z]; exact hc))]
    exact ho
  nd := by
    refine List.nodup_append.mpr ⟨h.nd, List.nodup_cons.mpr ⟨nofun, List.nodup_nil⟩, fun x hx y hy e => ?_⟩
    rw [List.mem_singleton.mp hy] at e
    exact nb (e ▸ hx)
  nl := fun c => by
    rcases List.mem_append.mp c with c | c
    · exact h.nl c
    · exact nl (List.mem_singleton.mp c).symm
  fl := h.fl
  fb := fun c hc => by
    rcases List.mem_append.mp hc with hc | hc
    · exact h.fb c hc
    · rw [List.mem_singleton.mp hc]; exact fb
theorem src_upd {H : Hp} {p a : Addr} {o : HO} (h : Src H p) (n : p ≠ a) : Src (upd H a o) p := by
  obtain ⟨x, y, z, hx, r⟩ := h
  exact ⟨x, y, z, by rw [upd_ne n]; exact hx, r⟩
theorem but_updF {H H' : Hp} {p a : Addr} {o : HO} (b : But p H H') (f : H a = none) : But p H (upd H' a o) := fun c u hc nc => by
  rw [upd_ne (ne_of_none hc f)]
  exact b c u hc nc
theorem llf_upd {H0 H : Hp} {l i0 : Addr} {o : HO} {bs : List Addr} {st : List (List (Option Int))} (h : LLF H0 H l bs st) (n1 : i0 ≠ l) (n2 : i0 ∉ bs) : LLF H0 (upd H i0 o) l bs st :=
  h.keep fun b u hb hu => by
    rw [upd_ne]
    · exact hu
    · rintro rfl
      rcases hb with hb | hb
      · exact n1 hb
      · exact n2 hb
theorem LLF.set0 {H0 H : Hp} {l b : Addr} {bs : List Addr} {st : List (List (Option Int))} {it : List (Option Int)} (h : LLF H0 H l bs st) (hb : H b = some (.lst (it.map optV))) (nb : b ∉ bs) (nl : b ≠ l) (fb : H0 b = none) :
    LLF H0 (upd H l (.lst ((bs.map V.ref).set 0 (.ref b)))) l (bs.set 0 b) (st.set 0 it) where
  at_ := by rw [upd_same, List.map_set]
  each := by
    refine Each.set (by rw [upd_ne nl]; exact hb) (h.each.keep fun c hc o ho => ?_) 0
    rw [upd_ne (fun z => h.nl (by rw [← z]; exact hc))]
    exact ho
  nd := by
    cases bs with
    | nil => exact List.nodup_nil
    | cons c r => exact List.nodup_cons.mpr ⟨fun z => nb (List.mem_cons_of_mem _ z), (List.nodup_cons.mp h.nd).2⟩
  nl := fun c => by
    rcases List.mem_or_eq_of_mem_set c with c | c
    · exact h.nl c
    · exact nl c.symm
  fl := h.fl
  fb := fun c hc => by
    rcases List.mem_or_eq_of_mem_set hc with hc | hc
    · exact h.fb c hc
    · rw [hc]; exact fb
end Ow
namespace As
open PySem PySem.Spec PyProof.Rows L2 Ow
section
variable {P : Program} {w : World} {K : PySem.W.Frag} {mg : Str → Option Value} {base : Heap} {A : Ad}
abbrev N__law_gate : List Str := ["_law_source_here", "_law_asks_here", "_law_many", "_law_steps", "_law_place", "_law_item", "_law_ask", "_law_after"]
theorem sc__law_gate : FnScope N__law_gate ["_law_source_here", "_law_asks_here"] (defScope s__law_gate) := ⟨rfl, rfl, rfl, by decide +kernel, rfl, by decide +kernel, by decide +kernel⟩
def spLGate : Sp := fun vs H Q _ => ∃ (p : Addr) (a : Str), vs = [.ref p, .str a] ∧ Src H p ∧ 1 ≤ a.length ∧ a.length ≤ 100 ∧ ∀ l bs st H', LLF H H' l bs st → GoodS a.length st → st.length ≤ 4 → Src H' p → But p H H' → Q (.ref l) H'
theorem ok_lgate {fd : FuncData} (F : Fun K "_law_gate" "_law_gate" s__law_gate A.f__law_gate fd) (T : Tx K mg A) (KDraw : Kp P w K mg base CX0 1 A.f__law_draw ["_law_source_here", "_law_many"] spDraw) :
    FnOk P w K mg base CX0 2 A.f__law_gate fd ["_law_source_here", "_law_asks_here"] spLGate := by
  obtain ⟨fdD, G__law_draw, b__law_draw, k__law_draw⟩ := KDraw
  have nd := sc__law_gate.nd
  refine F.ok sc__law_gate (fun vs H Q E h => ?_) (fun cdv A' outer s H vs Q E hr h => ?_)
  · obtain ⟨p, a, rfl, _⟩ := h
    rfl
  · obtain ⟨p, a, rfl, hp, ha, ha2, q⟩ := h
    refine ⟨_, (pss_cons (ps_set (i := 2) nd rfl (by first | exact Or.inl rfl | exact Or.inr rfl) (pe_op op_add pe_int (pe_call G__law_draw (hr.mono (by omega)) rfl T.m_law_draw k__law_draw b__law_draw .nil pass0 (pa_cons (pv 0) (pa_cons pe_int pa_nil)))))
  (pss_cons (ps_set (i := 3) nd rfl (by first | exact Or.inl rfl | exact Or.inr rfl) (pe_lst pa_nil))
  (pss_cons (ps_for PassesOwn.never rfl (pi_range1 (by rfl) T.nrange (pa_cons (pv 2) pa_nil)) (pg_name (i := 4) nd rfl (by first | exact Or.inl rfl | exact Or.inr rfl)) (pss_cons (ps_set (i := 5) nd rfl (by first | exact Or.inl rfl | exact Or.inr rfl) (pe_lst pa_nil))
  (pss_cons (ps_for PassesOwn.never rfl (pi_str (pv 1)) (pg_name (i := 6) nd rfl (by first | exact Or.inl rfl | exact Or.inr rfl)) (pss_cons (ps_set (i := 7) nd rfl (by first | exact Or.inl rfl | exact Or.inr rfl) (pe_call G__law_draw (hr.mono (by omega)) rfl T.m_law_draw k__law_draw b__law_draw .nil pass0 (pa_cons (pv 0) (pa_cons (pe_op op_add (pe_op op_add (pv 2) pe_int) (pe_callTy call_int1 (by rfl) T.nint (by decide +kernel) (pa_cons (pe_cmpR op_gt (pv 2) pe_int (nomark _)) pa_nil))) pa_nil))))
  (pss_one (ps_if (pt_cmpR op_ge (pv 7) (pv 2) (nomark _)) (pss_one (ps_expr (pe_bm PySem.F.plainAttrs_list PySem.F.slot_list_append PySem.F.type_list_append mt_append (pv 5) (pa_cons pe_non pa_nil)))) (pss_one (ps_expr (pe_bm PySem.F.plainAttrs_list PySem.F.slot_list_append PySem.F.type_list_append mt_append (pv 5) (pa_cons (pv 7) pa_nil))))))))
  (pss_one (ps_expr (pe_bm PySem.F.plainAttrs_list PySem.F.slot_list_append PySem.F.type_list_append mt_append (pv 3) (pa_cons (pv 5) pa_nil)))))))
  (pss_cons (ps_if (pt_cmpR op_eq (pe_call G__law_draw (hr.mono (by omega)) rfl T.m_law_draw k__law_draw b__law_draw .nil pass0 (pa_cons (pv 0) (pa_cons pe_int pa_nil))) pe_int (nomark _)) (pss_one (ps_asg (pe_lc (own := [("_law_ask", 6)]) (g := gName 6) (tt := tYes) rfl nd (pi_str (pv 1)) (blkOk_by (own := [("_law_ask", 6)]) (N := N__law_gate) (sc := defScope s__law_gate) (by decide +kernel)) (fun _ _ _ _ _ => (pg_name (i := 6) nd rfl (by first | exact Or.inl rfl | exact Or.inr rfl))) (fun _ _ _ _ _ => pts_nil) (fun _ _ _ _ _ => (pe_call G__law_draw (hr.mono (by omega)) rfl T.m_law_draw k__law_draw b__law_draw .nil pass0 (pa_cons (pv 0) (pa_cons (pv 2) pa_nil))))) (pg_sub (pv 3) pe_int set_list))) pss_nil)
  (pss_one (ps_ret (pv 3))))))), ?_⟩
    refine ⟨_, rfl, p, 4, rfl, hp, by decide, by decide, fun d H1 d0 d1 g1 b1 => ?_⟩
    obtain ⟨m, rfl⟩ : ∃ m : Nat, d = (m : Int) := ⟨d.toNat, by omega⟩
    refine ⟨_, _, rfl, rfl, ?_⟩
    show gName 2 (V.int (1 + (m : Int))) _ _ _
    rw [show (1 : Int) + (m : Int) = ((m + 1 : Nat) : Int) by omega]
    obtain ⟨n, hn⟩ : ∃ n, n = m + 1 := ⟨_, rfl⟩
    rw [← hn]
    have hn4 : n ≤ 4 := by omega
    have hn1 : 1 ≤ n := by omega
    refine ⟨(by show 0 ≤ sizeLine; decide), fun l hl => ?_⟩
    have hlp : l ≠ p := by
      obtain ⟨o, ho⟩ := g1.some
      exact (ne_of_none ho hl).symm
    have hpo : ∃ o, H p = some o := hp.some
    obtain ⟨po, hpo⟩ := hpo
    have fl : H l = none := b1.free hlp hl
    refine ⟨_, rfl, (n : Int), rfl, by omega, by omega, for_range (lo := 0) (n := (n : Int).toNat) (LGo H p a n) ?_ ?_ ?_⟩
    · refine ⟨l, [], [], none, none, none, none, rfl, ⟨upd_same, .nil, List.nodup_nil, nofun, fl, nofun⟩, rfl, nofun, g1.same (same_new hl), b1.trans (But.of (same_new hl))⟩
    · rintro i σ H2 hi ⟨l, bs, st, o4, o5, o6, o7, rfl, LL, hst, hit, g2, b2⟩
      refine ⟨(by show 0 ≤ sizeLine; decide), fun i0 hi0 => ?_⟩
      have hs := same_new (o := .lst []) hi0
      have n1 : i0 ≠ l := fun e => by rw [e, LL.at_] at hi0; cases hi0
      have n2 : i0 ∉ bs := fun c => by
        obtain ⟨j, hj⟩ := List.getElem?_of_mem c
        obtain ⟨it, _, hb⟩ := LL.each.get hj
        rw [hb] at hi0
        cases hi0
      have n3 : i0 ≠ p := by
        obtain ⟨o, ho⟩ := g2.some
        exact (ne_of_none ho hi0).symm
      have f0 : H i0 = none := b2.free n3 hi0
      refine ⟨_, rfl, a, rfl, for_it walk_str (LGi H p l i0 bs st a n (some (.int (0 + (i : Int))))) ⟨[], o6, o7, rfl, LL.same hs, upd_same, rfl, nofun, g2.same hs, b2.trans (But.of hs)⟩ (fun _ _ _ _ _ => trivial) ?_ ?_⟩
      · rintro j v σ H3 H' hj ⟨it, o6, o7, rfl, LL3, h3, lit, eg, g3, b3⟩ ⟨rfl, c, hc, rfl⟩
        have hlt : it.length < sizeLine := by
          have hz : a.cps.size = a.length := rfl
          exact Nat.lt_of_lt_of_le (show it.length < 101 by omega) (by decide)
        refine ⟨_, rfl, _, rfl, _, _, rfl, rfl, _, rfl, _, _, rfl, rfl, .inr ⟨_, rfl, _, _, rfl, rfl, p, _, rfl, g3, ?_, ?_, fun e H4 e0 e1 g4 b4 => ?_⟩⟩
        · split <;> omega
        · split <;> omega
        have LL4 := LL3.but hpo b4
        have h4 := b4 _ _ h3 n3
        refine ⟨_, rfl, _, rfl, _, _, rfl, rfl, _, rfl, ite2 (fun k => ?_) (fun k => ?_)⟩
        · refine ⟨_, rfl, .inl ⟨rfl, _, SqL.of h4⟩, i0, _, _, rfl, rfl, h4, by rw [List.length_map]; exact hlt, ?_⟩
          exact ⟨it ++ [none], _, _, rfl, llf_upd LL4 n1 n2, by rw [upd_same, List.map_append]; rfl, by rw [List.length_append, lit]; rfl, eg.snoc (fun q z => nomatch z), (src_upd g4 n3.symm), but_updF (b3.trans b4) f0⟩
        · refine ⟨_, rfl, .inl ⟨rfl, _, SqL.of h4⟩, _, rfl, i0, _, _, rfl, rfl, h4, by rw [List.length_map]; exact hlt, ?_⟩
          have ke : ¬ (n : Int) ≤ e := fun z => k (decide_eq_true z)
          refine ⟨it ++ [some e], _, _, rfl, llf_upd LL4 n1 n2, by rw [upd_same, List.map_append]; rfl, by rw [List.length_append, lit]; rfl, eg.snoc (fun q z => ?_), (src_upd g4 n3.symm), but_updF (b3.trans b4) f0⟩
          obtain rfl := Option.some.inj z
          omega
      · rintro σ H3 ⟨it, o6, o7, rfl, LL3, h3, lit, eg, g3, b3⟩
        refine ⟨_, rfl, .inl ⟨rfl, _, SqL.of LL3.at_⟩, _, rfl, l, _, _, rfl, rfl, LL3.at_, ?_, ?_⟩
        · rw [List.length_map, LL3.each.len, hst]
          exact Nat.lt_of_lt_of_le (show i < 5 by omega) (by decide)
        · refine ⟨l, bs ++ [i0], st ++ [it], _, _, _, _, rfl, LL3.snoc h3 n2 n1 f0, by rw [List.length_append, hst]; rfl, fun x hx => ?_, (src_upd g3 (fun e => by have := LL3.fl; rw [← e, hpo] at this; cases this)), but_updF b3 LL3.fl⟩
          rcases List.mem_append.mp hx with hx | hx
          · exact hit x hx
          · rw [List.mem_singleton.mp hx]
            exact ⟨lit, eg⟩
    · rintro σ H2 ⟨l, bs, st, o4, o5, o6, o7, rfl, LL, hst, hit, g2, b2⟩
      have hst' : st.length = n := by rw [hst, Int.toNat_natCast]
      have gd : GoodS a.length st := ⟨by omega, by omega, fun it h => (hit it h).1, fun it h q hq => by rw [hst']; exact (hit it h).2 q hq⟩
      have hlp2 : l ≠ p := fun e => by have := LL.fl; rw [e, hpo] at this; cases this
      refine ⟨_, rfl, p, 3, rfl, g2, by decide, by decide, fun d H3 _ _ g3 b3 => ?_⟩
      have LL3 := LL.but hpo b3
      refine ⟨rfl, _, rfl, ite2 (fun k => ?_) (fun k => ?_)⟩
      · refine ⟨_, rfl, a, rfl, fun D hD => ?_⟩
        have hDp : D ≠ p := by
          obtain ⟨o, ho⟩ := g3.some
          exact (ne_of_none ho hD).symm
        have nDl : D ≠ l := fun e => by rw [e, LL3.at_] at hD; cases hD
        have nDb : D ∉ bs := fun c => by
          obtain ⟨j, hj⟩ := List.getElem?_of_mem c
          obtain ⟨it, _, hb⟩ := LL3.each.get hj
          rw [hb] at hD
          cases hD
        have fD : H D = none := b2.free hDp (b3.free hDp hD)
        have hs := same_new (o := .lst []) hD
        refine lc_it walk_str (fun i H' => ∃ it, H' D = some (.lst (it.map optV)) ∧ it.length = i ∧ EG n it ∧ Src H' p ∧ LLF H H' l bs st ∧ But p H H') ⟨[], upd_same, rfl, nofun, g3.same hs, LL3.same hs, (b2.trans b3).trans (But.of hs)⟩ (fun _ _ _ _ => trivial) ?_ ?_
        · rintro i x H4 H' hi ⟨it, h4, lit, eg, g4, LL4, b4⟩ ⟨rfl, c, hc, rfl⟩
          refine ⟨rfl, yes_go ?_⟩
          refine ⟨_, rfl, _, rfl, p, _, rfl, g4, by omega, by omega, fun e H5 e0 e1 g5 b5 => ⟨_, b5 _ _ h4 hDp, ?_, it ++ [some e], by rw [upd_same, List.map_append]; rfl, by rw [List.length_append, lit]; rfl, eg.snoc (fun q z => ?_), (src_upd g5 hDp.symm), llf_upd (LL4.but hpo b5) nDl nDb, but_updF (b4.trans b5) fD⟩⟩
          · have hz : a.cps.size = a.length := rfl
            rw [List.length_map, lit]
            exact Nat.lt_of_lt_of_le (show i < 101 by omega) (by decide)
          · obtain rfl := Option.some.inj z
            omega
        · rintro H4 ⟨it, h4, lit, eg, g4, LL4, b4⟩
          have hz : a.cps.size = a.length := rfl
          refine ⟨_, rfl, l, _, 0, 0, rfl, rfl, LL4.at_, ?_, ?_⟩
          · rw [List.length_map, LL4.each.len, hst']
            unfold ixN
            rw [if_pos (Int.le_refl 0), if_pos (by omega)]
            rfl
          · refine ⟨_, rfl, q l _ _ _ (LL4.set0 h4 nDb nDl fD) ?_ ?_ ((src_upd g4 hlp2.symm)) (but_updF b4 LL4.fl)⟩
            · refine ⟨by rw [List.length_set]; exact gd.ne, by rw [List.length_set]; exact gd.le, fun x hx => ?_, fun x hx q hq => ?_⟩
              · rcases List.mem_or_eq_of_mem_set hx with hx | hx
                · exact gd.len x hx
                · rw [hx, lit]
                  exact hz
              · rw [List.length_set]
                rcases List.mem_or_eq_of_mem_set hx with hx | hx
                · exact gd.ok x hx q hq
                · rw [hst']
                  rw [hx] at hq
                  exact eg q hq
            · rw [List.length_set]
              omega
      · refine ⟨_, rfl, q l bs st H3 LL3 gd (by omega) g3 (b2.trans b3)⟩
end
end As

namespace Ow
open PySem PySem.Spec PyProof.Rows L2
theorem op_mulStrN {X : Cx} : OpR X (binaryOp .Mult) (fun x y H Q => ∃ (z : Str) (n : Nat), x = .str z ∧ y = .int (n : Int) ∧ 1 ≤ n ∧ n ≤ 100000 ∧ z.length ≤ 100 ∧ Q (.str (Txt.mul z (n : Int))) H) := by
  intro pins s σ H x y v u Q I rx ry h
  obtain ⟨z, n, rfl, rfl, h2, h3, h1, q⟩ := h
  obtain ⟨t, rfl⟩ := rx
  obtain ⟨t', rfl⟩ := ry
  have hb : z.length * n ≤ 10000000 := Nat.le_trans (Nat.mul_le_mul h1 h3) (by decide)
  refine SB.mul ⟨Bool.or_eq_false_iff.mpr ⟨decide_eq_false (by omega), decide_eq_false (by omega)⟩, fun _ _ => ?_, fun _ _ => ?_⟩ fun t' k => ⟨.str _, H, I.tok _, ⟨_, rfl⟩, q⟩
  · have h5 : (92233720368547 : Int) ≤ (2 ^ 63 - 1) / (n : Int) := (Int.le_ediv_iff_mul_le (by omega)).mpr (by omega)
    omega
  · exact decide_eq_false (Nat.not_lt.mpr (by rw [Int.toNat_natCast]; exact Nat.le_trans hb (by decide)))
/-- what is new since H -/
def nw (H H' : Hp) : Hp := fun b => match H b with
  | none => H' b
  | some _ => none
theorem nw_at {H H' : Hp} {b : Addr} (h : H b = none) : nw H H' b = H' b := by unfold nw; rw [h]
theorem nw_sub {H H' : Hp} : Same (nw H H') H' := fun b o h => by
  unfold nw at h
  cases e : H b with
  | none => rw [e] at h; exact h
  | some u => rw [e] at h; cases h
theorem nw_mono {H H1 H2 : Hp} (s : Same H1 H2) : Same (nw H H1) (nw H H2) := fun b o h => by
  unfold nw at h ⊢
  cases e : H b with
  | none => rw [e] at h; exact s b o h
  | some u => rw [e] at h; cases h
theorem nw_from {H0 H H' : Hp} (s : Same H0 H) : Same (nw H H') (nw H0 H') := fun b o h => by
  unfold nw at h ⊢
  cases e : H b with
  | none =>
    rw [e] at h
    rw [s.free e]
    exact h
  | some u => rw [e] at h; cases h
theorem nw_upd {H H' : Hp} {a : Addr} {o u : HO} (h : H a = some u) : Same (nw H H') (nw H (upd H' a o)) := fun b v hb => by
  unfold nw at hb ⊢
  cases e : H b with
  | none =>
    rw [e] at hb
    show upd H' a o b = some v
    rw [upd_ne (ne_of_none h e).symm]
    exact hb
  | some u => rw [e] at hb; cases hb
theorem cut_last (xs : List V) : cutV xs none (some (-1)) = xs.take (xs.length - 1) := by
  unfold cutV
  rw [HT.sIx_none, List.drop_zero]
  have e : HT.sIx xs.length xs.length (some (-1)) = xs.length - 1 := by
    show (if (-1 : Int) < 0 then ((-1 : Int) + (xs.length : Int)).toNat else min (-1 : Int).toNat xs.length) = _
    rw [if_pos (by decide)]
    omega
  rw [e, Nat.sub_zero]
theorem ThAll.take {H : Hp} : ∀ {xs : List V} {ds : List PyData} (k : Nat), ThAll H xs ds → ThAll H (xs.take k) (ds.take k)
  | _, _, 0, _ => .nil
  | _, _, _ + 1, .nil => .nil
  | _, _, k + 1, .cons h r => .cons h (ThAll.take k r)
/-- xs[:-1] + [x], all new -/
theorem cat_cut {K : PySem.W.Frag} {H0 H1 : Hp} {σ : L2.St} {i : Nat} {g : Addr} {xs : List V} {ds : List PyData} {dx : PyData} {tx : TE} {Q : VK} (s01 : Same H0 H1) (hs : σ[i]? = some (some (.ref g))) (hg : H1 g = some (.lst xs)) (tg : ThAll (nw H0 H1) xs ds) (hz : xs.length ≤ 1000)
    (htx : ∀ H' Q', Same H1 H' → (∀ x H2, Same H' H2 → Th (nw H0 H2) x dx → Q' x H2) → tx σ H' Q') (q : ∀ v H2, Same H1 H2 → Th (nw H0 H2) v (.list (ds.take (xs.length - 1) ++ [dx])) → Q v H2) :
    tOp rCat (tSl (rSlL K) (tVar i) tNoPart (tPart (tUn (rU fun i => V.int (-i)) (tC (V.int 1))))) (tLst (tCons tx tNil)) σ H1 Q := by
  refine ⟨_, hs, 1, rfl, -1, rfl, g, xs, rfl, SqL.of hg, fun c hc => ?_⟩
  rw [cut_last]
  have s2 := same_new (o := .lst (xs.take (xs.length - 1))) hc
  refine htx _ _ s2 fun x H3 s3 tx3 => ⟨(by show 1 ≤ sizeLine; decide), fun b hb => ?_⟩
  have s4 := same_new (o := .lst [x]) hb
  have hc3 := s3 _ _ (upd_same (H := H1) (a := c) (o := .lst (xs.take (xs.length - 1))))
  have hz2 : (xs.take (xs.length - 1)).length ≤ 1000 := by rw [List.length_take]; omega
  refine ⟨c, b, _, _, rfl, rfl, s4 _ _ hc3, upd_same, Nat.le_trans (Nat.add_le_add hz2 (Nat.le_refl 1)) (by show 1001 ≤ sizeLine; decide), fun e he => ?_⟩
  have s5 := same_new (o := .lst (xs.take (xs.length - 1) ++ [x])) he
  have sall : Same H1 (upd (upd H3 b (.lst [x])) e (.lst (xs.take (xs.length - 1) ++ [x]))) := s2.trans (s3.trans (s4.trans s5))
  have e0 : H0 e = none := s01.free (s2.free (s3.free (s4.free he)))
  refine q _ _ sall (.lst (by rw [nw_at e0, upd_same]) (by rw [List.length_append]; exact Nat.le_trans (Nat.add_le_add hz2 (Nat.le_refl 1)) (by show 1001 ≤ sizeLine; decide)) ?_)
  exact ((tg.take _).mono (nw_mono sall)).snoc (tx3.mono (nw_mono (s4.trans s5)))
def badsD (n m : Nat) : List PyData :=
  let g := List.replicate n (PyData.int 0)
  let c := g.take (n - 1)
  [.none, .int 5, .list (g ++ [.int 0]), .list c, .list (c ++ [.int m]), .list (c ++ [.int (-1)]), .list (c ++ [.bool true]), .list (c ++ [.str "0"]), .str (Txt.mul "0" (n : Int)), .list (c ++ [.tuple [.int 0]]), .list (c ++ [.bool false]), .dict []]
theorem bad_end {n m : Nat} (hn : 1 ≤ n) {x : PyData} (h : (isNonD x || belowD m x) = false) : gateItemD (.list ((List.replicate n (PyData.int 0)).take (n - 1) ++ [x])) n m = false := by
  unfold gateItemD
  show (_ && ((List.replicate n (PyData.int 0)).take (n - 1) ++ [x]).all _) = false
  rw [List.all_append, List.all_cons, h, Bool.false_and, Bool.and_false, Bool.and_false]
theorem bads_bad {n m : Nat} (hn : 1 ≤ n) (hm : 1 ≤ m) : ∀ d ∈ badsD n m, gateItemD d n m = false := by
  intro d hd
  have cl : ((List.replicate n (PyData.int 0)).take (n - 1)).length = n - 1 := by rw [List.length_take, List.length_replicate]; omega
  simp only [badsD, List.mem_cons, List.not_mem_nil, or_false] at hd
  rcases hd with rfl | rfl | rfl | rfl | rfl | rfl | rfl | rfl | rfl | rfl | rfl | rfl
  · rfl
  · rfl
  · unfold gateItemD tupOfD
    show ((true && decide ((((List.replicate n (PyData.int 0)) ++ [PyData.int 0]).length : Int) = n)) && _) = false
    rw [List.length_append, List.length_replicate, decide_eq_false (by show ¬ ((n + 1 : Nat) : Int) = n; omega)]
    rfl
  · unfold gateItemD tupOfD
    show ((true && decide ((((List.replicate n (PyData.int 0)).take (n - 1)).length : Int) = n)) && _) = false
    rw [cl, decide_eq_false (by omega)]
    rfl
  · refine bad_end hn ?_
    show (false || (decide ((0 : Int) ≤ m) && decide ((m : Int) < m))) = false
    rw [decide_eq_false (Int.lt_irrefl _), Bool.and_false]
    rfl
  · exact bad_end hn rfl
  · exact bad_end hn rfl
  · exact bad_end hn rfl
  · rfl
  · exact bad_end hn rfl
  · exact bad_end hn rfl
  · rfl
end Ow
namespace As
open PySem PySem.Spec PyProof.Rows L2 Ow
section
variable {P : Program} {w : World} {K : PySem.W.Frag} {mg : Str → Option Value} {base : Heap} {A : Ad}
abbrev N__law_bad_item : List Str := ["_law_source_here", "_law_many", "_law_asks_here", "_law_good", "_law_menu"]
theorem sc__law_bad_item : FnScope N__law_bad_item ["_law_source_here", "_law_many", "_law_asks_here"] (defScope s__law_bad_item) := ⟨rfl, rfl, rfl, by decide +kernel, rfl, by decide +kernel, by decide +kernel⟩
def spBadI : Sp := fun vs H Q _ => ∃ (p : Addr) (a : Str) (m : Nat), vs = [.ref p, .int (m : Int), .str a] ∧ Src H p ∧ 1 ≤ a.length ∧ a.length ≤ 4 ∧ 1 ≤ m ∧ m ≤ 50 ∧ ∀ v d H', Th (nw H H') v d → gateItemD d a.length m = false → Src H' p → But p H H' → Q v H'
theorem ok_badi {fd : FuncData} (F : Fun K "_law_bad_item" "_law_bad_item" s__law_bad_item A.f__law_bad_item fd) (T : Tx K mg A) (KDraw : Kp P w K mg base CX0 1 A.f__law_draw ["_law_source_here", "_law_many"] spDraw) :
    FnOk P w K mg base CX0 2 A.f__law_bad_item fd ["_law_source_here", "_law_many", "_law_asks_here"] spBadI := by
  obtain ⟨fdD, G__law_draw, b__law_draw, k__law_draw⟩ := KDraw
  have nd := sc__law_bad_item.nd
  refine F.ok sc__law_bad_item (fun vs H Q E h => ?_) (fun cdv A' outer s H vs Q E hr h => ?_)
  · obtain ⟨p, a, m, rfl, _⟩ := h
    rfl
  · obtain ⟨p, a, m, rfl, hp, ha, ha2, hm, hm2, q⟩ := h
    refine ⟨_, (pss_cons (ps_set (i := 3) nd rfl (by first | exact Or.inl rfl | exact Or.inr rfl) (pe_op op_rep (pe_lst (pa_cons pe_int pa_nil)) (pe_callB call_len_str (by rfl) T.nlen (by decide +kernel) (pa_cons (pv 2) pa_nil))))
  (pss_cons (ps_set (i := 4) nd rfl (by first | exact Or.inl rfl | exact Or.inr rfl) (pe_lst (pa_cons pe_non (pa_cons pe_int (pa_cons (pe_op op_cat (pv 3) (pe_lst (pa_cons pe_int pa_nil))) (pa_cons (pe_slice sl_list (pv 3) po_none (po_some (pe_un un_neg pe_int))) (pa_cons (pe_op op_cat (pe_slice sl_list (pv 3) po_none (po_some (pe_un un_neg pe_int))) (pe_lst (pa_cons (pv 1) pa_nil))) (pa_cons (pe_op op_cat (pe_slice sl_list (pv 3) po_none (po_some (pe_un un_neg pe_int))) (pe_lst (pa_cons (pe_un un_neg pe_int) pa_nil))) (pa_cons (pe_op op_cat (pe_slice sl_list (pv 3) po_none (po_some (pe_un un_neg pe_int))) (pe_lst (pa_cons pe_bl pa_nil))) pa_nil)))))))))
  (pss_cons (ps_set (i := 4) nd rfl (by first | exact Or.inl rfl | exact Or.inr rfl) (pe_op op_cat (pv 4) (pe_lst (pa_cons (pe_op op_cat (pe_slice sl_list (pv 3) po_none (po_some (pe_un un_neg pe_int))) (pe_lst (pa_cons pe_str pa_nil))) (pa_cons (pe_op op_mulStrN pe_str (pe_callB call_len_str (by rfl) T.nlen (by decide +kernel) (pa_cons (pv 2) pa_nil))) (pa_cons (pe_op op_cat (pe_slice sl_list (pv 3) po_none (po_some (pe_un un_neg pe_int))) (pe_lst (pa_cons (pe_tup (pa_cons pe_int pa_nil)) pa_nil))) (pa_cons (pe_op op_cat (pe_slice sl_list (pv 3) po_none (po_some (pe_un un_neg pe_int))) (pe_lst (pa_cons pe_bl pa_nil))) (pa_cons pe_dnewK pa_nil))))))))
  (pss_one (ps_ret (pe_ix ix_list (pv 4) (pe_call G__law_draw (hr.mono (by omega)) rfl T.m_law_draw k__law_draw b__law_draw .nil pass0 (pa_cons (pv 0) (pa_cons (pe_callB call_len (by rfl) T.nlen (by decide +kernel) (pa_cons (pv 4) pa_nil)) pa_nil))) (fun _ _ => rfl))))))), ?_⟩
    have al : a.length ≤ sizeLine := Nat.le_trans ha2 (by decide)
    refine ⟨(by show 1 ≤ sizeLine; decide), fun z hz => ?_⟩
    have s1 := same_new (o := .lst [.int 0]) hz
    refine ⟨_, rfl, a, rfl, al, z, a.length, _, rfl, rfl, upd_same, by omega, by omega, Nat.le_trans (show 1 * (a.length : Int).toNat ≤ 4 by omega) (by decide), fun g hg => ?_⟩
    rw [show (List.replicate (a.length : Int).toNat [V.int 0]).flatten = List.replicate a.length (V.int 0) by simp]
    have s2 := same_new (o := .lst (List.replicate a.length (V.int 0))) hg
    have s12 := s1.trans s2
    have g0 : H g = none := s1.free hg
    have hG : (upd (upd H z (.lst [.int 0])) g (.lst (List.replicate a.length (V.int 0)))) g = some (.lst (List.replicate a.length (V.int 0))) := upd_same
    generalize upd (upd H z (.lst [.int 0])) g (.lst (List.replicate a.length (V.int 0))) = H1 at s12 hG ⊢
    have tg : ∀ H2, ThAll (nw H H2) (List.replicate a.length (V.int 0)) (List.replicate a.length (PyData.int 0)) := fun H2 => by
      generalize a.length = n
      induction n with
      | zero => exact .nil
      | succ n ih => exact .cons (.int 0) ih
    have gz : (List.replicate a.length (V.int 0)).length ≤ 1000 := by rw [List.length_replicate]; omega
    have one : ∀ n : Nat, n ≤ 1000 → n + 1 ≤ sizeLine := fun n h => Nat.le_trans (Nat.succ_le_succ h) (by show 1001 ≤ sizeLine; decide)
    have gz2 : (List.replicate a.length (PyData.int 0)).take ((List.replicate a.length (V.int 0)).length - 1) = (List.replicate a.length (PyData.int 0)).take (a.length - 1) := by rw [List.length_replicate]
    refine ⟨_, rfl, (by show 1 ≤ sizeLine; decide), fun b2 hb2 => ?_⟩
    have z2 := same_new (o := .lst [.int 0]) hb2
    refine ⟨g, b2, _, _, rfl, rfl, z2 _ _ hG, upd_same, one _ gz, fun c2 hc2 => ?_⟩
    have z2' := z2.trans (same_new (o := .lst (List.replicate a.length (V.int 0) ++ [.int 0])) hc2)
    have t2 : Th (nw H (upd (upd H1 b2 (.lst [.int 0])) c2 (.lst (List.replicate a.length (V.int 0) ++ [.int 0])))) (.ref c2) (.list (List.replicate a.length (PyData.int 0) ++ [.int 0])) := .lst (by rw [nw_at (s12.free (z2.free hc2)), upd_same]) (by rw [List.length_append]; exact one _ gz) ((tg _).snoc (.int 0))
    generalize upd (upd H1 b2 (.lst [.int 0])) c2 (.lst (List.replicate a.length (V.int 0) ++ [.int 0])) = H2 at z2' t2 ⊢
    refine ⟨_, rfl, 1, rfl, -1, rfl, g, _, rfl, SqL.of (z2' _ _ hG), fun c3 hc3 => ?_⟩
    rw [cut_last]
    have z3 := z2'.trans (same_new (o := .lst ((List.replicate a.length (V.int 0)).take ((List.replicate a.length (V.int 0)).length - 1))) hc3)
    have t3 : Th (nw H (upd H2 c3 (.lst ((List.replicate a.length (V.int 0)).take ((List.replicate a.length (V.int 0)).length - 1))))) (.ref c3) (.list ((List.replicate a.length (PyData.int 0)).take (a.length - 1))) := .lst (by rw [nw_at (s12.free (z2'.free hc3)), upd_same]) (by rw [List.length_take]; exact Nat.le_trans (Nat.min_le_right _ _) (Nat.le_trans gz (by decide))) (by rw [← gz2]; exact (tg _).take _)
    replace t2 := t2.mono (nw_mono (same_new (o := .lst ((List.replicate a.length (V.int 0)).take ((List.replicate a.length (V.int 0)).length - 1))) hc3))
    generalize upd H2 c3 (.lst ((List.replicate a.length (V.int 0)).take ((List.replicate a.length (V.int 0)).length - 1))) = H3 at z3 t2 t3 ⊢
    refine cat_cut (K := K) (dx := .int m) (s12.trans z3) rfl (z3 _ _ hG) (tg _) gz (fun H' Q' _ kk => ⟨_, rfl, kk _ _ (Same.refl _) (.int m)⟩) fun v4 H4 y4 t4 => ?_
    rw [gz2] at t4
    have z4 := z3.trans y4
    refine cat_cut (K := K) (dx := .int (-1)) (s12.trans z4) rfl (z4 _ _ hG) (tg _) gz (fun H' Q' _ kk => ⟨1, rfl, kk _ _ (Same.refl _) (.int (-1))⟩) fun v5 H5 y5 t5 => ?_
    rw [gz2] at t5
    have z5 := z4.trans y5
    refine cat_cut (K := K) (dx := .bool true) (s12.trans z5) rfl (z5 _ _ hG) (tg _) gz (fun H' Q' _ kk => kk _ _ (Same.refl _) (.bl true)) fun v6 H6 y6 t6 => ?_
    rw [gz2] at t6
    have z6 := z5.trans y6
    refine ⟨(by show 7 ≤ sizeLine; decide), fun mn hmn => ?_⟩
    have y7 := same_new (o := .lst [V.non, V.int 5, .ref c2, .ref c3, v4, v5, v6]) hmn
    have z7 := z6.trans y7
    have hM : (upd H6 mn (.lst [V.non, V.int 5, .ref c2, .ref c3, v4, v5, v6])) mn = some (.lst [V.non, V.int 5, .ref c2, .ref c3, v4, v5, v6]) := upd_same
    generalize upd H6 mn (.lst [V.non, V.int 5, .ref c2, .ref c3, v4, v5, v6]) = H7 at y7 z7 hM ⊢
    refine ⟨_, rfl, ?_⟩
    refine cat_cut (K := K) (dx := .str "0") (s12.trans z7) rfl (z7 _ _ hG) (tg _) gz (fun H' Q' _ kk => kk _ _ (Same.refl _) (.str (by show 1 ≤ sizeLine; decide))) fun v8 H8 y8 t8 => ?_
    rw [gz2] at t8
    have z8 := z7.trans y8
    refine ⟨_, rfl, a, rfl, al, _, a.length, rfl, rfl, ha, by omega, (by show 1 ≤ 100; decide), ?_⟩
    have hl0 : (Txt.mul (Str.ofString "0") (a.length : Int)).length ≤ sizeLine := by
      have h4 : a.length = 1 ∨ a.length = 2 ∨ a.length = 3 ∨ a.length = 4 := by omega
      rcases h4 with h4 | h4 | h4 | h4 <;> (rw [h4]; decide +kernel)
    have z9 := z8
    refine cat_cut (K := K) (dx := .tuple [.int 0]) (s12.trans z9) rfl (z9 _ _ hG) (tg _) gz (fun H' Q' ss kk => ⟨(by show 1 ≤ sizeLine; decide), fun q0 hq0 => kk _ _ (same_new hq0) (.tup (by rw [nw_at ((s12.trans (z9.trans ss)).free hq0), upd_same]) (by show 1 ≤ sizeLine; decide) (.cons (.int 0) .nil))⟩) fun v10 H10 y10 t10 => ?_
    rw [gz2] at t10
    have z10 := z9.trans y10
    refine cat_cut (K := K) (dx := .bool false) (s12.trans z10) rfl (z10 _ _ hG) (tg _) gz (fun H' Q' _ kk => kk _ _ (Same.refl _) (.bl false)) fun v11 H11 y11 t11 => ?_
    rw [gz2] at t11
    have z11 := z10.trans y11
    intro dd hdd
    have y12 := same_new (o := .dK []) hdd
    have z12 := z11.trans y12
    have hD : (upd H11 dd (.dK [])) dd = some (.dK []) := upd_same
    have d0 : H dd = none := (s12.trans z11).free hdd
    generalize upd H11 dd (.dK []) = H12 at y12 z12 hD ⊢
    refine ⟨(by show 5 ≤ sizeLine; decide), fun b12 hb12 => ?_⟩
    have y13 := same_new (o := .lst [v8, .str (Txt.mul "0" (a.length : Int)), v10, v11, .ref dd]) hb12
    refine ⟨mn, b12, _, _, rfl, rfl, y13 _ _ (y12 _ _ (y11 _ _ (y10 _ _ (y8 _ _ hM)))), upd_same, (by show 12 ≤ sizeLine; decide), fun m2 hm2' => ?_⟩
    show gName 4 (V.ref m2) _ (upd (upd H12 b12 (.lst [v8, .str (Txt.mul "0" (a.length : Int)), v10, v11, .ref dd])) m2 (.lst [V.non, V.int 5, .ref c2, .ref c3, v4, v5, v6, v8, .str (Txt.mul "0" (a.length : Int)), v10, v11, .ref dd])) _
    have y14 := same_new (o := .lst [V.non, V.int 5, .ref c2, .ref c3, v4, v5, v6, v8, .str (Txt.mul "0" (a.length : Int)), v10, v11, .ref dd]) hm2'
    have zf : Same H1 (upd (upd H12 b12 (.lst [v8, .str (Txt.mul "0" (a.length : Int)), v10, v11, .ref dd])) m2 (.lst [V.non, V.int 5, .ref c2, .ref c3, v4, v5, v6, v8, .str (Txt.mul "0" (a.length : Int)), v10, v11, .ref dd])) := z12.trans (y13.trans y14)
    have e12 := y13.trans y14
    have hF : (upd (upd H12 b12 (.lst [v8, .str (Txt.mul "0" (a.length : Int)), v10, v11, .ref dd])) m2 (.lst [V.non, V.int 5, .ref c2, .ref c3, v4, v5, v6, v8, .str (Txt.mul "0" (a.length : Int)), v10, v11, .ref dd])) m2 = some (.lst [V.non, V.int 5, .ref c2, .ref c3, v4, v5, v6, v8, .str (Txt.mul "0" (a.length : Int)), v10, v11, .ref dd]) := upd_same
    have e11 := y12.trans e12
    have e10 := y11.trans e11
    have e8 := y10.trans e10
    have e7 := y8.trans e8
    have e6 := y7.trans e7
    have e5 := y6.trans e6
    have e4 := y5.trans e5
    have e3 := y4.trans e4
    generalize upd (upd H12 b12 (.lst [v8, .str (Txt.mul "0" (a.length : Int)), v10, v11, .ref dd])) m2 (.lst [V.non, V.int 5, .ref c2, .ref c3, v4, v5, v6, v8, .str (Txt.mul "0" (a.length : Int)), v10, v11, .ref dd]) = HF at zf e12 hF e11 e10 e8 e7 e6 e5 e4 e3 ⊢
    have all : ThAll (nw H HF) [V.non, V.int 5, .ref c2, .ref c3, v4, v5, v6, v8, .str (Txt.mul "0" (a.length : Int)), v10, v11, .ref dd] (badsD a.length m) :=
      .cons .non (.cons (.int 5) (.cons (t2.mono (nw_mono e3)) (.cons (t3.mono (nw_mono e3)) (.cons (t4.mono (nw_mono e4)) (.cons (t5.mono (nw_mono e5)) (.cons (t6.mono (nw_mono e6)) (.cons (t8.mono (nw_mono e8)) (.cons (.str hl0) (.cons (t10.mono (nw_mono e10)) (.cons (t11.mono (nw_mono e11)) (.cons (.dct (by rw [nw_at d0]; exact e12 _ _ hD)) .nil)))))))))))
    have gF := hp.same (s12.trans zf)
    have m0 : m2 ≠ p := by
      obtain ⟨o, ho⟩ := hp.some
      exact fun e => by
        have hF' := (s12.trans z12).free (y13.free hm2')
        rw [e, ho] at hF'
        cases hF'
    refine ⟨_, rfl, _, rfl, _, rfl, _, 12, rfl, .inl ⟨_, SqL.of hF, rfl⟩, p, 12, rfl, gF, by decide, by decide, fun j H' j0 j1 g' b' => ?_⟩
    obtain ⟨k, rfl⟩ : ∃ k : Nat, j = (k : Int) := ⟨j.toNat, by omega⟩
    have hk : k < (badsD a.length m).length := by
      show k < 12
      omega
    obtain ⟨v, ev, tv⟩ := all.got (List.getElem?_eq_getElem hk)
    have nb : Same (nw H HF) (nw H H') := fun b o hb => by
      unfold nw at hb ⊢
      cases eb : H b with
      | none =>
        rw [eb] at hb
        obtain ⟨o', ho'⟩ := hp.some
        exact b' b o hb (ne_of_none ho' eb).symm
      | some u => rw [eb] at hb; cases hb
    refine ⟨m2, _, _, v, rfl, rfl, SqL.of (b' _ _ hF m0), atI_nat ev, q v _ H' (tv.mono nb) (bads_bad ha hm _ (List.getElem_mem hk)) g' ((But.of (s12.trans zf)).trans b')⟩
end
end As

namespace As
open PySem PySem.Spec PyProof.Rows L2 Ow
/-- what the written part says of the errors' classes -/
structure Ex (K : PySem.W.Frag) (mg : Str → Option Value) (A : Ad) : Prop where
  LA : PySem.LowX.LowTxt K mg "BadAsks" A.c_BadAsks A.f_WrongThing_init
  LR : PySem.LowX.LowTxt K mg "BadRow" A.c_BadRow A.f_WrongThing_init
  LG : PySem.LowN.LowTxt K mg "BadGate" A.c_BadGate A.f_WrongItem_init
  eA : ExcC K A.c_BadAsks
  eR : ExcC K A.c_BadRow
  eG : ExcC K A.c_BadGate
  kGI : PySem.W.kitOne K (.ref A.c_BadGate) (.ref A.c_WrongItem) = some true
  kGF : PySem.W.kitOne K (.ref A.c_BadGate) (.ref A.c_AfterError) = some true
  kGV : PySem.W.kitOne K (.ref A.c_BadGate) (.type "ValueError") = some true
  xGG : PySem.W.exmOne K (.ref A.c_BadGate) (.ref A.c_BadGate) = some true
  xAG : PySem.W.exmOne K (.ref A.c_BadAsks) (.ref A.c_BadGate) = some false
  xAA : PySem.W.exmOne K (.ref A.c_BadAsks) (.ref A.c_BadAsks) = some true
  xRR : PySem.W.exmOne K (.ref A.c_BadRow) (.ref A.c_BadRow) = some true
section
variable {P : Program} {w : World} {K : PySem.W.Frag} {mg : Str → Option Value} {base : Heap} {A : Ad}
abbrev N__law_number : List Str := ["_law_asks_here", "_law_steps", "error"]
theorem sc__law_number : FnScope N__law_number ["_law_asks_here", "_law_steps"] (defScope s__law_number) := ⟨rfl, rfl, rfl, by decide +kernel, rfl, by decide +kernel, by decide +kernel⟩
/-- the tuple that is told -/
def TellsT (xs : List V) (H : Hp) (Q : VK) : Prop := ∀ (p : Addr) (H' : Hp), Same H H' → H p = none → H' p = some (.tup xs) → Q (.ref p) H'
def spNum (K : PySem.W.Frag) (g : List Code) : Sp := fun vs H Q _ => ∃ (x y : V) (d : PyData), vs = [x, y] ∧ Known K H x ∧ Th H y d ∧
  ((∃ f, asksV x = false ∧ RepIs H x f ∧ TellsT [.str "asks", .str (f g)] H Q) ∨
    ∃ a, x = .str a ∧ asksV x = true ∧
      ((¬ (isTupD d = true ∧ 1 ≤ (itemsD d).length ∧ (itemsD d).length ≤ 50) ∧ TellsT [.str "gate", .int (-1)] H Q) ∨
       (isTupD d = true ∧ 1 ≤ (itemsD d).length ∧ (itemsD d).length ≤ 50 ∧ ∃ (k : Nat) (dk : PyData), (itemsD d)[k]? = some dk ∧ gateItemD dk a.length (itemsD d).length = false ∧
          (∀ (j : Nat) dj, j < k → (itemsD d)[j]? = some dj → gateItemD dj a.length (itemsD d).length = true) ∧ TellsT [.str "gate", .int k] H Q) ∨
       ∃ st, GoodS a.length st ∧ GS d a.length st ∧ a.length ≤ sizeLine ∧ TellsT [.str "none"] H Q))
theorem ok_num {fd : FuncData} {g : List Code} (F : Fun K "_law_number" "_law_number" s__law_number A.f__law_number fd) (T : Tx K mg A) (X : Ex K mg A) (GC : GCls K A) (KG : Kp P w K mg base (L2.CX P w) 5 A.f_Gate_init ["self", "asks", "steps"] (spGInit K A)) :
    FnG P w K mg base 7 A.f__law_number fd ["_law_asks_here", "_law_steps"] (spNum K g) g := by
  obtain ⟨fdG, G_Gate_init, b_Gate_init, k_Gate_init⟩ := KG
  have LA := X.LA
  have LR := X.LR
  have LG := X.LG
  have nd := sc__law_number.nd
  refine okG F sc__law_number (fun vs H Q E h => ?_) (fun cdv A' outer s H vs Q E hgd hr h => ?_)
  · obtain ⟨x, y, d, rfl, _⟩ := h
    rfl
  · obtain ⟨x, y, d, rfl, kx, hy, h⟩ := h
    refine ⟨_, (pss_cons (ps_try_clauses (i := 2) rfl rfl nd rfl rfl takes0 (fun W pn xe tk _ => (pss_one (ps_expr (pe_makeS GC.mkr G_Gate_init (hr.mono (by omega)) (by rfl) T.mGate b_Gate_init (fun σ => passAt tk σ) (pa_cons (pv 0) (pa_cons (pv 1) pa_nil))))))
 (.cons ⟨rfl, by decide, Or.inl T.mBadGate⟩ (fun a oe cls d pn hz hf => (pss_cons (ps_if (PW.pt (pw_or (pt_not (pt_val (pe_callB (call_isT hz hf) (by rfl) T.nisinstance (by decide +kernel) (pa_cons (pv 2) (pa_cons (pe_glob (v := .ref A.c_WrongItem) rfl T.mWrongItem rfl) pa_nil))))) (pw_or (pt_not (pt_val (pe_callB (call_isT hz hf) (by rfl) T.nisinstance (by decide +kernel) (pa_cons (pv 2) (pa_cons (pe_glob (v := .ref A.c_AfterError) rfl T.mAfterError rfl) pa_nil))))) (pw_or1 (pt_not (pt_val (pe_callB (call_isT hz hf) (by rfl) T.nisinstance (by decide +kernel) (pa_cons (pv 2) (pa_cons (pe_bltn (v := .ty "ValueError") (by rfl) T.nValueError (by decide +kernel) rfl) pa_nil))))))))) (pss_one (ps_ret (pe_tup (pa_cons pe_str pa_nil)))) pss_nil)
  (pss_one (ps_ret (pe_tup (pa_cons pe_str (pa_cons (pe_thingN LG hz hf (pv 2)) pa_nil)))))))
 (.cons ⟨rfl, by decide, Or.inl T.mBadAsks⟩ (fun a oe cls d pn hz hf => (pss_one (ps_ret (pe_tup (pa_cons pe_str (pa_cons (pe_callB (call_rep hgd hr.units) (by rfl) T.nrepr (by decide +kernel) (pa_cons (pe_thing LA hz hf (pv 2)) pa_nil)) pa_nil))))))
 .nil)))
  (pss_one (ps_ret (pe_tup (pa_cons pe_str pa_nil))))), ?_⟩
    refine ⟨_, rfl, _, rfl, fun e dx he hdx ne => ?_⟩
    have s0 : Same H (upd (upd H dx (.own e)) e (.ins A.c_Gate dx [])) := fun b o hb => by
      rw [upd_ne (ne_of_none hb he), upd_ne (ne_of_none hb hdx)]
      exact hb
    refine ⟨e, dx, x, y, d, rfl, upd_same, kx.mono s0, hy.mono s0, fun no dd H1 s1 h1 => ?_, fun z ez yes => ?_⟩
    · refine ⟨false, X.xAG, fun z => (nomatch z), fun _ => ⟨true, X.xAA, fun _ a0 _ => ?_, fun z => nomatch z⟩⟩
      rcases h with ⟨f, _, rp, q⟩ | ⟨a, rfl, yes, _⟩
      · refine ⟨_, rfl, rfl, rfl, dd, x, rfl, h1, x, f, rfl, rp.mono (s0.trans s1), (by show 2 ≤ sizeLine; decide), fun p hp => ?_⟩
        exact q p _ ((s0.trans s1).trans (same_new hp)) (s0.free (s1.free hp)) upd_same
      · rw [no] at yes
        cases yes
    · rcases h with ⟨f, no, _⟩ | ⟨a, rfl, _, h⟩
      · rw [no] at yes
        cases yes
      · cases ez
        rcases h with ⟨nw, q⟩ | ⟨t1, t2, t3, k, dk, ek, bk, good, q⟩ | ⟨st, gd, gs, al, q⟩
        · refine ⟨fun _ dd H1 s1 h1 => ?_, fun a b c => absurd ⟨a, b, c⟩ nw⟩
          refine ⟨true, X.xGG, fun _ a0 _ => ?_, fun z => nomatch z⟩
          refine ⟨_, rfl, A.c_BadGate, dd, _, _, _, true, rfl, rfl, h1, X.eG, rfl, fun u z => z, X.kGI, _, rfl, iteF ?_⟩
          refine ⟨_, rfl, A.c_BadGate, dd, _, _, _, true, rfl, rfl, h1, X.eG, rfl, fun u z => z, X.kGF, _, rfl, iteF ?_⟩
          refine ⟨_, rfl, A.c_BadGate, dd, _, _, _, true, rfl, rfl, h1, X.eG, rfl, fun u z => z, X.kGV, _, rfl, iteF ?_⟩
          refine ⟨_, rfl, rfl, rfl, dd, .int (-1), rfl, h1, (by show 2 ≤ sizeLine; decide), fun p hp => ?_⟩
          exact q p _ ((s0.trans s1).trans (same_new hp)) (s0.free (s1.free hp)) upd_same
        · refine ⟨fun c => absurd ⟨t1, t2, t3⟩ c, fun _ _ _ => ⟨fun k' dk' ek' bk' good' dd H1 s1 h1 => ?_, fun all => ?_⟩⟩
          · have e1 : k' = k := by
              rcases Nat.lt_trichotomy k' k with z | z | z
              · rw [good k' dk' z ek'] at bk'; cases bk'
              · exact z
              · rw [good' k dk z ek] at bk; cases bk
            subst e1
            refine ⟨true, X.xGG, fun _ a0 _ => ?_, fun z => nomatch z⟩
            refine ⟨_, rfl, A.c_BadGate, dd, _, _, _, true, rfl, rfl, h1, X.eG, rfl, fun u z => z, X.kGI, _, rfl, iteF ?_⟩
            refine ⟨_, rfl, A.c_BadGate, dd, _, _, _, true, rfl, rfl, h1, X.eG, rfl, fun u z => z, X.kGF, _, rfl, iteF ?_⟩
            refine ⟨_, rfl, A.c_BadGate, dd, _, _, _, true, rfl, rfl, h1, X.eG, rfl, fun u z => z, X.kGV, _, rfl, iteF ?_⟩
            refine ⟨_, rfl, rfl, rfl, dd, _, rfl, h1, (by show 2 ≤ sizeLine; decide), fun p hp => ?_⟩
            exact q p _ ((s0.trans s1).trans (same_new hp)) (s0.free (s1.free hp)) upd_same
          · rw [all k dk ek] at bk
            cases bk
        · have l1 := gd.ne
          have l2 := gd.le
          refine ⟨fun c => absurd ⟨gs.tup, by rw [gs.len]; exact l1, by rw [gs.len]; exact l2⟩ c, fun _ _ _ => ⟨fun k dk e b _ => ?_, fun _ => ⟨gs.dep, gs.pl, fun v H2 bt hs tv => ⟨rfl, (by show 1 ≤ sizeLine; decide), fun p hp => ?_⟩⟩⟩⟩
          · rw [gs.len, gs.items k dk e] at b
            cases b
          · have sm : Same H H2 := fun b o hb => bt b o (s0 b o hb) (ne_of_none hb he)
            exact q p _ (sm.trans (same_new hp)) (sm.free hp) upd_same
end
end As

namespace Ow
open PySem PySem.Spec PyProof.Rows L2
def rLsOf (K : PySem.W.Frag) : List V → Hp → VK → Prop := fun xs H Q => ∃ p ys, xs = [V.ref p] ∧ (SqL K H p ys ∨ SqT K H p ys) ∧ ∀ l, H l = none → Q (.ref l) (upd H l (.lst ys))
end Ow
namespace As
open PySem PySem.Spec PyProof.Rows L2 Ow
/-- the parts that the law's own body calls -/
structure Parts (P : Program) (w : World) (K : PySem.W.Frag) (mg : Str → Option Value) (base : Heap) (A : Ad) : Prop where
  src : Kp P w K mg base CX0 2 A.f__law_source ["_law_script", "_law_k"] (spSrc K)
  asks : Kp P w K mg base CX0 2 A.f__law_asks ["_law_source_here"] spLAsks
  row : Kp P w K mg base CX0 2 A.f__law_row ["_law_source_here", "_law_asks_here", "_law_longest"] spLRow
  draw : Kp P w K mg base CX0 1 A.f__law_draw ["_law_source_here", "_law_many"] spDraw
  gate : Kp P w K mg base CX0 2 A.f__law_gate ["_law_source_here", "_law_asks_here"] spLGate
  exact : Kp P w K mg base CX0 4 A.f__law_exact ["_law_told", "_law_due"] (spExD 2)
  deep : Kp P w K mg base CX0 4 A.f__law_deep ["_law_thing"] (spDeep 2)
  passes : Kp P w K mg base CX0 1 A.f__law_passes ["_law_asks_here", "_law_doors", "_law_row_here"] spPasses
  bad : Kp P w K mg base CX0 2 A.f__law_bad_item ["_law_source_here", "_law_many", "_law_asks_here"] spBadI
  init : Kp P w K mg base (L2.CX P w) 5 A.f_Gate_init ["self", "asks", "steps"] (spGInit K A)
  len : Kp P w K mg base CX0 1 A.f_Gate_len ["self"] (spGLen A)
  eq : Kp P w K mg base CX0 1 A.f_Gate_eq ["self", "other"] (spGEq A)
  con : Kp P w K mg base CX0 2 A.f_Gate_contains ["self", "x"] (spContains K A)
  pof : Kp P w K mg base (L2.CX P w) 4 A.f_Gate_place_of ["self", "row"] (spPlaceOf K A)
  wide : Kp P w K mg base (L2.CX P w) 7 A.f_Gate_wide ["cls", "asks"] (spWideG K A)
  num : ∀ g, ∃ fd, FnG P w K mg base 7 A.f__law_number fd ["_law_asks_here", "_law_steps"] (spNum K g) g ∧ Binds K fd ["_law_asks_here", "_law_steps"] [] ∧ PySem.W.keepIn K (.ref A.f__law_number) = true
section
variable {P : Program} {w : World} {K : PySem.W.Frag} {mg : Str → Option Value} {base : Heap} {A : Ad}
abbrev N_law : List Str := ["_law_script", "_law_source_here", "_law_asks_here", "_law_steps", "_law_passed", "_law_gate_here", "_law_wide", "_law_turn", "_law_row_here", "_law_due", "_law_odd", "_law_other", "_law_place", "_law_spoilt", "_law_last", "_law_whole", "error", "_law_item"]
theorem sc_law : FnScope N_law ["_law_script"] (defScope s_law) := ⟨rfl, rfl, rfl, by decide +kernel, rfl, by decide +kernel, by decide +kernel⟩
abbrev XL (P : Program) (w : World) (K : PySem.W.Frag) (mg : Str → Option Value) (base : Heap) (A : Ad) (cdv : Value) (A' : Around) (outer : List Env) (s : Shared) (H0 : Hp) (E : XK) : Cx := (cxOf CX0 P w K mg base N_law "law" (defScope s_law) A.f_law cdv A' outer s H0 E).nox
/-- what holds of the law's state from the gates on -/
structure CK (K : PySem.W.Frag) (C : Addr) (H : Hp) (a p l g gw : Addr) (bs : List Addr) (st : List (List (Option Int))) (z : Str) (ns : List Int) : Prop where
  scr : (a ≠ p ∧ SqL K H a (ns.map V.int)) ∨ ∀ H', SqL K H' a (ns.map V.int)
  src : Src H p
  ll : ∃ H1 po, H1 p = some po ∧ LLF H1 H l bs st
  gd : GoodS z.length st
  mem : z ∈ menuA
  ig : IsG C H g z st
  igw : IsG C H gw z (wideS z.length)
theorem CK.but {C : Addr} {H H' : Hp} {a p l g gw : Addr} {bs : List Addr} {st : List (List (Option Int))} {z : Str} {ns : List Int} (h : CK K C H a p l g gw bs st z ns) (b : But p H H') (s : Src H' p) : CK K C H' a p l g gw bs st z ns := by
  obtain ⟨x, y, u, hx, _⟩ := h.src
  have kx := KeepX.but hx b
  obtain ⟨H1, po, hpo, ll⟩ := h.ll
  refine ⟨?_, s, ⟨H1, po, hpo, ll.but hpo b⟩, h.gd, h.mem, h.ig.keep kx, h.igw.keep kx⟩
  rcases h.scr with ⟨n, q⟩ | q
  · exact .inl ⟨n, b.seqL n q⟩
  · exact .inr q
theorem CK.same {C : Addr} {H H' : Hp} {a p l g gw : Addr} {bs : List Addr} {st : List (List (Option Int))} {z : Str} {ns : List Int} (h : CK K C H a p l g gw bs st z ns) (b : Same H H') : CK K C H' a p l g gw bs st z ns := h.but (But.of b) (h.src.same b)
theorem CK.sq {C : Addr} {H : Hp} {a p l g gw : Addr} {bs : List Addr} {st : List (List (Option Int))} {z : Str} {ns : List Int} (h : CK K C H a p l g gw bs st z ns) : SqL K H a (ns.map V.int) := by
  rcases h.scr with ⟨_, q⟩ | q
  · exact q
  · exact q H
theorem knownT {K : PySem.W.Frag} {H : Hp} {x : V} (t : String) (h1 : ∀ z, x ≠ .str z) (h2 : TyX K H x (.type t)) (h3 : kitB t "str" = some false) : Known K H x := .inr ⟨h1, _, h2, kit_ty h3⟩
theorem RepIs.but {H H' : Hp} {p : Addr} {x : V} {f : List Code → Str} (s : Src H p) (b : But p H H') (h : RepIs H x f) : RepIs H' x f := by
  obtain ⟨i, j, k, e, _⟩ := s
  cases h with
  | str h => exact .str h
  | int h => exact .int h
  | bl => exact .bl
  | non => exact .non
  | lst h h1 h2 => exact .lst (b _ _ h fun z => by subst z; rw [e] at h; cases h) h1 h2
  | tup h => exact .tup (b _ _ h fun z => by subst z; rw [e] at h; cases h)
  | dct h => exact .dct (b _ _ h fun z => by subst z; rw [e] at h; cases h)
theorem Rp.but {H H' : Hp} {p : Addr} {x : V} {f : List Code → Str} (s : Src H p) (b : But p H H') (h : Rp H x f) : Rp H' x f := ⟨RepIs.but s b h.is, h.ok⟩
theorem Known.len {K : PySem.W.Frag} {H : Hp} {x : V} (h : Known K H x) : ∀ z, x = .str z → z.length ≤ sizeLine := fun z e => by
  rcases h with ⟨y, ey, hy⟩ | ⟨h, _⟩
  · rw [e] at ey
    cases ey
    exact hy
  · exact absurd e (h z)
theorem Rp.known {K : PySem.W.Frag} {H : Hp} {x : V} {f : List Code → Str} (h : Rp H x f) (hl : ∀ z, x = .str z → z.length ≤ sizeLine) : Known K H x := by
  obtain ⟨h, _⟩ := h
  cases h with
  | str h => exact .inl ⟨_, rfl, hl _ rfl⟩
  | int h => exact knownT "int" (fun _ => nofun) (.base (.int _)) (by decide +kernel)
  | bl => exact knownT "bool" (fun _ => nofun) (.base (.bl _)) (by decide +kernel)
  | non => exact knownT "NoneType" (fun _ => nofun) (.base .non) (by decide +kernel)
  | lst h => exact knownT "list" (fun _ => nofun) (.base (.lst h)) (by decide +kernel)
  | tup h => exact knownT "tuple" (fun _ => nofun) (.base (.tup h)) (by decide +kernel)
  | dct h => exact knownT "dict" (fun _ => nofun) (.base (.dK h)) (by decide +kernel)
/-- the odd thing -/
structure OD (H : Hp) (z : Str) (v : V) (f : List Code → Str) : Prop where
  rp : Rp H v f
  len : ∀ y, v = .str y → y.length ≤ sizeLine
  no : rowV z v = false
theorem OD.but {H H' : Hp} {p : Addr} {z : Str} {v : V} {f : List Code → Str} (h : OD H z v f) (s : Src H p) (b : But p H H') : OD H' z v f := ⟨Rp.but s b h.rp, h.len, h.no⟩
theorem OD.same {H H' : Hp} {z : Str} {v : V} {f : List Code → Str} (h : OD H z v f) (b : Same H H') : OD H' z v f := ⟨h.rp.mono b, h.len, h.no⟩
theorem menu_facts : ∀ z ∈ menuA, 1 ≤ z.length ∧ z.length ≤ 3 ∧ Asc z ∧ asksV (.str z) = true := by decide +kernel
theorem menu_finds : ∀ z ∈ menuA, ∀ c ∈ z.cps.toList, Finds z c := by
  have h : ∀ z ∈ menuA, ∀ c ∈ z.cps.toList, fnd z c = ((fnd z c).toNat : Int) ∧ (fnd z c).toNat < z.length := by decide +kernel
  intro z hz c hc
  exact ⟨_, h z hz c hc⟩
end
end As

namespace As
open PySem PySem.Spec PyProof.Rows L2 Ow
section
variable {P : Program} {w : World} {K : PySem.W.Frag} {mg : Str → Option Value} {base : Heap} {A : Ad}
theorem seg6 {cdv : Value} {A' : Around} {outer : List Env} {s : Shared} {H0 : Hp} {E : XK} {g : List Code} (hgd : A'.guards = some g) (hr : Room 8 (A'.deeper (envOfC "law" (defScope s_law) s.heap.objs.size A.f_law cdv)))
    (T : Tx K mg A) (X : Ex K mg A) (GC : GCls K A) (Pt : Parts P w K mg base A) : ∃ t, PSs (XL P w K mg base A cdv A' outer s H0 E) ((defBody s_law).drop 26) t ∧
    ∀ (Q : VK) (a p l ga gw : Addr) (bs : List Addr) (st : List (List (Option Int))) (z : Str) (ns : List Int) (v : V) (f : List Code → Str) (o4 o7 o8 o9 o11 o12 o13 o14 o15 o16 o17 : Option V) (H : Hp), CK K A.c_Gate H a p l ga gw bs st z ns → OD H z v f → (∀ H', Q (.bl true) H') →
      t { nx := fun _ H' => Q .non H', rt := Q } [some (.ref a), some (.ref p), some (.str z), some (.ref l), o4, some (.ref ga), some (.ref gw), o7, o8, o9, some v, o11, o12, o13, o14, o15, o16, o17] H := by
  obtain ⟨fd1, G__law_source, b__law_source, k__law_source⟩ := Pt.src
  obtain ⟨fd2, G__law_asks, b__law_asks, k__law_asks⟩ := Pt.asks
  obtain ⟨fd3, G__law_row, b__law_row, k__law_row⟩ := Pt.row
  obtain ⟨fd4, G__law_draw, b__law_draw, k__law_draw⟩ := Pt.draw
  obtain ⟨fd5, G__law_gate, b__law_gate, k__law_gate⟩ := Pt.gate
  obtain ⟨fd6, G__law_exact, b__law_exact, k__law_exact⟩ := Pt.exact
  obtain ⟨fd7, G__law_deep, b__law_deep, k__law_deep⟩ := Pt.deep
  obtain ⟨fd8, G__law_passes, b__law_passes, k__law_passes⟩ := Pt.passes
  obtain ⟨fd9, G__law_bad_item, b__law_bad_item, k__law_bad_item⟩ := Pt.bad
  obtain ⟨fd10, G_Gate_init, b_Gate_init, k_Gate_init⟩ := Pt.init
  obtain ⟨fd11, G_Gate_len, b_Gate_len, k_Gate_len⟩ := Pt.len
  obtain ⟨fd12, G_Gate_eq, b_Gate_eq, k_Gate_eq⟩ := Pt.eq
  obtain ⟨fd13, G_Gate_contains, b_Gate_contains, k_Gate_contains⟩ := Pt.con
  obtain ⟨fd14, G_Gate_place_of, b_Gate_place_of, k_Gate_place_of⟩ := Pt.pof
  obtain ⟨fd15, G_Gate_wide, b_Gate_wide, k_Gate_wide⟩ := Pt.wide
  obtain ⟨fd16, G__law_number, b__law_number, k__law_number⟩ := Pt.num g
  obtain ⟨cmp, cmt⟩ := GC.cmt
  have FW := G_Gate_wide.raw b_Gate_wide .nil
  have LA := X.LA
  have LR := X.LR
  have LG := X.LG
  have nd := sc_law.nd
  refine ⟨_, (pss_cons (ps_try_clauses (i := 16) rfl rfl nd rfl rfl takes0 (fun W pn xe tk _ => (pss_one (ps_expr (pe_methX (pv 5) GC.cls GC.mPlace G_Gate_place_of (hr.mono (by omega)) b_Gate_place_of (fun σ => passAt tk σ) (pa_cons (pv 10) pa_nil)))))
 (.cons ⟨rfl, by decide, Or.inl T.mBadRow⟩ (fun a oe cls d pn hz hf => (pss_one (ps_ret (pe_cmpR op_eq (pe_callB (call_rep hgd hr.units) (by rfl) T.nrepr (by decide +kernel) (pa_cons (pe_thing LR hz hf (pv 16)) pa_nil)) (pe_callB (call_rep hgd hr.units) (by rfl) T.nrepr (by decide +kernel) (pa_cons (pv 10) pa_nil)) (nomark _)))))
 .nil))
  (pss_cons (ps_ret pe_bl)
  pss_nil)), ?_⟩
  intro Q a p l ga gw bs st z ns v f o4 o7 o8 o9 o11 o12 o13 o14 o15 o16 o17 H ck od q
  obtain ⟨dx, w1, hg, tv⟩ := ck.ig
  refine ⟨_, rfl, ga, dx, _, rfl, hg, rfl, _, rfl, ga, v, z, st, rfl, ⟨dx, w1, hg, tv⟩, ck.gd, menu_finds z ck.mem, Rp.known od.rp od.len, fun _ dd H1 s1 h1 => ?_, fun r e yes => ?_⟩
  · refine ⟨true, X.xRR, fun _ a0 _ => ?_, fun z => nomatch z⟩
    refine ⟨_, rfl, rfl, rfl, dd, v, rfl, h1, v, f, rfl, od.rp.is.mono s1, _, rfl, v, f, rfl, od.rp.is.mono s1, ?_⟩
    refine ⟨rfl, ?_⟩
    show Q (.bl (decide (V.str (f g) = V.str (f g)))) H1
    rw [decide_eq_true rfl]
    exact q H1
  · rw [od.no] at yes
    cases yes
end
end As

namespace Ow
open PySem PySem.Spec PyProof.Rows L2
/-- the heap without p -/
def wo (H : Hp) (p : Addr) : Hp := fun b => if b = p then none else H b
theorem wo_sub {H : Hp} {p : Addr} : Same (wo H p) H := fun b o h => by
  unfold wo at h
  split at h
  · cases h
  · exact h
theorem wo_but {H H' : Hp} {p : Addr} (k : But p H H') : Same (wo H p) (wo H' p) := fun b o h => by
  unfold wo at h ⊢
  split at h
  · cases h
  · rename_i n
    rw [if_neg n]
    exact k b o h n
theorem nw_wo {H H' : Hp} {p : Addr} {o : HO} (h : H p = some o) : Same (nw H H') (wo H' p) := fun b u hb => by
  unfold nw at hb
  unfold wo
  cases e : H b with
  | none =>
    rw [e] at hb
    rw [if_neg (fun z => by rw [z, h] at e; cases e)]
    exact hb
  | some _ => rw [e] at hb; cases hb
def zeros (N n : Nat) : List (List (Option Int)) := List.replicate N (List.replicate n (some 0))
theorem good_zeros {N n : Nat} (h1 : 1 ≤ N) (h2 : N ≤ 50) : GoodS n (zeros N n) where
  ne := by unfold zeros; rw [List.length_replicate]; exact h1
  le := by unfold zeros; rw [List.length_replicate]; exact h2
  len := fun it h => by
    rw [List.eq_of_mem_replicate h]
    exact List.length_replicate
  ok := fun it h q hq => by
    rw [List.eq_of_mem_replicate h] at hq
    obtain rfl := Option.some.inj (List.eq_of_mem_replicate hq)
    unfold zeros
    rw [List.length_replicate]
    omega
theorem th_rep {H : Hp} {x : V} {d : PyData} (h : Th H x d) : ∀ n, ThAll H (List.replicate n x) (List.replicate n d)
  | 0 => .nil
  | n + 1 => .cons h (th_rep h n)
/-- [[0] * len(asks)] * N -/
theorem rep2 {H0 H1 : Hp} {σ : L2.St} {i : Nat} {z : Str} {N : Nat} {Q : VK} (s01 : Same H0 H1) (hs : σ[i]? = some (some (.str z))) (hz : z.length ≤ 100) (hN : N ≤ 100)
    (q : ∀ v H2, Same H1 H2 → Th (nw H0 H2) v (GL (zeros N z.length)) → Q v H2) :
    tOp L2.rRep (tLst (tCons (tOp L2.rRep (tLst (tCons (tC (V.int 0)) tNil)) (tCB (fun xs H Q => ∃ z, xs = [V.str z] ∧ z.length ≤ sizeLine ∧ Q (V.int ↑z.length) H) (tCons (tVar i) tNil))) tNil)) (tC (V.int (N : Int))) σ H1 Q := by
  have zl : z.length ≤ sizeLine := Nat.le_trans hz (by decide)
  refine ⟨(by show 1 ≤ sizeLine; decide), fun a ha => ?_⟩
  have y1 := same_new (o := .lst [.int 0]) ha
  refine ⟨_, hs, z, rfl, zl, a, z.length, _, rfl, rfl, upd_same, by omega, by omega, Nat.le_trans (show 1 * (z.length : Int).toNat ≤ 100 by omega) (by decide), fun b hb => ?_⟩
  rw [show (List.replicate (z.length : Int).toNat [V.int 0]).flatten = List.replicate z.length (V.int 0) by simp]
  have y2 := y1.trans (same_new (o := .lst (List.replicate z.length (V.int 0))) hb)
  have hB : (upd (upd H1 a (.lst [.int 0])) b (.lst (List.replicate z.length (V.int 0)))) b = some (.lst (List.replicate z.length (V.int 0))) := upd_same
  have b0 : H0 b = none := s01.free (y1.free hb)
  generalize upd (upd H1 a (.lst [.int 0])) b (.lst (List.replicate z.length (V.int 0))) = H2 at y2 hB ⊢
  refine ⟨(by show 1 ≤ sizeLine; decide), fun c hc => ?_⟩
  have y3 := y2.trans (same_new (o := .lst [.ref b]) hc)
  refine ⟨c, N, _, rfl, rfl, upd_same, by omega, by omega, Nat.le_trans (show 1 * (N : Int).toNat ≤ 100 by omega) (by decide), fun e he => ?_⟩
  rw [show (List.replicate (N : Int).toNat [V.ref b]).flatten = List.replicate N (V.ref b) by simp]
  have y4 := same_new (o := .lst (List.replicate N (V.ref b))) he
  refine q _ _ (y3.trans y4) (.lst (by rw [nw_at (s01.free (y3.free he)), upd_same]) (by rw [List.length_replicate]; exact Nat.le_trans hN (by decide)) ?_)
  unfold zeros
  rw [List.map_replicate, List.map_replicate]
  refine th_rep (.lst (by rw [nw_at b0]; exact y4 _ _ (same_new hc _ _ hB)) (by rw [List.length_replicate]; exact zl) (th_rep (.int 0) _)) N
theorem shaped_tag (t : Str) (ht : PyData.strOk t = true) (k : Int) : SeqAt.shaped (.tuple [.str t, .int k]) = true := by
  unfold SeqAt.shaped
  rw [Bool.and_eq_true]
  refine ⟨by simp [PyData.canLay0, PyData.canLayAll0, ht], decide_eq_true ?_⟩
  simp [PyData.depth, PyData.depthAll]
theorem shaped_one (t : Str) (ht : PyData.strOk t = true) : SeqAt.shaped (.tuple [.str t]) = true := by
  unfold SeqAt.shaped
  rw [Bool.and_eq_true]
  refine ⟨by simp [PyData.canLay0, PyData.canLayAll0, ht], decide_eq_true ?_⟩
  simp [PyData.depth, PyData.depthAll]
theorem eqv_self {d : PyData} (h : SeqAt.shaped d = true) : PyData.eqv d d = true := SeqAt.eqv_refl _ (SeqAt.canLay_of_shaped h)
end Ow
namespace As
open PySem PySem.Spec PyProof.Rows L2 Ow
section
variable {P : Program} {w : World} {K : PySem.W.Frag} {mg : Str → Option Value} {base : Heap} {A : Ad}
/-- a list that is spoilt at the place k -/
structure SP (H : Hp) (p : Addr) (x : V) (n k : Nat) (ds : List PyData) : Prop where
  th : Th (wo H p) x (.list ds)
  l1 : 1 ≤ ds.length
  l2 : ds.length ≤ 50
  bad : ∃ dk, ds[k]? = some dk ∧ gateItemD dk n ds.length = false
  good : ∀ (j : Nat) dj, j < k → ds[j]? = some dj → gateItemD dj n ds.length = true
theorem seg5 {cdv : Value} {A' : Around} {outer : List Env} {s : Shared} {H0 : Hp} {E : XK} {g : List Code} (hgd : A'.guards = some g) (hr : Room 8 (A'.deeper (envOfC "law" (defScope s_law) s.heap.objs.size A.f_law cdv)))
    (T : Tx K mg A) (X : Ex K mg A) (GC : GCls K A) (Pt : Parts P w K mg base A) : ∃ t, PSs (XL P w K mg base A cdv A' outer s H0 E) ((defBody s_law).drop 23) t ∧
    ∀ (Q : VK) (a p l ga gw : Addr) (bs : List Addr) (st : List (List (Option Int))) (z : Str) (ns : List Int) (v xs : V) (k : Nat) (ds : List PyData) (f : List Code → Str) (o4 o7 o8 o9 o11 o14 o15 o16 o17 : Option V) (H : Hp), CK K A.c_Gate H a p l ga gw bs st z ns → OD H z v f → SP H p xs z.length k ds → (∀ H', Q (.bl true) H') →
      t { nx := fun _ H' => Q .non H', rt := Q } [some (.ref a), some (.ref p), some (.str z), some (.ref l), o4, some (.ref ga), some (.ref gw), o7, o8, o9, some v, o11, some (.int (k : Int)), some xs, o14, o15, o16, o17] H := by
  obtain ⟨fd1, G__law_source, b__law_source, k__law_source⟩ := Pt.src
  obtain ⟨fd2, G__law_asks, b__law_asks, k__law_asks⟩ := Pt.asks
  obtain ⟨fd3, G__law_row, b__law_row, k__law_row⟩ := Pt.row
  obtain ⟨fd4, G__law_draw, b__law_draw, k__law_draw⟩ := Pt.draw
  obtain ⟨fd5, G__law_gate, b__law_gate, k__law_gate⟩ := Pt.gate
  obtain ⟨fd6, G__law_exact, b__law_exact, k__law_exact⟩ := Pt.exact
  obtain ⟨fd7, G__law_deep, b__law_deep, k__law_deep⟩ := Pt.deep
  obtain ⟨fd8, G__law_passes, b__law_passes, k__law_passes⟩ := Pt.passes
  obtain ⟨fd9, G__law_bad_item, b__law_bad_item, k__law_bad_item⟩ := Pt.bad
  obtain ⟨fd10, G_Gate_init, b_Gate_init, k_Gate_init⟩ := Pt.init
  obtain ⟨fd11, G_Gate_len, b_Gate_len, k_Gate_len⟩ := Pt.len
  obtain ⟨fd12, G_Gate_eq, b_Gate_eq, k_Gate_eq⟩ := Pt.eq
  obtain ⟨fd13, G_Gate_contains, b_Gate_contains, k_Gate_contains⟩ := Pt.con
  obtain ⟨fd14, G_Gate_place_of, b_Gate_place_of, k_Gate_place_of⟩ := Pt.pof
  obtain ⟨fd15, G_Gate_wide, b_Gate_wide, k_Gate_wide⟩ := Pt.wide
  obtain ⟨fd16, G__law_number, b__law_number, k__law_number⟩ := Pt.num g
  obtain ⟨cmp, cmt⟩ := GC.cmt
  have FW := G_Gate_wide.raw b_Gate_wide .nil
  have LA := X.LA
  have LR := X.LR
  have LG := X.LG
  have nd := sc_law.nd
  obtain ⟨t6, d6, nxt⟩ := seg6 (E := E) (H0 := H0) (outer := outer) hgd hr T X GC Pt
  refine ⟨_, (pss_cons (ps_set (i := 15) nd rfl (by first | exact Or.inl rfl | exact Or.inr rfl) (pe_ix ix_list (pe_lst (pa_cons pe_non (pa_cons (pe_lst pa_nil) (pa_cons pe_str (pa_cons pe_int (pa_cons pe_dnewK (pa_cons (pe_op op_rep (pe_lst (pa_cons (pe_op op_rep (pe_lst (pa_cons pe_int pa_nil)) (pe_callB call_len_str (by rfl) T.nlen (by decide +kernel) (pa_cons (pv 2) pa_nil))) pa_nil)) pe_int) pa_nil))))))) (pe_call G__law_draw (hr.mono (by omega)) rfl T.m_law_draw k__law_draw b__law_draw .nil pass0 (pa_cons (pv 1) (pa_cons pe_int pa_nil))) (fun _ _ => rfl)))
  (pss_cons (ps_if (PW.pt (pw_or (pt_cmpR (op_neD hr.units) (pe_callG G__law_number hgd (hr.mono (by omega)) rfl T.m_law_number k__law_number b__law_number (pa_cons (pv 2) (pa_cons (pv 13) pa_nil))) (pe_tup (pa_cons pe_str (pa_cons (pv 12) pa_nil))) (nomark _)) (pw_or1 (pt_cmpR (op_neD hr.units) (pe_callG G__law_number hgd (hr.mono (by omega)) rfl T.m_law_number k__law_number b__law_number (pa_cons (pv 2) (pa_cons (pv 15) pa_nil))) (pe_tup (pa_cons pe_str (pa_cons (pe_un un_neg pe_int) pa_nil))) (nomark _))))) (pss_one (ps_ret pe_bl)) pss_nil)
  (pss_cons (ps_if (PW.pt (pw_or (pt_cmpR (op_neD hr.units) (pe_callG G__law_number hgd (hr.mono (by omega)) rfl T.m_law_number k__law_number b__law_number (pa_cons pe_str (pa_cons (pv 15) pa_nil))) (pe_tup (pa_cons pe_str (pa_cons pe_str pa_nil))) (nomark _)) (pw_or1 (pt_cmpR (op_neD hr.units) (pe_callG G__law_number hgd (hr.mono (by omega)) rfl T.m_law_number k__law_number b__law_number (pa_cons (pv 2) (pa_cons (pe_op op_rep (pe_lst (pa_cons (pe_op op_rep (pe_lst (pa_cons pe_int pa_nil)) (pe_callB call_len_str (by rfl) T.nlen (by decide +kernel) (pa_cons (pv 2) pa_nil))) pa_nil)) pe_int) pa_nil))) (pe_tup (pa_cons pe_str pa_nil)) (nomark _))))) (pss_one (ps_ret pe_bl)) pss_nil)
  d6))), ?_⟩
  intro Q a p l ga gw bs st z ns v xs k ds f o4 o7 o8 o9 o11 o14 o15 o16 o17 H ck od sp q
  have mf := menu_facts z ck.mem
  have zl : z.length ≤ sizeLine := Nat.le_trans mf.2.1 (by decide)
  refine ⟨(by show 0 ≤ sizeLine; decide), fun m1 h1 => ?_⟩
  have y1 := same_new (o := .lst []) h1
  have e1 : (upd H m1 (.lst [])) m1 = some (.lst []) := upd_same
  have f1 : H m1 = none := h1
  generalize upd H m1 (.lst []) = H1 at y1 e1 ⊢
  intro m2 h2
  have y2 := same_new (o := .dK []) h2
  have e2 : (upd H1 m2 (.dK [])) m2 = some (.dK []) := upd_same
  have f2 : H m2 = none := y1.free h2
  generalize upd H1 m2 (.dK []) = H2 at y2 e2 ⊢
  refine rep2 (N := 51) (H0 := H) (y1.trans y2) rfl (by omega) (by omega) fun r H3 y3 tr => ?_
  refine ⟨(by show 6 ≤ sizeLine; decide), fun mm hm => ?_⟩
  have y4 := same_new (o := .lst [V.non, .ref m1, .str "0", .int 5, .ref m2, r]) hm
  have hM : (upd H3 mm (.lst [V.non, .ref m1, .str "0", .int 5, .ref m2, r])) mm = some (.lst [V.non, .ref m1, .str "0", .int 5, .ref m2, r]) := upd_same
  have fm : H mm = none := y1.free (y2.free (y3.free hm))
  show tCall spDraw _ _ _ _ (upd H3 mm (.lst [V.non, .ref m1, .str "0", .int 5, .ref m2, r])) _
  generalize upd H3 mm (.lst [V.non, .ref m1, .str "0", .int 5, .ref m2, r]) = H4 at y4 hM ⊢
  have y04 : Same H H4 := y1.trans (y2.trans (y3.trans y4))
  have all : ThAll (nw H H4) [V.non, .ref m1, .str "0", .int 5, .ref m2, r] [.none, .list [], .str "0", .int 5, .dict [], GL (zeros 51 z.length)] :=
    .cons .non (.cons (.lst (by rw [nw_at f1]; exact y4 _ _ (y3 _ _ (y2 _ _ e1))) (Nat.zero_le _) .nil) (.cons (.str (by show 1 ≤ sizeLine; decide)) (.cons (.int 5) (.cons (.dct (by rw [nw_at f2]; exact y4 _ _ (y3 _ _ e2))) (.cons (tr.mono (nw_mono y4)) .nil)))))
  have ck4 := ck.same y04
  have od4 := od.same y04
  have mp : mm ≠ p := by
    obtain ⟨o, ho⟩ := ck.src.some
    exact (ne_of_none ho fm).symm
  refine ⟨_, rfl, p, 6, rfl, ck4.src, by decide, by decide, fun j H5 j0 j1 g5 b5 => ?_⟩
  obtain ⟨i, rfl⟩ : ∃ i : Nat, j = (i : Int) := ⟨j.toNat, by omega⟩
  have hi : i < [PyData.none, .list [], .str "0", .int 5, .dict [], GL (zeros 51 z.length)].length := by
    show i < 6
    omega
  obtain ⟨wv, ev, tw⟩ := all.got (List.getElem?_eq_getElem hi)
  have whole : ∀ d ∈ [PyData.none, .list [], .str "0", .int 5, .dict [], GL (zeros 51 z.length)], ¬ (isTupD d = true ∧ 1 ≤ (itemsD d).length ∧ (itemsD d).length ≤ 50) := by
    intro d hd c
    simp only [List.mem_cons, List.not_mem_nil, or_false] at hd
    rcases hd with rfl | rfl | rfl | rfl | rfl | rfl
    · exact nomatch c.1
    · exact absurd c.2.1 (by decide)
    · exact nomatch c.1
    · exact nomatch c.1
    · exact nomatch c.1
    · have : (itemsD (GL (zeros 51 z.length))).length = 51 := by
        show ((zeros 51 z.length).map _).length = 51
        rw [List.length_map]
        exact List.length_replicate
      omega
  have hw := whole _ (List.getElem_mem hi)
  generalize [PyData.none, .list [], .str "0", .int 5, .dict [], GL (zeros 51 z.length)][i] = dw at tw hw
  obtain ⟨po, hpo⟩ := ck.src.some
  have tw5 : Th H5 wv dw := ((tw.mono (nw_wo hpo)).mono (wo_but b5)).mono wo_sub
  have ck5 := ck4.but b5 g5
  have od5 := od4.but ck4.src b5
  have sp5 : Th H5 xs (.list ds) := ((sp.th.mono (wo_but (But.of y04))).mono (wo_but b5)).mono wo_sub
  refine ⟨mm, _, _, wv, rfl, rfl, SqL.of (b5 _ _ hM mp), atI_nat ev, ?_⟩
  -- the first: at the place that was spoilt
  obtain ⟨dk, edk, bdk⟩ := sp.bad
  refine ⟨_, rfl, _, rfl, .str z, xs, .list ds, rfl, known_str zl, sp5, .inr ⟨z, rfl, mf.2.2.2, .inr (.inl ⟨rfl, sp.l1, sp.l2, k, dk, edk, bdk, sp.good, fun q6 H6 y6 n6 t6 => ?_⟩)⟩⟩
  refine ⟨_, rfl, (by show 2 ≤ sizeLine; decide), fun u6 hu6 => ?_⟩
  have s6 := (Same.refl H5).trans (y6.trans (same_new (o := .tup [.str "gate", .int (k : Int)]) hu6))
  have d6 : SeqAt.shaped (.tuple [.str "gate", .int (k : Int)]) = true := shaped_tag "gate" (by decide +kernel) _
  refine ⟨_, _, .tup (SqT.of (same_new hu6 _ _ t6)) (.cons (.str _) (.cons (.int _) .nil)), .tup (SqT.of upd_same) (.cons (.str _) (.cons (.int _) .nil)), d6, d6, _, rfl, ?_⟩
  rw [eqv_self d6]
  refine iteF ?_
  generalize upd H6 u6 (.tup [.str "gate", .int (k : Int)]) = K6 at s6 ⊢
  refine ⟨_, rfl, _, rfl, .str z, wv, dw, rfl, known_str zl, tw5.mono s6, .inr ⟨z, rfl, mf.2.2.2, .inl ⟨hw, fun q7 H7 y7 n7 t7 => ?_⟩⟩⟩
  refine ⟨1, rfl, (by show 2 ≤ sizeLine; decide), fun u7 hu7 => ?_⟩
  have s7 := s6.trans (y7.trans (same_new (o := .tup [.str "gate", .int (-1)]) hu7))
  have d7 : SeqAt.shaped (.tuple [.str "gate", .int (-1)]) = true := shaped_tag "gate" (by decide +kernel) _
  refine ⟨_, _, .tup (SqT.of (same_new hu7 _ _ t7)) (.cons (.str _) (.cons (.int _) .nil)), .tup (SqT.of upd_same) (.cons (.str _) (.cons (.int _) .nil)), d7, d7, _, rfl, ?_⟩
  rw [eqv_self d7]
  refine iteF ?_
  generalize upd H7 u7 (.tup [.str "gate", .int (-1)]) = K7 at s7 ⊢
  have rb : RepIs K7 (.str "ba") (fun _ => reprText "ba") := (Rp.str (by decide +kernel) (by decide +kernel)).is
  refine ⟨_, rfl, .str "ba", wv, dw, rfl, known_str (by decide +kernel), tw5.mono s7, .inl ⟨_, by decide +kernel, rb, fun q8 H8 y8 n8 t8 => ?_⟩⟩
  have eb : reprText "ba" = (Str.ofString "'ba'") := by decide +kernel
  rw [eb] at t8
  refine ⟨(by show 2 ≤ sizeLine; decide), fun u8 hu8 => ?_⟩
  have s8 := s7.trans (y8.trans (same_new (o := .tup [.str "asks", .str "'ba'"]) hu8))
  have d8 : SeqAt.shaped (.tuple [.str "asks", .str "'ba'"]) = true := shaped_pair (by decide +kernel) (by decide +kernel)
  refine ⟨_, _, .tup (SqT.of (same_new hu8 _ _ t8)) (.cons (.str _) (.cons (.str _) .nil)), .tup (SqT.of upd_same) (.cons (.str _) (.cons (.str _) .nil)), d8, d8, _, rfl, ?_⟩
  rw [eqv_self d8]
  refine iteF ?_
  generalize upd H8 u8 (.tup [.str "asks", .str "'ba'"]) = K8 at s8 ⊢
  refine ⟨_, rfl, rep2 (N := 50) (Same.refl K8) rfl (by omega) (by omega) fun r2 H9 y9 tr2 => ?_⟩
  refine ⟨.str z, r2, _, rfl, known_str zl, tr2.mono nw_sub, .inr ⟨z, rfl, mf.2.2.2, .inr (.inr ⟨zeros 50 z.length, good_zeros (by decide) (by decide), gs_lst (good_zeros (by decide) (by decide)), zl, fun q10 H10 y10 n10 t10 => ?_⟩)⟩⟩
  refine ⟨(by show 1 ≤ sizeLine; decide), fun u10 hu10 => ?_⟩
  have s10 := s8.trans (y9.trans (y10.trans (same_new (o := .tup [.str "none"]) hu10)))
  have d10 : SeqAt.shaped (.tuple [.str "none"]) = true := shaped_one "none" (by decide +kernel)
  refine ⟨_, _, .tup (SqT.of (same_new hu10 _ _ t10)) (.cons (.str _) .nil), .tup (SqT.of upd_same) (.cons (.str _) .nil), d10, d10, _, rfl, ?_⟩
  rw [eqv_self d10]
  refine iteF ?_
  generalize upd H10 u10 (.tup [.str "none"]) = K10 at s10 ⊢
  exact nxt Q a p l ga gw bs st z ns v f o4 o7 o8 o9 o11 _ _ o14 _ o16 o17 K10 (ck5.same s10) (od5.same s10) q
end
end As

namespace Ow
open PySem PySem.Spec PyProof.Rows L2
theorem nw_but {H0 H H' : Hp} {p : Addr} {o : HO} (h : H0 p = some o) (b : But p H H') : Same (nw H0 H) (nw H0 H') := fun c u hc => by
  unfold nw at hc ⊢
  cases e : H0 c with
  | none =>
    rw [e] at hc
    exact b c u hc (fun z => by rw [z, h] at e; cases e)
  | some _ => rw [e] at hc; cases hc
theorem Each.up {H H' : Hp} : ∀ {bs : List Addr} {st : List (List (Option Int))}, Each H bs st → (∀ b ∈ bs, H' b = H b) → Each H' bs st
  | _, _, .nil, _ => .nil
  | _, _, .cons h r, k => .cons ((k _ List.mem_cons_self).trans h) (Each.up r fun b hb => k b (List.mem_cons_of_mem _ hb))
theorem Each.thN {H0 H : Hp} {bs : List Addr} {st : List (List (Option Int))} (h : Each H bs st) (f : ∀ b ∈ bs, H0 b = none) (z : ∀ it ∈ st, it.length ≤ sizeLine) : ThAll (nw H0 H) (bs.map V.ref) (st.map fun it => .list (it.map optD)) :=
  Each.th (h.up fun b hb => nw_at (f b hb)) z
theorem ThAll.set {H : Hp} {x : V} {d : PyData} (h : Th H x d) : ∀ {xs : List V} {ds : List PyData}, ThAll H xs ds → ∀ i, ThAll H (xs.set i x) (ds.set i d)
  | _, _, .nil, _ => .nil
  | _, _, .cons _ r, 0 => .cons h r
  | _, _, .cons a r, i + 1 => .cons a (ThAll.set h r i)
/-- [list(it) for it in steps] -/
theorem copy_ll {K : PySem.W.Frag} {H H1 : Hp} {l : Addr} {bs : List Addr} {st : List (List (Option Int))} {Q : VK} {o0 o1 o2 o4 o5 o6 o7 o8 o9 o10 o11 o12 o13 o14 o15 o16 o17 : Option V} (ll : LLF H1 H l bs st) (z : st.length ≤ 60)
    (q : ∀ D cs H', LLF H H' D cs st → Same H H' → Q (.ref D) H') :
    tLc (iList K (tVar 3)) (gName 17) tYes (tCB (rLsOf K) (tCons (tVar 17) tNil)) [17] [o0, o1, o2, some (.ref l), o4, o5, o6, o7, o8, o9, o10, o11, o12, o13, o14, o15, o16, o17] H Q := by
  refine ⟨_, rfl, l, rfl, ⟨_, SqL.of ll.at_⟩, fun D hD => ?_⟩
  have hs := same_new (o := .lst []) hD
  refine lc_list (K := K) (xs := bs.map V.ref) (fun i H' => ∃ cs, LLF H H' D cs (st.take i) ∧ Same H H') ⟨[], ⟨upd_same, .nil, List.nodup_nil, nofun, hD, nofun⟩, hs⟩ (fun i H' _ ⟨_, _, sm⟩ => SqL.of (sm _ _ ll.at_)) ?_ ?_
  · rintro i x H2 hx ⟨cs, LL, sm⟩
    rw [List.getElem?_map] at hx
    obtain ⟨b, hb, rfl⟩ := Option.map_eq_some_iff.mp hx
    obtain ⟨it, hit, hbi⟩ := ll.each.get hb
    refine ⟨rfl, yes_go ?_⟩
    refine ⟨_, rfl, b, _, rfl, .inl (SqL.of (sm _ _ hbi)), fun c hc => ?_⟩
    have y := same_new (o := .lst (it.map optV)) hc
    have LL2 := LL.same y
    have n1 : c ≠ D := fun e => by rw [e, LL.at_] at hc; cases hc
    have n2 : c ∉ cs := fun m => by
      obtain ⟨j, hj⟩ := List.getElem?_of_mem m
      obtain ⟨_, _, hb⟩ := LL.each.get hj
      rw [hb] at hc
      cases hc
    have fc : H c = none := sm.free hc
    have hi : i < st.length := (List.getElem?_eq_some_iff.mp hit).1
    refine ⟨_, LL2.at_, ?_, cs ++ [c], ?_, same_upd (sm.trans y) hD⟩
    · rw [List.length_map, LL.each.len, List.length_take]
      exact Nat.lt_of_le_of_lt (Nat.min_le_left _ _) (Nat.lt_of_lt_of_le (show i < 60 by omega) (by decide))
    · rw [take_get' hit]
      exact LL2.snoc upd_same n2 n1 fc
  · rintro H2 ⟨cs, LL, sm⟩
    rw [List.length_map, ll.each.len, List.take_length] at LL
    exact q D cs H2 LL sm
end Ow
namespace As
open PySem PySem.Spec PyProof.Rows L2 Ow
section
variable {P : Program} {w : World} {K : PySem.W.Frag} {mg : Str → Option Value} {base : Heap} {A : Ad}
theorem seg4 {cdv : Value} {A' : Around} {outer : List Env} {s : Shared} {H0 : Hp} {E : XK} {g : List Code} (hgd : A'.guards = some g) (hr : Room 8 (A'.deeper (envOfC "law" (defScope s_law) s.heap.objs.size A.f_law cdv)))
    (T : Tx K mg A) (X : Ex K mg A) (GC : GCls K A) (Pt : Parts P w K mg base A) : ∃ t, PSs (XL P w K mg base A cdv A' outer s H0 E) ((defBody s_law).drop 18) t ∧
    ∀ (Q : VK) (a p l ga gw : Addr) (bs : List Addr) (st : List (List (Option Int))) (z : Str) (ns : List Int) (v : V) (f : List Code → Str) (o4 o7 o8 o9 o11 o12 o13 o14 o15 o16 o17 : Option V) (H : Hp), CK K A.c_Gate H a p l ga gw bs st z ns → OD H z v f → (∀ H', Q (.bl true) H') →
      t { nx := fun _ H' => Q .non H', rt := Q } [some (.ref a), some (.ref p), some (.str z), some (.ref l), o4, some (.ref ga), some (.ref gw), o7, o8, o9, some v, o11, o12, o13, o14, o15, o16, o17] H := by
  obtain ⟨fd1, G__law_source, b__law_source, k__law_source⟩ := Pt.src
  obtain ⟨fd2, G__law_asks, b__law_asks, k__law_asks⟩ := Pt.asks
  obtain ⟨fd3, G__law_row, b__law_row, k__law_row⟩ := Pt.row
  obtain ⟨fd4, G__law_draw, b__law_draw, k__law_draw⟩ := Pt.draw
  obtain ⟨fd5, G__law_gate, b__law_gate, k__law_gate⟩ := Pt.gate
  obtain ⟨fd6, G__law_exact, b__law_exact, k__law_exact⟩ := Pt.exact
  obtain ⟨fd7, G__law_deep, b__law_deep, k__law_deep⟩ := Pt.deep
  obtain ⟨fd8, G__law_passes, b__law_passes, k__law_passes⟩ := Pt.passes
  obtain ⟨fd9, G__law_bad_item, b__law_bad_item, k__law_bad_item⟩ := Pt.bad
  obtain ⟨fd10, G_Gate_init, b_Gate_init, k_Gate_init⟩ := Pt.init
  obtain ⟨fd11, G_Gate_len, b_Gate_len, k_Gate_len⟩ := Pt.len
  obtain ⟨fd12, G_Gate_eq, b_Gate_eq, k_Gate_eq⟩ := Pt.eq
  obtain ⟨fd13, G_Gate_contains, b_Gate_contains, k_Gate_contains⟩ := Pt.con
  obtain ⟨fd14, G_Gate_place_of, b_Gate_place_of, k_Gate_place_of⟩ := Pt.pof
  obtain ⟨fd15, G_Gate_wide, b_Gate_wide, k_Gate_wide⟩ := Pt.wide
  obtain ⟨fd16, G__law_number, b__law_number, k__law_number⟩ := Pt.num g
  obtain ⟨cmp, cmt⟩ := GC.cmt
  have FW := G_Gate_wide.raw b_Gate_wide .nil
  have LA := X.LA
  have LR := X.LR
  have LG := X.LG
  have nd := sc_law.nd
  obtain ⟨t5, d5, nxt⟩ := seg5 (E := E) (H0 := H0) (outer := outer) hgd hr T X GC Pt
  refine ⟨_, (pss_cons (ps_set (i := 12) nd rfl (by first | exact Or.inl rfl | exact Or.inr rfl) (pe_call G__law_draw (hr.mono (by omega)) rfl T.m_law_draw k__law_draw b__law_draw .nil pass0 (pa_cons (pv 1) (pa_cons (pe_callB call_len (by rfl) T.nlen (by decide +kernel) (pa_cons (pv 3) pa_nil)) pa_nil))))
  (pss_cons (ps_setLc (i := 13) (own := [("_law_item", 17)]) (g := gName 17) (tt := tYes) rfl nd rfl rfl (sw_true rfl rfl rfl (by decide +kernel)) (pi_list (pv 3)) (blkOk_by (own := [("_law_item", 17)]) (N := N_law) (sc := defScope s_law) (by decide +kernel)) (fun _ _ _ _ _ => (pg_name (i := 17) nd rfl (by first | exact Or.inl rfl | exact Or.inr rfl))) (fun _ _ _ _ _ => pts_nil) (fun _ _ _ _ _ => (pe_callTy (show CallR _ (.type "list") (rLsOf K) from call_list_of) (by rfl) T.nlist (by decide +kernel) (pa_cons (pv 17) pa_nil))))
  (pss_cons (ps_asg (pe_call G__law_bad_item (hr.mono (by omega)) rfl T.m_law_bad_item k__law_bad_item b__law_bad_item .nil pass0 (pa_cons (pv 1) (pa_cons (pe_callB call_len (by rfl) T.nlen (by decide +kernel) (pa_cons (pv 3) pa_nil)) (pa_cons (pv 2) pa_nil)))) (pg_sub (pv 13) (pv 12) set_list))
  (pss_cons (ps_set (i := 14) nd rfl (by first | exact Or.inl rfl | exact Or.inr rfl) (pe_call G__law_draw (hr.mono (by omega)) rfl T.m_law_draw k__law_draw b__law_draw .nil pass0 (pa_cons (pv 1) (pa_cons (pe_callB call_len (by rfl) T.nlen (by decide +kernel) (pa_cons (pv 3) pa_nil)) pa_nil))))
  (pss_cons (ps_if (pt_cmpR op_gt (pv 14) (pv 12) (nomark _)) (pss_one (ps_asg pe_int (pg_sub (pv 13) (pv 14) set_list))) pss_nil)
  d5))))), ?_⟩
  intro Q a p l ga gw bs st z ns v f o4 o7 o8 o9 o11 o12 o13 o14 o15 o16 o17 H ck od q
  have mf := menu_facts z ck.mem
  have zl : z.length ≤ sizeLine := Nat.le_trans mf.2.1 (by decide)
  obtain ⟨Ha, po, hpo, ll⟩ := ck.ll
  have g1 := ck.gd.ne
  have g2 := ck.gd.le
  have ln : bs.length = st.length := ll.each.len
  refine ⟨_, rfl, _, rfl, _, st.length, rfl, .inl ⟨_, SqL.of ll.at_, by rw [List.length_map, ln]⟩, p, _, rfl, ck.src, by omega, by omega, fun j H1 j0 j1 gs1 b1 => ?_⟩
  obtain ⟨k, rfl⟩ : ∃ k : Nat, j = (k : Int) := ⟨j.toNat, by omega⟩
  have hk : k < st.length := by omega
  have ck1 := ck.but b1 gs1
  have od1 := od.but ck.src b1
  have ll1 := ll.but hpo b1
  dsimp only [gName, tSeq, tAsg, List.set_cons_succ, List.set_cons_zero, List.map_cons, List.map_nil]
  refine copy_ll ll1 (by omega) fun D cs H2 LL sm => ?_
  have ck2 := ck1.same sm
  have od2 := od1.same sm
  have ll2 := ll1.same sm
  obtain ⟨po1, hp1⟩ := gs1.some
  refine ⟨_, rfl, _, rfl, _, st.length, rfl, .inl ⟨_, SqL.of ll2.at_, by rw [List.length_map, ln]⟩, _, rfl, p, z, st.length, rfl, ck2.src, mf.1, by omega, g1, g2, fun bv bd H3 tb bb gs3 b3 => ?_⟩
  have ck3 := ck2.but b3 gs3
  have od3 := od2.but ck2.src b3
  have LL3 := LL.but hp1 b3
  have lc : cs.length = st.length := LL3.each.len
  refine ⟨_, rfl, _, rfl, D, _, (k : Int), k, rfl, rfl, LL3.at_, ?_, ?_⟩
  · rw [List.length_map, lc]
    unfold ixN
    rw [if_pos (by omega), if_pos (by omega)]
    rfl
  have fD : H1 D = none := LL.fl
  have Dp : p ≠ D := fun e => by rw [← e, hp1] at fD; cases fD
  have b13 : But p H1 H3 := (But.of sm).trans b3
  have hD2 : H2 D = some _ := LL.at_
  have cD : ∀ c ∈ cs, c ≠ D := fun c hc e => LL.nl (e ▸ hc)
  have cp : ∀ c ∈ cs, c ≠ p := fun c hc e => by
    have := LL.fb c hc
    rw [e, hp1] at this
    cases this
  have E3 : Each H3 cs st := LL3.each
  have E4 : Each (upd H3 D (.lst ((cs.map V.ref).set k bv))) cs st := E3.up fun c hc => upd_ne (cD c hc)
  have t4 : Th (nw H2 (upd H3 D (.lst ((cs.map V.ref).set k bv)))) bv bd := tb.mono (nw_upd hD2)
  have h4 : (upd H3 D (.lst ((cs.map V.ref).set k bv))) D = some (.lst ((cs.map V.ref).set k bv)) := upd_same
  have b14 : But p H1 (upd H3 D (.lst ((cs.map V.ref).set k bv))) := but_updF b13 fD
  have gs4 : Src (upd H3 D (.lst ((cs.map V.ref).set k bv))) p := src_upd gs3 Dp
  show (fun H4 => _) (upd H3 D (.lst ((cs.map V.ref).set k bv)))
  generalize upd H3 D (.lst ((cs.map V.ref).set k bv)) = H4 at E4 t4 h4 b14 gs4 ⊢
  have ck4 := ck1.but b14 gs4
  have od4 := od1.but ck1.src b14
  have ll4 := ll1.but hpo b14
  refine ⟨_, rfl, _, rfl, _, st.length, rfl, .inl ⟨_, SqL.of ll4.at_, by rw [List.length_map, ln]⟩, p, _, rfl, gs4, by omega, by omega, fun j2 H5 i0 i1 gs5 b5 => ?_⟩
  obtain ⟨j, rfl⟩ : ∃ j : Nat, j2 = (j : Int) := ⟨j2.toNat, by omega⟩
  have hj : j < st.length := by omega
  have b15 := b14.trans b5
  have E5 : Each H5 cs st := E4.keep fun c hc o ho => b5 c o ho (cp c hc)
  have hp2 : H2 p = some po1 := sm _ _ hp1
  have t5' : Th (nw H2 H5) bv bd := t4.mono (nw_but hp2 b5)
  have h5 := b5 _ _ h4 Dp.symm
  have z1 := ck.gd.z1 (show z.length ≤ 100 by omega)
  have zc : ((cs.map V.ref).set k bv).length ≤ sizeLine := by
    rw [List.length_set, List.length_map, lc]
    exact Nat.le_trans g2 (by decide)
  have gl := gs_lst ck.gd
  have dl : ∀ d1 : PyData, ((st.map fun it => PyData.list (it.map optD)).set k d1).length = st.length := fun d1 => by rw [List.length_set, List.length_map]
  refine ⟨_, rfl, _, rfl, _, _, rfl, rfl, _, rfl, ite2 (fun c => ?_) (fun c => ?_)⟩
  · have c' : (k : Int) < (j : Int) := of_decide_eq_true c
    refine ⟨_, rfl, _, rfl, D, _, (j : Int), j, rfl, rfl, h5, ?_, ?_⟩
    · rw [List.length_set, List.length_map, lc]
      unfold ixN
      rw [if_pos (by omega), if_pos (by omega)]
      rfl
    · have E6 : Each (upd H5 D (.lst (((cs.map V.ref).set k bv).set j (.int 3)))) cs st := E5.up fun c hc => upd_ne (cD c hc)
      have t6 : Th (nw H2 (upd H5 D (.lst (((cs.map V.ref).set k bv).set j (.int 3))))) bv bd := t5'.mono (nw_upd hD2)
      have b16 : But p H1 (upd H5 D (.lst (((cs.map V.ref).set k bv).set j (.int 3)))) := but_updF b15 fD
      have gs6 := src_upd (o := .lst (((cs.map V.ref).set k bv).set j (.int 3))) gs5 Dp
      have r6 := ThAll.set (Th.int 3) (ThAll.set (t6.mono (nw_from sm)) (E6.thN LL.fb z1) k) j
      refine nxt Q a p l ga gw bs st z ns v (.ref D) k _ f o4 o7 o8 o9 o11 _ o15 o16 o17 _ (ck1.but b16 gs6) (od1.but ck1.src b16) ⟨(Th.lst (by rw [nw_at fD]; exact upd_same) (by rw [List.length_set]; exact zc) r6).mono (nw_wo hp1), ?_, ?_, ⟨bd, ?_, ?_⟩, fun i d hi ed => ?_⟩ q
      · rw [List.length_set, dl]; exact g1
      · rw [List.length_set, dl]; exact g2
      · rw [List.getElem?_set_ne (by omega), List.getElem?_set_self (by rw [List.length_map]; exact hk)]
      · rw [List.length_set, dl]; exact bb
      · rw [List.getElem?_set_ne (by omega), List.getElem?_set_ne (by omega)] at ed
        rw [List.length_set, dl]
        exact gl.items i d ed
  · have r5 := ThAll.set (t5'.mono (nw_from sm)) (E5.thN LL.fb z1) k
    refine nxt Q a p l ga gw bs st z ns v (.ref D) k _ f o4 o7 o8 o9 o11 _ o15 o16 o17 _ (ck1.but b15 gs5) (od1.but ck1.src b15) ⟨(Th.lst (by rw [nw_at fD]; exact h5) zc r5).mono (nw_wo hp1), ?_, ?_, ⟨bd, ?_, ?_⟩, fun i d hi ed => ?_⟩ q
    · rw [dl]; exact g1
    · rw [dl]; exact g2
    · rw [List.getElem?_set_self (by rw [List.length_map]; exact hk)]
    · rw [dl]; exact bb
    · rw [List.getElem?_set_ne (by omega)] at ed
      rw [dl]
      exact gl.items i d ed
end
end As

namespace As
open PySem PySem.Spec PyProof.Rows L2 Ow Builtin.Str PyData
section
variable {P : Program} {w : World} {K : PySem.W.Frag} {mg : Str → Option Value} {base : Heap} {A : Ad}
theorem menu_odd : ∀ z ∈ menuA, rowB z "z" = false ∧ rowB z (z ++ " ") = false ∧ Asc (z ++ " ") ∧ (z ++ " ").length ≤ 10 ∧ strOk (listText [reprText z]) = true ∧ (listText [reprText z]).length ≤ 100 := by decide +kernel
theorem menu_efgh : ∀ z ∈ menuA, asksV (.str (cutS "efgh" none (some (z.length : Int)))) = true ∧ (cutS "efgh" none (some (z.length : Int))).length = z.length ∧ z ≠ cutS "efgh" none (some (z.length : Int)) := by decide +kernel
theorem make_good2 {H1 : Hp} {y : V} {z : Str} {d : PyData} {st : List (List (Option Int))} {x dx : Addr} {R : VK} {E : XK} (hz : asksV (.str z) = true) (zl : z.length ≤ sizeLine) (hy : Th H1 y d) (g : GoodS z.length st) (gs : GS d z.length st) (hx : H1 x = Option.none) (hdx : H1 dx = Option.none)
    (q : ∀ H2, Same H1 H2 → IsG A.c_Gate H2 x z st → R .non H2) : spGInit K A [.ref x, .str z, y] (upd (upd H1 dx (.own x)) x (.ins A.c_Gate dx [])) R E := by
  have s0 : Same H1 (upd (upd H1 dx (.own x)) x (.ins A.c_Gate dx [])) := fun b o hb => by
    rw [upd_ne (ne_of_none hb hx), upd_ne (ne_of_none hb hdx)]
    exact hb
  refine ⟨x, dx, .str z, y, d, rfl, upd_same, known_str zl, hy.mono s0, fun e => (by rw [hz] at e; cases e), fun z' ez _ => ?_⟩
  cases ez
  have l1 := g.ne
  have l2 := g.le
  refine ⟨fun c => absurd ⟨gs.tup, by rw [gs.len]; exact l1, by rw [gs.len]; exact l2⟩ c, fun _ _ _ => ⟨fun k dk e b _ => ?_, fun _ => ⟨gs.dep, gs.pl, fun v H2 bt hs tv => q H2 (fun b o hb => ?_) ⟨dx, v, hs, ?_⟩⟩⟩⟩
  · rw [gs.len, gs.items k dk e] at b
    cases b
  · exact bt b o (s0 b o hb) (ne_of_none hb hx)
  · rw [← gs.deep]
    exact tv
theorem seg3c {cdv : Value} {A' : Around} {outer : List Env} {s : Shared} {H0 : Hp} {E : XK} {g : List Code} (hgd : A'.guards = some g) (hr : Room 8 (A'.deeper (envOfC "law" (defScope s_law) s.heap.objs.size A.f_law cdv)))
    (T : Tx K mg A) (X : Ex K mg A) (GC : GCls K A) (Pt : Parts P w K mg base A) : ∃ t, PSs (XL P w K mg base A cdv A' outer s H0 E) ((defBody s_law).drop 16) t ∧
    ∀ (Q : VK) (a p l ga gw : Addr) (bs : List Addr) (st : List (List (Option Int))) (z : Str) (ns : List Int) (v : V) (D : Addr) (st2 : List (List (Option Int))) (f : List Code → Str) (o4 o7 o8 o9 o12 o13 o14 o15 o16 o17 : Option V) (H : Hp), CK K A.c_Gate H a p l ga gw bs st z ns → OD H z v f → Th H (.ref D) (GL st2) → GoodS z.length st2 → st ≠ st2 → (∀ H', Q (.bl true) H') →
      t { nx := fun _ H' => Q .non H', rt := Q } [some (.ref a), some (.ref p), some (.str z), some (.ref l), o4, some (.ref ga), some (.ref gw), o7, o8, o9, some v, some (.ref D), o12, o13, o14, o15, o16, o17] H := by
  obtain ⟨fd1, G__law_source, b__law_source, k__law_source⟩ := Pt.src
  obtain ⟨fd2, G__law_asks, b__law_asks, k__law_asks⟩ := Pt.asks
  obtain ⟨fd3, G__law_row, b__law_row, k__law_row⟩ := Pt.row
  obtain ⟨fd4, G__law_draw, b__law_draw, k__law_draw⟩ := Pt.draw
  obtain ⟨fd5, G__law_gate, b__law_gate, k__law_gate⟩ := Pt.gate
  obtain ⟨fd6, G__law_exact, b__law_exact, k__law_exact⟩ := Pt.exact
  obtain ⟨fd7, G__law_deep, b__law_deep, k__law_deep⟩ := Pt.deep
  obtain ⟨fd8, G__law_passes, b__law_passes, k__law_passes⟩ := Pt.passes
  obtain ⟨fd9, G__law_bad_item, b__law_bad_item, k__law_bad_item⟩ := Pt.bad
  obtain ⟨fd10, G_Gate_init, b_Gate_init, k_Gate_init⟩ := Pt.init
  obtain ⟨fd11, G_Gate_len, b_Gate_len, k_Gate_len⟩ := Pt.len
  obtain ⟨fd12, G_Gate_eq, b_Gate_eq, k_Gate_eq⟩ := Pt.eq
  obtain ⟨fd13, G_Gate_contains, b_Gate_contains, k_Gate_contains⟩ := Pt.con
  obtain ⟨fd14, G_Gate_place_of, b_Gate_place_of, k_Gate_place_of⟩ := Pt.pof
  obtain ⟨fd15, G_Gate_wide, b_Gate_wide, k_Gate_wide⟩ := Pt.wide
  obtain ⟨fd16, G__law_number, b__law_number, k__law_number⟩ := Pt.num g
  obtain ⟨cmp, cmt⟩ := GC.cmt
  have FW := G_Gate_wide.raw b_Gate_wide .nil
  have LA := X.LA
  have LR := X.LR
  have LG := X.LG
  have nd := sc_law.nd
  obtain ⟨t4, d4, nxt⟩ := seg4 (E := E) (H0 := H0) (outer := outer) hgd hr T X GC Pt
  refine ⟨_, (pss_cons (ps_if (PW.pt (pw_or (pt_cmpR op_notBl (pe_cmpR (op_eqO G_Gate_eq (hr.mono (by omega)) GC.eqF GC.eqN b_Gate_eq pass0) (pv 5) (pe_make GC.mkr G_Gate_init (hr.mono (by omega)) (by rfl) T.mGate b_Gate_init .nil passL (pa_cons (pv 2) (pa_cons (pe_call G__law_deep (hr.mono (by omega)) rfl T.m_law_deep k__law_deep b__law_deep .nil pass0 (pa_cons (pv 3) pa_nil)) pa_nil))) (nomark _)) pe_bl (nomark _)) (pw_or1 (pt_cmpR op_notBl (pe_cmpR (op_eqO G_Gate_eq (hr.mono (by omega)) GC.eqF GC.eqN b_Gate_eq pass0) (pv 5) (pe_make GC.mkr G_Gate_init (hr.mono (by omega)) (by rfl) T.mGate b_Gate_init .nil passL (pa_cons (pv 2) (pa_cons (pv 11) pa_nil))) (nomark _)) pe_bl (nomark _))))) (pss_one (ps_ret pe_bl)) pss_nil)
  (pss_cons (ps_if (PW.pt (pw_or (pt_cmpR op_notBl (pe_cmpR (op_eqO G_Gate_eq (hr.mono (by omega)) GC.eqF GC.eqN b_Gate_eq pass0) (pv 5) (pe_make GC.mkr G_Gate_init (hr.mono (by omega)) (by rfl) T.mGate b_Gate_init .nil passL (pa_cons (pe_slice sl_str pe_str po_none (po_some (pe_callB call_len_str (by rfl) T.nlen (by decide +kernel) (pa_cons (pv 2) pa_nil)))) (pa_cons (pv 3) pa_nil))) (nomark _)) pe_bl (nomark _)) (pw_or1 (pt_cmpR op_notBl (pe_cmpR (op_eqO G_Gate_eq (hr.mono (by omega)) GC.eqF GC.eqN b_Gate_eq pass0) (pv 5) (pv 2) (nomark _)) pe_bl (nomark _))))) (pss_one (ps_ret pe_bl)) pss_nil)
  d4)), ?_⟩
  intro Q a p l ga gw bs st z ns v D st2 f o4 o7 o8 o9 o12 o13 o14 o15 o16 o17 H ck od tD gd2 nst q
  have mf := menu_facts z ck.mem
  have zl : z.length ≤ sizeLine := Nat.le_trans mf.2.1 (by decide)
  obtain ⟨Ha, po, hpo, ll⟩ := ck.ll
  have g1 := ck.gd.ne
  have g2 := ck.gd.le
  have ln : bs.length = st.length := ll.each.len
  have me := menu_efgh z ck.mem
  have gl := gs_lst ck.gd
  have th0 : Th H (.ref l) (GL st) := ll.th (ck.gd.z1 (by omega)) ck.gd.z2
  have tyG : ∀ {H' : Hp} {g2 : Addr} {z2 : Str} {s2 : List (List (Option Int))}, IsG A.c_Gate H' g2 z2 s2 → TyX K H' (.ref g2) (.ref A.c_Gate) := fun {H' g2 z2 s2} h => by
    obtain ⟨dx, v, hg, _⟩ := h
    exact .base (.ins hg GC.cls GC.hcl GC.hgs GC.htk GC.hm)
  have atG : ∀ {H' : Hp}, Same H H' → IsG A.c_Gate H' ga z st := fun sm => ck.ig.keep (KeepX.of sm)
  -- the same gate
  refine ⟨_, rfl, _, rfl, _, rfl, .ref l, GL st, rfl, th0, gl.dep, gl.pl, fun v1 H1 s1 t1 => fun e2 x2 he2 hx2 _ => make_good2 (d := GT st) mf.2.2.2 zl (by have h := t1.th; rw [gl.deep] at h; exact h) ck.gd (gs_tup ck.gd) he2 hx2 fun H2 s2 i2 => ⟨rfl, ?_⟩⟩
  have s12 := s1.trans s2
  obtain ⟨dx, w1, hg, tv⟩ := atG s12
  refine ⟨ga, dx, _, _, rfl, hg, tyG i2, GC.nfG, ga, _, z, st, rfl, ⟨dx, w1, hg, tv⟩, .inr ⟨e2, z, st, rfl, i2, ⟨_, rfl, ?_⟩⟩⟩
  rw [decide_eq_true rfl, decide_eq_true rfl]
  refine ⟨true, true, rfl, rfl, _, rfl, iteF ?_⟩
  -- another gate
  have od2 := od.same s12
  refine ⟨_, rfl, _, rfl, _, rfl, fun e3 x3 he3 hx3 _ => make_good2 mf.2.2.2 zl (tD.mono s12) gd2 (gs_lst gd2) he3 hx3 fun H3 s3 i3 => ⟨rfl, ?_⟩⟩
  have s13 := s12.trans s3
  obtain ⟨dx3, w3, hg3, tv3⟩ := atG s13
  refine ⟨ga, dx3, _, _, rfl, hg3, tyG i3, GC.nfG, ga, _, z, st, rfl, ⟨dx3, w3, hg3, tv3⟩, .inr ⟨e3, z, st2, rfl, i3, ⟨_, rfl, ?_⟩⟩⟩
  rw [decide_eq_true rfl, decide_eq_false nst]
  refine ⟨false, false, rfl, rfl, _, rfl, iteF ?_⟩
  -- a gate of other asks
  have g3 : GoodS (cutS "efgh" none (some (z.length : Int))).length st := by rw [me.2.1]; exact ck.gd
  have gs3 : GS (GL st) (cutS "efgh" none (some (z.length : Int))).length st := by rw [me.2.1]; exact gl
  have zl3 : (cutS "efgh" none (some (z.length : Int))).length ≤ sizeLine := by rw [me.2.1]; exact zl
  refine ⟨_, rfl, _, rfl, z, rfl, zl, _, rfl, _, rfl, (by decide +kernel), _, rfl, fun e4 x4 he4 hx4 _ => make_good2 me.1 zl3 (th0.mono s13) g3 gs3 he4 hx4 fun H4 s4 i4 => ⟨rfl, ?_⟩⟩
  have s14 := s13.trans s4
  obtain ⟨dx4, w4, hg4, tv4⟩ := atG s14
  refine ⟨ga, dx4, _, _, rfl, hg4, tyG i4, GC.nfG, ga, _, z, st, rfl, ⟨dx4, w4, hg4, tv4⟩, .inr ⟨e4, _, st, rfl, i4, ⟨_, rfl, ?_⟩⟩⟩
  rw [decide_eq_false me.2.2]
  refine ⟨false, false, rfl, rfl, _, rfl, iteF ?_⟩
  -- no gate
  refine ⟨_, rfl, _, rfl, ga, dx4, _, _, rfl, hg4, .base (.str _), GC.nfS, ga, _, z, st, rfl, ⟨dx4, w4, hg4, tv4⟩, .inl ⟨z, rfl, ⟨_, rfl, ?_⟩⟩⟩
  refine ⟨false, false, rfl, rfl, _, rfl, iteF ?_⟩
  exact nxt Q a p l ga gw bs st z ns v f o4 o7 o8 o9 _ o12 o13 o14 o15 o16 o17 H4 (ck.same s14) (od.same s14) q
end
end As

namespace As
open PySem PySem.Spec PyProof.Rows L2 Ow Builtin.Str PyData
section
variable {P : Program} {w : World} {K : PySem.W.Frag} {mg : Str → Option Value} {base : Heap} {A : Ad}
theorem at_last {α : Type} {xs : List α} {n : Nat} {x : α} (hn : xs.length = n + 1) (hx : xs[n]? = some x) : atI xs (-1) = some x := by
  unfold atI ixN
  rw [if_neg (by decide), if_pos (by omega), Option.bind_some, hn, show ((-1 : Int) + ((n + 1 : Nat) : Int)).toNat = n by omega]
  exact hx
theorem set_ne {α : Type} : ∀ {l : List α} {i : Nat} {x y : α}, l[i]? = some x → x ≠ y → l ≠ l.set i y
  | [], _, _, _, h, _ => by simp at h
  | a :: l, 0, x, y, h, n => fun e => by
    obtain rfl : a = x := Option.some.inj h
    exact n (List.cons.inj e).1
  | a :: l, i + 1, x, y, h, n => fun e => set_ne (l := l) (i := i) h n (List.cons.inj e).2
theorem seg3b {cdv : Value} {A' : Around} {outer : List Env} {s : Shared} {H0 : Hp} {E : XK} {g : List Code} (hgd : A'.guards = some g) (hr : Room 8 (A'.deeper (envOfC "law" (defScope s_law) s.heap.objs.size A.f_law cdv)))
    (T : Tx K mg A) (X : Ex K mg A) (GC : GCls K A) (Pt : Parts P w K mg base A) : ∃ t, PSs (XL P w K mg base A cdv A' outer s H0 E) ((defBody s_law).drop 14) t ∧
    ∀ (Q : VK) (a p l ga gw : Addr) (bs : List Addr) (st : List (List (Option Int))) (z : Str) (ns : List Int) (v : V) (f : List Code → Str) (o4 o7 o8 o9 o11 o12 o13 o14 o15 o16 o17 : Option V) (H : Hp), CK K A.c_Gate H a p l ga gw bs st z ns → OD H z v f → (∀ H', Q (.bl true) H') →
      t { nx := fun _ H' => Q .non H', rt := Q } [some (.ref a), some (.ref p), some (.str z), some (.ref l), o4, some (.ref ga), some (.ref gw), o7, o8, o9, some v, o11, o12, o13, o14, o15, o16, o17] H := by
  obtain ⟨fd1, G__law_source, b__law_source, k__law_source⟩ := Pt.src
  obtain ⟨fd2, G__law_asks, b__law_asks, k__law_asks⟩ := Pt.asks
  obtain ⟨fd3, G__law_row, b__law_row, k__law_row⟩ := Pt.row
  obtain ⟨fd4, G__law_draw, b__law_draw, k__law_draw⟩ := Pt.draw
  obtain ⟨fd5, G__law_gate, b__law_gate, k__law_gate⟩ := Pt.gate
  obtain ⟨fd6, G__law_exact, b__law_exact, k__law_exact⟩ := Pt.exact
  obtain ⟨fd7, G__law_deep, b__law_deep, k__law_deep⟩ := Pt.deep
  obtain ⟨fd8, G__law_passes, b__law_passes, k__law_passes⟩ := Pt.passes
  obtain ⟨fd9, G__law_bad_item, b__law_bad_item, k__law_bad_item⟩ := Pt.bad
  obtain ⟨fd10, G_Gate_init, b_Gate_init, k_Gate_init⟩ := Pt.init
  obtain ⟨fd11, G_Gate_len, b_Gate_len, k_Gate_len⟩ := Pt.len
  obtain ⟨fd12, G_Gate_eq, b_Gate_eq, k_Gate_eq⟩ := Pt.eq
  obtain ⟨fd13, G_Gate_contains, b_Gate_contains, k_Gate_contains⟩ := Pt.con
  obtain ⟨fd14, G_Gate_place_of, b_Gate_place_of, k_Gate_place_of⟩ := Pt.pof
  obtain ⟨fd15, G_Gate_wide, b_Gate_wide, k_Gate_wide⟩ := Pt.wide
  obtain ⟨fd16, G__law_number, b__law_number, k__law_number⟩ := Pt.num g
  obtain ⟨cmp, cmt⟩ := GC.cmt
  have FW := G_Gate_wide.raw b_Gate_wide .nil
  have LA := X.LA
  have LR := X.LR
  have LG := X.LG
  have nd := sc_law.nd
  obtain ⟨t4, d4, nxt⟩ := seg3c (E := E) (H0 := H0) (outer := outer) hgd hr T X GC Pt
  refine ⟨_, (pss_cons (ps_setLc (i := 11) (own := [("_law_item", 17)]) (g := gName 17) (tt := tYes) rfl nd rfl rfl (sw_true rfl rfl rfl (by decide +kernel)) (pi_list (pv 3)) (blkOk_by (own := [("_law_item", 17)]) (N := N_law) (sc := defScope s_law) (by decide +kernel)) (fun _ _ _ _ _ => (pg_name (i := 17) nd rfl (by first | exact Or.inl rfl | exact Or.inr rfl))) (fun _ _ _ _ _ => pts_nil) (fun _ _ _ _ _ => (pe_callTy (show CallR _ (.type "list") (rLsOf K) from call_list_of) (by rfl) T.nlist (by decide +kernel) (pa_cons (pv 17) pa_nil))))
  (pss_cons (ps_if (pt_cmpR op_isN (pe_ix ix_list (pe_ix ix_list (pv 11) (pe_un un_neg pe_int) (fun _ _ => rfl)) pe_int (fun _ _ => rfl)) pe_non (nomark _)) (pss_one (ps_asg pe_int (pg_sub (pe_ix ix_list (pv 11) (pe_un un_neg pe_int) (fun _ _ => rfl)) pe_int set_list))) (pss_one (ps_asg pe_non (pg_sub (pe_ix ix_list (pv 11) (pe_un un_neg pe_int) (fun _ _ => rfl)) pe_int set_list))))
  d4)), ?_⟩
  intro Q a p l ga gw bs st z ns v f o4 o7 o8 o9 o11 o12 o13 o14 o15 o16 o17 H ck od q
  have mf := menu_facts z ck.mem
  have zl : z.length ≤ sizeLine := Nat.le_trans mf.2.1 (by decide)
  obtain ⟨Ha, po, hpo, ll⟩ := ck.ll
  have g1 := ck.gd.ne
  have g2 := ck.gd.le
  have ln : bs.length = st.length := ll.each.len
  dsimp only [gName, tSeq, tAsg, List.set_cons_succ, List.set_cons_zero, List.map_cons, List.map_nil]
  refine copy_ll ll (by omega) fun D cs H1 LL sm => ?_
  obtain ⟨n, hn⟩ : ∃ n, st.length = n + 1 := ⟨st.length - 1, by omega⟩
  have lc : cs.length = st.length := LL.each.len
  have hcl : cs[n]? = some (cs[n]'(by omega)) := List.getElem?_eq_getElem (by omega)
  obtain ⟨cl, ecl⟩ : ∃ cl, cs[n]? = some cl := ⟨_, hcl⟩
  obtain ⟨it, eit, hit⟩ := LL.each.get ecl
  have lit : it.length = z.length := ck.gd.len it (List.mem_of_getElem? eit)
  obtain ⟨o0, eo⟩ : ∃ o, it[0]? = some o := ⟨_, List.getElem?_eq_getElem (by omega)⟩
  have e1 : atI (cs.map V.ref) (-1) = some (.ref cl) := at_last (by rw [List.length_map, lc, hn]) (by rw [List.getElem?_map, ecl]; rfl)
  have e0 : (it.map optV)[0]? = some (optV o0) := by rw [List.getElem?_map, eo]; rfl
  have clm : cl ∈ cs := List.mem_of_getElem? ecl
  have fcl : H cl = Option.none := LL.fb cl clm
  have Dcl : D ≠ cl := fun e => LL.nl (e ▸ clm)
  have pcl : p ≠ cl := fun e => by
    obtain ⟨o, ho⟩ := ck.src.some
    rw [← e, ho] at fcl
    cases fcl
  refine ⟨_, rfl, 1, rfl, D, _, -1, .ref cl, rfl, rfl, SqL.of LL.at_, e1, cl, _, 0, optV o0, rfl, rfl, SqL.of hit, atI_nat (j := 0) e0, rfl, _, rfl, ?_⟩
  have rest : ∀ o1 : Option Int, o0 ≠ o1 → (∀ q, o1 = some q → q = 0) → ∀ o17', t4 { nx := fun _ H' => Q .non H', rt := Q } [some (.ref a), some (.ref p), some (.str z), some (.ref l), o4, some (.ref ga), some (.ref gw), o7, o8, o9, some v, some (.ref D), o12, o13, o14, o15, o16, o17'] (upd H1 cl (.lst ((it.map optV).set 0 (optV o1)))) := by
    intro o1 n1 z1 o17'
    have es : (it.map optV).set 0 (optV o1) = (it.set 0 o1).map optV := by rw [List.map_set]
    rw [es]
    have bb : But p H (upd H1 cl (.lst ((it.set 0 o1).map optV))) := but_updF (But.of sm) fcl
    have ss : Src (upd H1 cl (.lst ((it.set 0 o1).map optV))) p := src_upd (ck.src.same sm) pcl
    have LL2 : LLF H (upd H1 cl (.lst ((it.set 0 o1).map optV))) D cs (st.set n (it.set 0 o1)) := ⟨by rw [upd_ne Dcl]; exact LL.at_, LL.each.put LL.nd ecl, LL.nd, LL.nl, LL.fl, LL.fb⟩
    have gd2 : GoodS z.length (st.set n (it.set 0 o1)) := by
      refine ⟨by rw [List.length_set]; exact g1, by rw [List.length_set]; exact g2, fun x hx => ?_, fun x hx q hq => ?_⟩
      · rcases List.mem_or_eq_of_mem_set hx with hx | hx
        · exact ck.gd.len x hx
        · rw [hx, List.length_set, lit]
      · rw [List.length_set]
        rcases List.mem_or_eq_of_mem_set hx with hx | hx
        · exact ck.gd.ok x hx q hq
        · rw [hx] at hq
          rcases List.mem_or_eq_of_mem_set hq with hq | hq
          · exact ck.gd.ok it (List.mem_of_getElem? eit) q hq
          · have := z1 q hq.symm
            omega
    exact nxt Q a p l ga gw bs st z ns v D (st.set n (it.set 0 o1)) f o4 o7 o8 o9 o12 o13 o14 o15 o16 o17' _ (ck.but bb ss) (od.but ck.src bb) (LL2.th (gd2.z1 (by omega)) gd2.z2) gd2 (set_ne eit (set_ne eo n1)) q
  have ix0 : ixN (it.map optV).length 0 = some 0 := by
    rw [List.length_map, lit]
    unfold ixN
    rw [if_pos (Int.le_refl 0), if_pos (by omega)]
    rfl
  cases o0 with
  | none =>
    refine iteY rfl ?_
    exact ⟨_, rfl, 1, rfl, D, _, -1, .ref cl, rfl, rfl, SqL.of LL.at_, e1, cl, _, 0, 0, rfl, rfl, hit, ix0, rest (some 0) nofun (fun q e => (Option.some.inj e).symm) _⟩
  | some q0 =>
    refine iteN nofun ?_
    exact ⟨_, rfl, 1, rfl, D, _, -1, .ref cl, rfl, rfl, SqL.of LL.at_, e1, cl, _, 0, 0, rfl, rfl, hit, ix0, rest Option.none nofun nofun _⟩
theorem seg3a {cdv : Value} {A' : Around} {outer : List Env} {s : Shared} {H0 : Hp} {E : XK} {g : List Code} (hgd : A'.guards = some g) (hr : Room 8 (A'.deeper (envOfC "law" (defScope s_law) s.heap.objs.size A.f_law cdv)))
    (T : Tx K mg A) (X : Ex K mg A) (GC : GCls K A) (Pt : Parts P w K mg base A) : ∃ t, PSs (XL P w K mg base A cdv A' outer s H0 E) ((defBody s_law).drop 12) t ∧
    ∀ (Q : VK) (a p l ga gw : Addr) (bs : List Addr) (st : List (List (Option Int))) (z : Str) (ns : List Int) (o4 o7 o8 o9 o10 o11 o12 o13 o14 o15 o16 o17 : Option V) (H : Hp), CK K A.c_Gate H a p l ga gw bs st z ns → (∀ H', Q (.bl true) H') →
      t { nx := fun _ H' => Q .non H', rt := Q } [some (.ref a), some (.ref p), some (.str z), some (.ref l), o4, some (.ref ga), some (.ref gw), o7, o8, o9, o10, o11, o12, o13, o14, o15, o16, o17] H := by
  obtain ⟨fd1, G__law_source, b__law_source, k__law_source⟩ := Pt.src
  obtain ⟨fd2, G__law_asks, b__law_asks, k__law_asks⟩ := Pt.asks
  obtain ⟨fd3, G__law_row, b__law_row, k__law_row⟩ := Pt.row
  obtain ⟨fd4, G__law_draw, b__law_draw, k__law_draw⟩ := Pt.draw
  obtain ⟨fd5, G__law_gate, b__law_gate, k__law_gate⟩ := Pt.gate
  obtain ⟨fd6, G__law_exact, b__law_exact, k__law_exact⟩ := Pt.exact
  obtain ⟨fd7, G__law_deep, b__law_deep, k__law_deep⟩ := Pt.deep
  obtain ⟨fd8, G__law_passes, b__law_passes, k__law_passes⟩ := Pt.passes
  obtain ⟨fd9, G__law_bad_item, b__law_bad_item, k__law_bad_item⟩ := Pt.bad
  obtain ⟨fd10, G_Gate_init, b_Gate_init, k_Gate_init⟩ := Pt.init
  obtain ⟨fd11, G_Gate_len, b_Gate_len, k_Gate_len⟩ := Pt.len
  obtain ⟨fd12, G_Gate_eq, b_Gate_eq, k_Gate_eq⟩ := Pt.eq
  obtain ⟨fd13, G_Gate_contains, b_Gate_contains, k_Gate_contains⟩ := Pt.con
  obtain ⟨fd14, G_Gate_place_of, b_Gate_place_of, k_Gate_place_of⟩ := Pt.pof
  obtain ⟨fd15, G_Gate_wide, b_Gate_wide, k_Gate_wide⟩ := Pt.wide
  obtain ⟨fd16, G__law_number, b__law_number, k__law_number⟩ := Pt.num g
  obtain ⟨cmp, cmt⟩ := GC.cmt
  have FW := G_Gate_wide.raw b_Gate_wide .nil
  have LA := X.LA
  have LR := X.LR
  have LG := X.LG
  have nd := sc_law.nd
  obtain ⟨t4, d4, nxt⟩ := seg3b (E := E) (H0 := H0) (outer := outer) hgd hr T X GC Pt
  refine ⟨_, (pss_cons (ps_set (i := 10) nd rfl (by first | exact Or.inl rfl | exact Or.inr rfl) (pe_ix ix_list (pe_lst (pa_cons pe_str (pa_cons pe_non (pa_cons pe_int (pa_cons (pe_lst (pa_cons (pv 2) pa_nil)) (pa_cons (pe_op op_add_str (pv 2) pe_str) (pa_cons (pe_tup pa_nil) (pa_cons pe_bl pa_nil)))))))) (pe_call G__law_draw (hr.mono (by omega)) rfl T.m_law_draw k__law_draw b__law_draw .nil pass0 (pa_cons (pv 1) (pa_cons pe_int pa_nil))) (fun _ _ => rfl)))
  (pss_cons (ps_if (pt_cmpR op_notBl (pe_cmpR (op_inO G_Gate_contains (hr.mono (by omega)) GC.conF GC.conN b_Gate_contains pass0) (pv 10) (pv 5) (by rfl)) pe_bl (nomark _)) (pss_one (ps_ret pe_bl)) pss_nil)
  d4)), ?_⟩
  intro Q a p l ga gw bs st z ns o4 o7 o8 o9 o10 o11 o12 o13 o14 o15 o16 o17 H ck q
  have mf := menu_facts z ck.mem
  have zl : z.length ≤ sizeLine := Nat.le_trans mf.2.1 (by decide)
  obtain ⟨Ha, po, hpo, ll⟩ := ck.ll
  have g1 := ck.gd.ne
  have g2 := ck.gd.le
  have ln : bs.length = st.length := ll.each.len
  have mo := menu_odd z ck.mem
  refine ⟨_, rfl, (by show 1 ≤ sizeLine; decide), fun m1 h1 => ?_⟩
  have y1 := same_new (o := .lst [.str z]) h1
  have e1 : (upd H m1 (.lst [.str z])) m1 = some (.lst [.str z]) := upd_same
  generalize upd H m1 (.lst [.str z]) = H1 at y1 e1 ⊢
  refine ⟨_, rfl, _, _, rfl, rfl, Nat.le_trans (show z.length + 1 ≤ 4 by omega) (by decide), (by show 0 ≤ sizeLine; decide), fun m2 h2 => ?_⟩
  have y2 := same_new (o := .tup []) h2
  have e2 : (upd H1 m2 (.tup [])) m2 = some (.tup []) := upd_same
  show (fun H2 => _) (upd H1 m2 (.tup []))
  generalize upd H1 m2 (.tup []) = H2 at y2 e2 ⊢
  refine ⟨(by show 7 ≤ sizeLine; decide), fun mm hm => ?_⟩
  have y3 := same_new (o := .lst [V.str "z", .non, .int 5, .ref m1, .str (z ++ " "), .ref m2, .bl true]) hm
  have hM : (upd H2 mm (.lst [V.str "z", .non, .int 5, .ref m1, .str (z ++ " "), .ref m2, .bl true])) mm = some (.lst [V.str "z", .non, .int 5, .ref m1, .str (z ++ " "), .ref m2, .bl true]) := upd_same
  show tCall spDraw _ _ _ _ (upd H2 mm (.lst [V.str "z", .non, .int 5, .ref m1, .str (z ++ " "), .ref m2, .bl true])) _
  generalize upd H2 mm (.lst [V.str "z", .non, .int 5, .ref m1, .str (z ++ " "), .ref m2, .bl true]) = H3 at y3 hM ⊢
  have y13 : Same H H3 := y1.trans (y2.trans y3)
  have mp : mm ≠ p := by
    obtain ⟨o, ho⟩ := ck.src.some
    exact (ne_of_none ho (y1.free (y2.free hm))).symm
  refine ⟨_, rfl, p, 7, rfl, ck.src.same y13, by decide, by decide, fun j H5 j0 j1 g5 b5 => ?_⟩
  obtain ⟨i, rfl⟩ : ∃ i : Nat, j = (i : Int) := ⟨j.toNat, by omega⟩
  have one : ∃ v f, [V.str "z", .non, .int 5, .ref m1, .str (z ++ " "), .ref m2, .bl true][i]? = some v ∧ OD H3 z v f := by
    have hi : i = 0 ∨ i = 1 ∨ i = 2 ∨ i = 3 ∨ i = 4 ∨ i = 5 ∨ i = 6 := by omega
    rcases hi with rfl | rfl | rfl | rfl | rfl | rfl | rfl
    · exact ⟨_, _, rfl, Rp.str (by decide +kernel) (by decide +kernel), (fun y e => by cases e; decide), mo.1⟩
    · exact ⟨_, _, rfl, Rp.non, (fun y e => nomatch e), rfl⟩
    · exact ⟨_, _, rfl, Rp.int (by decide +kernel) (by decide +kernel), (fun y e => nomatch e), rfl⟩
    · exact ⟨_, _, rfl, Rp.lst (y3 _ _ (y2 _ _ e1)) mf.2.2.1 (by omega) mo.2.2.2.2.1 (Nat.le_trans mo.2.2.2.2.2 (by decide)), (fun y e => nomatch e), rfl⟩
    · exact ⟨_, _, rfl, Rp.str mo.2.2.1 (by omega), (fun y e => by cases e; exact Nat.le_trans mo.2.2.2.1 (by decide)), mo.2.1⟩
    · exact ⟨_, _, rfl, Rp.tup (y3 _ _ e2), (fun y e => nomatch e), rfl⟩
    · exact ⟨_, _, rfl, Rp.bl, (fun y e => nomatch e), rfl⟩
  obtain ⟨v, f, ev, od3⟩ := one
  have ck3 := ck.same y13
  have od5 := od3.but ck3.src b5
  have ck5 := ck3.but b5 g5
  refine ⟨mm, _, _, v, rfl, rfl, SqL.of (b5 _ _ hM mp), atI_nat ev, ?_⟩
  obtain ⟨dx, w1, hg, tv⟩ := ck5.ig
  refine ⟨_, rfl, _, rfl, ga, dx, _, rfl, hg, ga, v, z, st, rfl, ⟨dx, w1, hg, tv⟩, ck.gd, menu_finds z ck.mem, Rp.known od5.rp od5.len, fun H6 s6 => ⟨_, rfl, ?_⟩⟩
  have ei : isInB z st v = false := by
    unfold isInB
    rw [od3.no, Bool.false_and]
  rw [ei]
  refine ⟨false, false, rfl, rfl, _, rfl, iteF ?_⟩
  exact nxt Q a p l ga gw bs st z ns v f o4 o7 o8 o9 o11 o12 o13 o14 o15 o16 o17 H6 (ck5.same s6) (od5.same s6) q
end
end As

namespace As
open PySem PySem.Spec PyProof.Rows L2 Ow Builtin.Str PyData
section
variable {P : Program} {w : World} {K : PySem.W.Frag} {mg : Str → Option Value} {base : Heap} {A : Ad}
theorem walk_wide {a : Str} {n : Nat} (hn : a.length = n) : ∀ l : List Nat, (∀ c ∈ l, Finds a c) → walkG a (wideS n) 0 l = some 0
  | [], _ => rfl
  | c :: r, h => by
    obtain ⟨j, ej, hj⟩ := h c List.mem_cons_self
    have e : stepAt (wideS n) 0 (fnd a c).toNat = some 0 := by
      rw [ej, Int.toNat_natCast]
      unfold stepAt wideS
      rw [List.getD_eq_getElem?_getD, List.getD_eq_getElem?_getD]
      show ((List.replicate n (some 0))[j]?.getD Option.none) = some 0
      rw [List.getElem?_replicate, if_pos (by omega)]
      rfl
    rw [walkG, e]
    exact walk_wide hn r fun c hc => h c (List.mem_cons_of_mem _ hc)
def natD : Option Nat → PyData
  | .none => .none
  | some p => .int p
theorem dt_nat {H : Hp} (o : Option Nat) : Dt H (natV o) (natD o) := by
  cases o with
  | none => exact .non
  | some p => exact .int _
theorem dep_nat (o : Option Nat) : (natD o).depth ≤ 2 := by
  cases o <;> (unfold natD; rw [PyData.depth]; omega)
/-- ((0,) * len(asks),) *-/
theorem wide_tup {H1 : Hp} {σ : L2.St} {i : Nat} {z : Str} {Q : VK} (hs : σ[i]? = some (some (.str z))) (h1 : 1 ≤ z.length) (h2 : z.length ≤ 1000) (q : ∀ v H', Same H1 H' → Tt H' v (GT (wideS z.length)) → Q v H') :
    tTup (tCons (tOp (rRepN K) (tTup (tCons (tC (V.int 0)) tNil)) (tCB (fun xs H Q => ∃ z, xs = [V.str z] ∧ z.length ≤ sizeLine ∧ Q (V.int ↑z.length) H) (tCons (tVar i) tNil))) tNil) σ H1 Q := by
  have hz : z.length ≤ sizeLine := Nat.le_trans h2 (by decide)
  refine ⟨(by show 1 ≤ sizeLine; decide), fun l hl => ?_⟩
  have s1 := same_new (o := .tup [.int 0]) hl
  have fin : ∀ p H2 xs, Same H1 H2 → H2 p = some (.tup xs) → xs = List.replicate z.length (.int 0) → 1 ≤ sizeLine ∧ ∀ t, H2 t = Option.none → Q (.ref t) (upd H2 t (.tup [.ref p])) := by
    intro p H2 xs s2 hp e
    refine ⟨by decide, fun t ht => q _ _ (s2.trans (same_new ht)) (.tup upd_same (by show 1 ≤ sizeLine; decide) (.cons (.tup (same_new ht _ _ hp) (by rw [e, List.length_replicate]; exact hz) ?_) .nil))⟩
    subst e
    rw [List.map_replicate]
    generalize z.length = n
    induction n with
    | zero => exact .nil
    | succ n ih => exact .cons (.int 0) ih
  refine ⟨_, hs, z, rfl, hz, l, z.length, [.int 0], rfl, rfl, SqT.of upd_same, nofun, h1, h2, by decide, fun e => ?_, fun p hp => ?_⟩
  · exact fin l _ [.int 0] s1 upd_same (by rw [e]; rfl)
  · exact fin p _ _ (s1.trans (same_new hp)) upd_same (by simp)
theorem seg2b {cdv : Value} {A' : Around} {outer : List Env} {s : Shared} {H0 : Hp} {E : XK} {g : List Code} (hgd : A'.guards = some g) (hr : Room 8 (A'.deeper (envOfC "law" (defScope s_law) s.heap.objs.size A.f_law cdv)))
    (T : Tx K mg A) (X : Ex K mg A) (GC : GCls K A) (Pt : Parts P w K mg base A) : ∃ t, PSs (XL P w K mg base A cdv A' outer s H0 E) ((defBody s_law).drop 11) t ∧
    ∀ (Q : VK) (a p l ga gw : Addr) (bs : List Addr) (st : List (List (Option Int))) (z : Str) (ns : List Int) (o4 o7 o8 o9 o10 o11 o12 o13 o14 o15 o16 o17 : Option V) (H : Hp), CK K A.c_Gate H a p l ga gw bs st z ns → (∀ H', Q (.bl true) H') →
      t { nx := fun _ H' => Q .non H', rt := Q } [some (.ref a), some (.ref p), some (.str z), some (.ref l), o4, some (.ref ga), some (.ref gw), o7, o8, o9, o10, o11, o12, o13, o14, o15, o16, o17] H := by
  obtain ⟨fd1, G__law_source, b__law_source, k__law_source⟩ := Pt.src
  obtain ⟨fd2, G__law_asks, b__law_asks, k__law_asks⟩ := Pt.asks
  obtain ⟨fd3, G__law_row, b__law_row, k__law_row⟩ := Pt.row
  obtain ⟨fd4, G__law_draw, b__law_draw, k__law_draw⟩ := Pt.draw
  obtain ⟨fd5, G__law_gate, b__law_gate, k__law_gate⟩ := Pt.gate
  obtain ⟨fd6, G__law_exact, b__law_exact, k__law_exact⟩ := Pt.exact
  obtain ⟨fd7, G__law_deep, b__law_deep, k__law_deep⟩ := Pt.deep
  obtain ⟨fd8, G__law_passes, b__law_passes, k__law_passes⟩ := Pt.passes
  obtain ⟨fd9, G__law_bad_item, b__law_bad_item, k__law_bad_item⟩ := Pt.bad
  obtain ⟨fd10, G_Gate_init, b_Gate_init, k_Gate_init⟩ := Pt.init
  obtain ⟨fd11, G_Gate_len, b_Gate_len, k_Gate_len⟩ := Pt.len
  obtain ⟨fd12, G_Gate_eq, b_Gate_eq, k_Gate_eq⟩ := Pt.eq
  obtain ⟨fd13, G_Gate_contains, b_Gate_contains, k_Gate_contains⟩ := Pt.con
  obtain ⟨fd14, G_Gate_place_of, b_Gate_place_of, k_Gate_place_of⟩ := Pt.pof
  obtain ⟨fd15, G_Gate_wide, b_Gate_wide, k_Gate_wide⟩ := Pt.wide
  obtain ⟨fd16, G__law_number, b__law_number, k__law_number⟩ := Pt.num g
  obtain ⟨cmp, cmt⟩ := GC.cmt
  have FW := G_Gate_wide.raw b_Gate_wide .nil
  have LA := X.LA
  have LR := X.LR
  have LG := X.LG
  have nd := sc_law.nd
  obtain ⟨t4, d4, nxt⟩ := seg3a (E := E) (H0 := H0) (outer := outer) hgd hr T X GC Pt
  refine ⟨_, (pss_cons (ps_for PassesOwn.never rfl (pi_range1 (by rfl) T.nrange (pa_cons pe_int pa_nil)) (pg_name (i := 7) nd rfl (by first | exact Or.inl rfl | exact Or.inr rfl)) (pss_cons (ps_set (i := 8) nd rfl (by first | exact Or.inl rfl | exact Or.inr rfl) (pe_call G__law_row (hr.mono (by omega)) rfl T.m_law_row k__law_row b__law_row .nil pass0 (pa_cons (pe_call G__law_source (hr.mono (by omega)) rfl T.m_law_source k__law_source b__law_source .nil pass0 (pa_cons (pv 0) (pa_cons (pe_op op_add pe_int (pv 7)) pa_nil))) (pa_cons (pv 2) (pa_cons pe_int pa_nil)))))
  (pss_cons (ps_set (i := 9) nd rfl (by first | exact Or.inl rfl | exact Or.inr rfl) (pe_call G__law_passes (hr.mono (by omega)) rfl T.m_law_passes k__law_passes b__law_passes .nil pass0 (pa_cons (pv 2) (pa_cons (pv 3) (pa_cons (pv 8) pa_nil)))))
  (pss_cons (ps_if (PW.pt (pw_or (pt_not (pt_val (pe_call G__law_exact (hr.mono (by omega)) rfl T.m_law_exact k__law_exact b__law_exact .nil pass0 (pa_cons (pe_meth (pv 5) GC.cls GC.mPlace G_Gate_place_of (hr.mono (by omega)) b_Gate_place_of .nil passL (pa_cons (pv 8) pa_nil)) (pa_cons (pv 9) pa_nil))))) (pw_or1 (pt_not (pt_val (pe_callB call_isi (by rfl) T.nisinstance (by decide +kernel) (pa_cons (pe_cmpR (op_inO G_Gate_contains (hr.mono (by omega)) GC.conF GC.conN b_Gate_contains pass0) (pv 8) (pv 5) (by rfl)) (pa_cons (pe_bltn (v := .ty "bool") (by rfl) T.nbool (by decide +kernel) rfl) pa_nil)))))))) (pss_one (ps_ret pe_bl)) pss_nil)
  (pss_one (ps_if (PW.pt (pw_or (pt_cmpR op_ne (pe_cmpR (op_inO G_Gate_contains (hr.mono (by omega)) GC.conF GC.conN b_Gate_contains pass0) (pv 8) (pv 5) (by rfl)) (pe_cmpR op_notN (pv 9) pe_non (nomark _)) (nomark _)) (pw_or (pt_not (pt_val (pe_call G__law_exact (hr.mono (by omega)) rfl T.m_law_exact k__law_exact b__law_exact .nil pass0 (pa_cons (pe_meth (pv 6) GC.cls GC.mPlace G_Gate_place_of (hr.mono (by omega)) b_Gate_place_of .nil passL (pa_cons (pv 8) pa_nil)) (pa_cons pe_int pa_nil))))) (pw_or1 (pt_cmpR op_notBl (pe_cmpR (op_inO G_Gate_contains (hr.mono (by omega)) GC.conF GC.conN b_Gate_contains pass0) (pv 8) (pv 6) (by rfl)) pe_bl (nomark _)))))) (pss_one (ps_ret pe_bl)) pss_nil))))))
  d4), ?_⟩
  intro Q a p l ga gw bs st z ns o4 o7 o8 o9 o10 o11 o12 o13 o14 o15 o16 o17 H ck q
  have mf := menu_facts z ck.mem
  have zl : z.length ≤ sizeLine := Nat.le_trans mf.2.1 (by decide)
  refine ⟨5, rfl, by decide, by decide, for_range (lo := 0) (n := 5) (fun _ σ H' => ∃ o7 o8 o9, σ = [some (.ref a), some (.ref p), some (.str z), some (.ref l), o4, some (.ref ga), some (.ref gw), o7, o8, o9, o10, o11, o12, o13, o14, o15, o16, o17] ∧ CK K A.c_Gate H' a p l ga gw bs st z ns) ⟨o7, o8, o9, rfl, ck⟩ ?_ ?_⟩
  · rintro i σ H1 hi ⟨o7, o8, o9, rfl, ck1⟩
    obtain ⟨Ha, po, hpo, ll⟩ := ck1.ll
    have g1 := ck1.gd.ne
    have g2 := ck1.gd.le
    have e2 : (2 : Int) + (0 + (i : Int)) = ((2 + i : Nat) : Int) := by omega
    refine ⟨_, rfl, _, rfl, _, _, rfl, rfl, a, ns, 2 + i, (by rw [← e2]; rfl), ck1.sq, fun p2 H2 s2 f2 gs2 => ?_⟩
    refine ⟨_, rfl, p2, z, 10, rfl, gs2, by omega, by omega, by decide, by decide, fun y H3 my ly gs3 b3 => ?_⟩
    have s13 : Same H1 H3 := fun b o hb => b3 b o (s2 b o hb) (ne_of_none hb f2)
    have ck3 := ck1.same s13
    have ll3 := ll.same s13
    have fy : ∀ c ∈ y.cps.toList, Finds z c := fun c hc => menu_finds z ck.mem c (my c hc)
    have ry : rowV z (.str y) = true := by
      show (decide (y.length ≤ 2000) && y.cps.toList.all fun c => decide (c ∈ z.cps.toList)) = true
      rw [decide_eq_true (by omega), Bool.true_and]
      exact List.all_eq_true.mpr fun c hc => decide_eq_true (my c hc)
    have ky : ∀ H', Known K H' (.str y) := fun H' => known_str (Nat.le_trans (show y.length ≤ 10 by omega) (by decide))
    have th3 : Th H3 (.ref l) (GL st) := ll3.th (ck.gd.z1 (by omega)) ck.gd.z2
    refine ⟨_, rfl, _, rfl, _, rfl, z, y, .ref l, st, rfl, th3, ck.gd, fy, ?_⟩
    obtain ⟨dx, w1, hg, tv⟩ := ck3.ig
    refine ⟨_, rfl, ga, dx, _, rfl, hg, rfl, _, rfl, ga, .str y, z, st, rfl, ⟨dx, w1, hg, tv⟩, ck.gd, menu_finds z ck.mem, ky _, fun no => (by rw [ry] at no; cases no), fun r er _ H4 s4 => ?_⟩
    cases er
    refine ⟨_, rfl, _, _, natD (walkG z st 0 y.cps.toList), rfl, dt_nat _, dt_nat _, dep_nat _, fun H5 s5 => ⟨_, rfl, iteF ?_⟩⟩
    have ck5 := ck3.same (s4.trans s5)
    obtain ⟨dx5, w5, hg5, tv5⟩ := ck5.ig
    refine ⟨_, rfl, _, rfl, ga, dx5, _, rfl, hg5, ga, .str y, z, st, rfl, ⟨dx5, w5, hg5, tv5⟩, ck.gd, menu_finds z ck.mem, ky _, fun H6 s6 => ⟨_, rfl, ?_⟩⟩
    refine ⟨_, _, _, _, true, rfl, .ty _, .base (.bl _), kit_ty (by decide +kernel), _, rfl, iteF ?_⟩
    have ck6 := ck5.same s6
    obtain ⟨dx6, w6, hg6, tv6⟩ := ck6.ig
    refine ⟨_, rfl, _, rfl, ga, dx6, _, rfl, hg6, ga, .str y, z, st, rfl, ⟨dx6, w6, hg6, tv6⟩, ck.gd, menu_finds z ck.mem, ky _, fun H7 s7 => ⟨_, rfl, ?_⟩⟩
    refine ⟨_, rfl, rfl, rfl, _, rfl, iteNS ?_ ?_⟩
    · have ei : isInB z st (.str y) = (walkG z st 0 y.cps.toList).isSome := by
        unfold isInB
        rw [ry, Bool.true_and]
      rw [ei]
      cases walkG z st 0 y.cps.toList <;> rfl
    have ck7 := ck6.same s7
    obtain ⟨dx7, w7, hg7, tv7⟩ := ck7.igw
    have gw0 : GoodS z.length (wideS z.length) := good_wide z.length
    have ww : walkG z (wideS z.length) 0 y.cps.toList = some 0 := walk_wide rfl _ fy
    refine ⟨_, rfl, gw, dx7, _, rfl, hg7, rfl, _, rfl, gw, .str y, z, wideS z.length, rfl, ⟨dx7, w7, hg7, tv7⟩, gw0, menu_finds z ck.mem, ky _, fun no => (by rw [ry] at no; cases no), fun r er _ H8 s8 => ?_⟩
    cases er
    rw [ww]
    refine ⟨_, _, .int 0, rfl, .int 0, .int 0, (by rw [PyData.depth]; omega), fun H9 s9 => ⟨_, rfl, iteF ?_⟩⟩
    have ck9 := ck7.same (s8.trans s9)
    obtain ⟨dx9, w9, hg9, tv9⟩ := ck9.igw
    refine ⟨_, rfl, _, rfl, gw, dx9, _, rfl, hg9, gw, .str y, z, wideS z.length, rfl, ⟨dx9, w9, hg9, tv9⟩, gw0, menu_finds z ck.mem, ky _, fun H10 s10 => ⟨_, rfl, ?_⟩⟩
    have ew : isInB z (wideS z.length) (.str y) = true := by
      unfold isInB
      rw [ry, Bool.true_and]
      show (walkG z (wideS z.length) 0 y.cps.toList).isSome = true
      rw [ww]
      rfl
    rw [ew]
    refine ⟨true, true, rfl, rfl, _, rfl, iteF ?_⟩
    exact ⟨_, _, _, rfl, ck9.same s10⟩
  · rintro σ H1 ⟨o7, o8, o9, rfl, ck1⟩
    exact nxt Q a p l ga gw bs st z ns o4 o7 o8 o9 o10 o11 o12 o13 o14 o15 o16 o17 H1 ck1 q
end
end As

namespace As
open PySem PySem.Spec PyProof.Rows L2 Ow Builtin.Str PyData
section
variable {P : Program} {w : World} {K : PySem.W.Frag} {mg : Str → Option Value} {base : Heap} {A : Ad}
/-- what holds of the law's state once the first gate is made -/
structure CK0 (K : PySem.W.Frag) (C : Addr) (H : Hp) (a p l g : Addr) (bs : List Addr) (st : List (List (Option Int))) (z : Str) (ns : List Int) : Prop where
  scr : (a ≠ p ∧ SqL K H a (ns.map V.int)) ∨ ∀ H', SqL K H' a (ns.map V.int)
  src : Src H p
  ll : ∃ H1 po, H1 p = some po ∧ LLF H1 H l bs st
  gd : GoodS z.length st
  mem : z ∈ menuA
  ig : IsG C H g z st
theorem CK0.ck {C : Addr} {H H' : Hp} {a p l g gw : Addr} {bs : List Addr} {st : List (List (Option Int))} {z : Str} {ns : List Int} (h : CK0 K C H a p l g bs st z ns) (b : Same H H') (i : IsG C H' gw z (wideS z.length)) : CK K C H' a p l g gw bs st z ns := by
  obtain ⟨H1, po, hpo, ll⟩ := h.ll
  refine ⟨?_, h.src.same b, ⟨H1, po, hpo, ll.same b⟩, h.gd, h.mem, h.ig.keep (KeepX.of b), i⟩
  rcases h.scr with ⟨n, q⟩ | q
  · exact .inl ⟨n, L2.Same.seq b q⟩
  · exact .inr q
theorem seg2a {cdv : Value} {A' : Around} {outer : List Env} {s : Shared} {H0 : Hp} {E : XK} {g : List Code} (hgd : A'.guards = some g) (hr : Room 8 (A'.deeper (envOfC "law" (defScope s_law) s.heap.objs.size A.f_law cdv)))
    (T : Tx K mg A) (X : Ex K mg A) (GC : GCls K A) (Pt : Parts P w K mg base A) : ∃ t, PSs (XL P w K mg base A cdv A' outer s H0 E) ((defBody s_law).drop 8) t ∧
    ∀ (Q : VK) (a p l ga : Addr) (bs : List Addr) (st : List (List (Option Int))) (z : Str) (ns : List Int) (o4 o6 o7 o8 o9 o10 o11 o12 o13 o14 o15 o16 o17 : Option V) (H : Hp), CK0 K A.c_Gate H a p l ga bs st z ns → (∀ H', Q (.bl true) H') →
      t { nx := fun _ H' => Q .non H', rt := Q } [some (.ref a), some (.ref p), some (.str z), some (.ref l), o4, some (.ref ga), o6, o7, o8, o9, o10, o11, o12, o13, o14, o15, o16, o17] H := by
  obtain ⟨fd1, G__law_source, b__law_source, k__law_source⟩ := Pt.src
  obtain ⟨fd2, G__law_asks, b__law_asks, k__law_asks⟩ := Pt.asks
  obtain ⟨fd3, G__law_row, b__law_row, k__law_row⟩ := Pt.row
  obtain ⟨fd4, G__law_draw, b__law_draw, k__law_draw⟩ := Pt.draw
  obtain ⟨fd5, G__law_gate, b__law_gate, k__law_gate⟩ := Pt.gate
  obtain ⟨fd6, G__law_exact, b__law_exact, k__law_exact⟩ := Pt.exact
  obtain ⟨fd7, G__law_deep, b__law_deep, k__law_deep⟩ := Pt.deep
  obtain ⟨fd8, G__law_passes, b__law_passes, k__law_passes⟩ := Pt.passes
  obtain ⟨fd9, G__law_bad_item, b__law_bad_item, k__law_bad_item⟩ := Pt.bad
  obtain ⟨fd10, G_Gate_init, b_Gate_init, k_Gate_init⟩ := Pt.init
  obtain ⟨fd11, G_Gate_len, b_Gate_len, k_Gate_len⟩ := Pt.len
  obtain ⟨fd12, G_Gate_eq, b_Gate_eq, k_Gate_eq⟩ := Pt.eq
  obtain ⟨fd13, G_Gate_contains, b_Gate_contains, k_Gate_contains⟩ := Pt.con
  obtain ⟨fd14, G_Gate_place_of, b_Gate_place_of, k_Gate_place_of⟩ := Pt.pof
  obtain ⟨fd15, G_Gate_wide, b_Gate_wide, k_Gate_wide⟩ := Pt.wide
  obtain ⟨fd16, G__law_number, b__law_number, k__law_number⟩ := Pt.num g
  obtain ⟨cmp, cmt⟩ := GC.cmt
  have FW := G_Gate_wide.raw b_Gate_wide .nil
  have LA := X.LA
  have LR := X.LR
  have LG := X.LG
  have nd := sc_law.nd
  obtain ⟨t4, d4, nxt⟩ := seg2b (E := E) (H0 := H0) (outer := outer) hgd hr T X GC Pt
  refine ⟨_, (pss_cons (ps_if (PW.pt (pw_or (pt_not (pt_val (pe_call G__law_exact (hr.mono (by omega)) rfl T.m_law_exact k__law_exact b__law_exact .nil pass0 (pa_cons (pe_fld (pv 5) (by rfl)) (pa_cons (pe_call G__law_deep (hr.mono (by omega)) rfl T.m_law_deep k__law_deep b__law_deep .nil pass0 (pa_cons (pv 3) pa_nil)) pa_nil))))) (pw_or (pt_cmpR op_ne (pe_fld (pv 5) (by rfl)) (pv 2) (nomark _)) (pw_or1 (pt_cmpR op_ne (pe_callB (call_lenO G_Gate_len (hr.mono (by omega)) GC.lenF GC.lenN b_Gate_len pass0) (by rfl) T.nlen (by decide +kernel) (pa_cons (pv 5) pa_nil)) (pe_callB call_len (by rfl) T.nlen (by decide +kernel) (pa_cons (pv 3) pa_nil)) (nomark _)))))) (pss_one (ps_ret pe_bl)) pss_nil)
  (pss_cons (ps_set (i := 6) nd rfl (by first | exact Or.inl rfl | exact Or.inr rfl) (ClX.pe_cmeth (pe_glob (v := .ref A.c_Gate) rfl T.mGate rfl) GC.crd cmt FW (hr.mono (by omega)) passL (pa_cons (pv 2) pa_nil)))
  (pss_cons (ps_if (PW.pt (pw_or (pt_not (pt_val (pe_call G__law_exact (hr.mono (by omega)) rfl T.m_law_exact k__law_exact b__law_exact .nil pass0 (pa_cons (pe_fld (pv 6) (by rfl)) (pa_cons (pe_tup (pa_cons (pe_op op_repN (pe_tup (pa_cons pe_int pa_nil)) (pe_callB call_len_str (by rfl) T.nlen (by decide +kernel) (pa_cons (pv 2) pa_nil))) pa_nil)) pa_nil))))) (pw_or1 (pt_cmpR op_ne (pe_fld (pv 6) (by rfl)) (pv 2) (nomark _))))) (pss_one (ps_ret pe_bl)) pss_nil)
  d4))), ?_⟩
  intro Q a p l ga bs st z ns o4 o6 o7 o8 o9 o10 o11 o12 o13 o14 o15 o16 o17 H ck q
  have mf := menu_facts z ck.mem
  have zl : z.length ≤ sizeLine := Nat.le_trans mf.2.1 (by decide)
  obtain ⟨Ha, po, hpo, ll⟩ := ck.ll
  have g1 := ck.gd.ne
  have g2 := ck.gd.le
  have ln : bs.length = st.length := ll.each.len
  have gl := gs_lst ck.gd
  have gt := gs_tup ck.gd
  have th0 : Th H (.ref l) (GL st) := ll.th (ck.gd.z1 (by omega)) ck.gd.z2
  obtain ⟨dx, w1, hg, tv⟩ := ck.ig
  refine ⟨_, rfl, ga, A.c_Gate, dx, _, _, rfl, hg, GC.cls, GC.nSteps, rfl, _, rfl, .ref l, GL st, rfl, th0, gl.dep, gl.pl, fun v1 H1 s1 t1 => ?_⟩
  have t1' : Dt H1 v1 (GT st) := by
    have h := t1.dt
    rw [gl.deep] at h
    exact h
  refine ⟨w1, v1, GT st, rfl, (tv.keep (KeepT.of s1)).dt, t1', gt.dep, fun H2 s2 => ⟨_, rfl, iteF ?_⟩⟩
  have s12 := s1.trans s2
  refine ⟨_, rfl, ga, A.c_Gate, dx, _, _, rfl, s12 _ _ hg, GC.cls, GC.nAsks, rfl, _, rfl, rfl, _, rfl, iteNS rfl ?_⟩
  refine ⟨_, rfl, ga, dx, _, rfl, s12 _ _ hg, ga, z, st, rfl, ⟨dx, w1, s12 _ _ hg, tv.keep (KeepT.of s12)⟩, st.length, rfl, by omega, _, rfl, _, st.length, rfl, .inl ⟨_, SqL.of (s12 _ _ ll.at_), by rw [List.length_map, ln]⟩, rfl, _, rfl, iteNS rfl ?_⟩
  refine ⟨rfl, _, rfl, z, rfl, mf.2.2.2, zl, fun gw H3 s3 f3 ig3 => ?_⟩
  have s13 := s12.trans s3
  obtain ⟨dw, ww, hw, tw⟩ := ig3
  refine ⟨_, rfl, gw, A.c_Gate, dw, _, _, rfl, hw, GC.cls, GC.nSteps, rfl, ?_⟩
  refine wide_tup rfl mf.1 (by omega) fun v4 H4 s4 t4w => ?_
  have dw2 : (GT (wideS z.length)).depth ≤ 2 := (gs_tup (good_wide z.length)).dep
  refine ⟨ww, v4, GT (wideS z.length), rfl, (tw.keep (KeepT.of s4)).dt, t4w.dt, dw2, fun H5 s5 => ⟨_, rfl, iteF ?_⟩⟩
  have s35 := s4.trans s5
  refine ⟨_, rfl, gw, A.c_Gate, dw, _, _, rfl, s35 _ _ hw, GC.cls, GC.nAsks, rfl, _, rfl, rfl, _, rfl, iteNS rfl ?_⟩
  exact nxt Q a p l ga gw bs st z ns o4 o7 o8 o9 o10 o11 o12 o13 o14 o15 o16 o17 H5 (ck.ck (s13.trans s35) ⟨dw, ww, s35 _ _ hw, tw.keep (KeepT.of s35)⟩) q
end
end As

namespace As
open PySem PySem.Spec PyProof.Rows L2 Ow Builtin.Str PyData
section
variable {P : Program} {w : World} {K : PySem.W.Frag} {mg : Str → Option Value} {base : Heap} {A : Ad}
/-- what holds of the law's state once the steps are drawn -/
structure CKm (K : PySem.W.Frag) (H : Hp) (a p l : Addr) (bs : List Addr) (st : List (List (Option Int))) (z : Str) (ns : List Int) : Prop where
  scr : (a ≠ p ∧ SqL K H a (ns.map V.int)) ∨ ∀ H', SqL K H' a (ns.map V.int)
  src : Src H p
  ll : ∃ H1 po, H1 p = some po ∧ LLF H1 H l bs st
  gd : GoodS z.length st
  mem : z ∈ menuA
theorem scr_but {H H' : Hp} {a p : Addr} {ns : List Int} (b : But p H H') (h : (a ≠ p ∧ SqL K H a (ns.map V.int)) ∨ ∀ H', SqL K H' a (ns.map V.int)) : (a ≠ p ∧ SqL K H' a (ns.map V.int)) ∨ ∀ H', SqL K H' a (ns.map V.int) := by
  rcases h with ⟨n, q⟩ | q
  · exact .inl ⟨n, b.seqL n q⟩
  · exact .inr q
theorem scr_sq {H : Hp} {a p : Addr} {ns : List Int} (h : (a ≠ p ∧ SqL K H a (ns.map V.int)) ∨ ∀ H', SqL K H' a (ns.map V.int)) : SqL K H a (ns.map V.int) := by
  rcases h with ⟨_, q⟩ | q
  · exact q
  · exact q H
theorem scr_new {H H1 : Hp} {a p : Addr} {ns : List Int} (h : SqL K H a (ns.map V.int)) (n : H p = Option.none) (s : Same H H1) : (a ≠ p ∧ SqL K H1 a (ns.map V.int)) ∨ ∀ H', SqL K H' a (ns.map V.int) := by
  rcases h with (h | ⟨o, h⟩) | h
  · exact .inl ⟨ne_of_none h n, .inl (.inl (s _ _ h))⟩
  · exact .inl ⟨ne_of_none h n, .inl (.inr ⟨o, s _ _ h⟩)⟩
  · exact .inr fun H' => .inr h
theorem ix_zero {n : Nat} (h : 1 ≤ n) : ixN n 0 = some 0 := by
  unfold ixN
  rw [if_pos (Int.le_refl 0), if_pos (by omega)]
  rfl
theorem seg1b {cdv : Value} {A' : Around} {outer : List Env} {s : Shared} {H0 : Hp} {E : XK} {g : List Code} (hgd : A'.guards = some g) (hr : Room 8 (A'.deeper (envOfC "law" (defScope s_law) s.heap.objs.size A.f_law cdv)))
    (T : Tx K mg A) (X : Ex K mg A) (GC : GCls K A) (Pt : Parts P w K mg base A) : ∃ t, PSs (XL P w K mg base A cdv A' outer s H0 E) ((defBody s_law).drop 4) t ∧
    ∀ (Q : VK) (a p l : Addr) (bs : List Addr) (st : List (List (Option Int))) (z : Str) (ns : List Int) (o4 o5 o6 o7 o8 o9 o10 o11 o12 o13 o14 o15 o16 o17 : Option V) (H : Hp), CKm K H a p l bs st z ns → (∀ H', Q (.bl true) H') →
      t { nx := fun _ H' => Q .non H', rt := Q } [some (.ref a), some (.ref p), some (.str z), some (.ref l), o4, o5, o6, o7, o8, o9, o10, o11, o12, o13, o14, o15, o16, o17] H := by
  obtain ⟨fd1, G__law_source, b__law_source, k__law_source⟩ := Pt.src
  obtain ⟨fd2, G__law_asks, b__law_asks, k__law_asks⟩ := Pt.asks
  obtain ⟨fd3, G__law_row, b__law_row, k__law_row⟩ := Pt.row
  obtain ⟨fd4, G__law_draw, b__law_draw, k__law_draw⟩ := Pt.draw
  obtain ⟨fd5, G__law_gate, b__law_gate, k__law_gate⟩ := Pt.gate
  obtain ⟨fd6, G__law_exact, b__law_exact, k__law_exact⟩ := Pt.exact
  obtain ⟨fd7, G__law_deep, b__law_deep, k__law_deep⟩ := Pt.deep
  obtain ⟨fd8, G__law_passes, b__law_passes, k__law_passes⟩ := Pt.passes
  obtain ⟨fd9, G__law_bad_item, b__law_bad_item, k__law_bad_item⟩ := Pt.bad
  obtain ⟨fd10, G_Gate_init, b_Gate_init, k_Gate_init⟩ := Pt.init
  obtain ⟨fd11, G_Gate_len, b_Gate_len, k_Gate_len⟩ := Pt.len
  obtain ⟨fd12, G_Gate_eq, b_Gate_eq, k_Gate_eq⟩ := Pt.eq
  obtain ⟨fd13, G_Gate_contains, b_Gate_contains, k_Gate_contains⟩ := Pt.con
  obtain ⟨fd14, G_Gate_place_of, b_Gate_place_of, k_Gate_place_of⟩ := Pt.pof
  obtain ⟨fd15, G_Gate_wide, b_Gate_wide, k_Gate_wide⟩ := Pt.wide
  obtain ⟨fd16, G__law_number, b__law_number, k__law_number⟩ := Pt.num g
  obtain ⟨cmp, cmt⟩ := GC.cmt
  have FW := G_Gate_wide.raw b_Gate_wide .nil
  have LA := X.LA
  have LR := X.LR
  have LG := X.LG
  have nd := sc_law.nd
  obtain ⟨t4, d4, nxt⟩ := seg2a (E := E) (H0 := H0) (outer := outer) hgd hr T X GC Pt
  refine ⟨_, (pss_cons (ps_setLc (i := 4) (own := [("_law_item", 17)]) (g := gName 17) (tt := tYes) rfl nd rfl rfl (sw_true rfl rfl rfl (by decide +kernel)) (pi_list (pv 3)) (blkOk_by (own := [("_law_item", 17)]) (N := N_law) (sc := defScope s_law) (by decide +kernel)) (fun _ _ _ _ _ => (pg_name (i := 17) nd rfl (by first | exact Or.inl rfl | exact Or.inr rfl))) (fun _ _ _ _ _ => pts_nil) (fun _ _ _ _ _ => (pe_callTy (show CallR _ (.type "list") (rLsOf K) from call_list_of) (by rfl) T.nlist (by decide +kernel) (pa_cons (pv 17) pa_nil))))
  (pss_cons (ps_set (i := 5) nd rfl (by first | exact Or.inl rfl | exact Or.inr rfl) (pe_make GC.mkr G_Gate_init (hr.mono (by omega)) (by rfl) T.mGate b_Gate_init .nil passL (pa_cons (pv 2) (pa_cons (pv 4) pa_nil))))
  (pss_cons (ps_asg pe_int (pg_sub (pe_ix ix_list (pv 4) pe_int (fun _ _ => rfl)) pe_int set_list))
  (pss_cons (ps_expr (pe_bm PySem.F.plainAttrs_list PySem.F.slot_list_append PySem.F.type_list_append mt_append (pv 4) (pa_cons pe_str pa_nil)))
  d4)))), ?_⟩
  intro Q a p l bs st z ns o4 o5 o6 o7 o8 o9 o10 o11 o12 o13 o14 o15 o16 o17 H ck q
  have mf := menu_facts z ck.mem
  have zl : z.length ≤ sizeLine := Nat.le_trans mf.2.1 (by decide)
  obtain ⟨Ha, po, hpo, ll⟩ := ck.ll
  have g1 := ck.gd.ne
  have g2 := ck.gd.le
  dsimp only [gName, tSeq, tAsg, List.set_cons_succ, List.set_cons_zero, List.map_cons, List.map_nil]
  refine copy_ll ll (by omega) fun D cs H1 LL sm => ?_
  refine ⟨_, rfl, _, rfl, fun e x2 he hx2 _ => make_good2 mf.2.2.2 zl (LL.th (ck.gd.z1 (by omega)) ck.gd.z2) ck.gd (gs_lst ck.gd) he hx2 fun H2 s2 i2 => ⟨rfl, ?_⟩⟩
  have LL2 := LL.same s2
  have lc : cs.length = st.length := LL.each.len
  obtain ⟨c0, ec⟩ : ∃ c, cs[0]? = some c := ⟨_, List.getElem?_eq_getElem (by omega)⟩
  obtain ⟨it, eit, hc0⟩ := LL2.each.get ec
  have lit : it.length = z.length := ck.gd.len it (List.mem_of_getElem? eit)
  have c0m : c0 ∈ cs := List.mem_of_getElem? ec
  have fc : H c0 = Option.none := LL.fb c0 c0m
  have fD : H D = Option.none := LL.fl
  have Dc : D ≠ c0 := fun e => LL.nl (e ▸ c0m)
  obtain ⟨po2, hp2⟩ := ck.src.some
  have pc : p ≠ c0 := fun e => by rw [← e, hp2] at fc; cases fc
  have pD : p ≠ D := fun e => by rw [← e, hp2] at fD; cases fD
  refine ⟨_, rfl, D, _, 0, .ref c0, rfl, rfl, SqL.of LL2.at_, atI_nat (j := 0) (by rw [List.getElem?_map, ec]; rfl), c0, _, 0, 0, rfl, rfl, hc0, ix_zero (by rw [List.length_map, lit]; exact mf.1), ?_⟩
  have k3 : KeepX H2 (upd H2 c0 (.lst ((it.map optV).set 0 (.int 7)))) := KeepX.upd hc0
  have b3 : But p H (upd H2 c0 (.lst ((it.map optV).set 0 (.int 7)))) := but_updF (But.of (sm.trans s2)) fc
  have gs3 : Src (upd H2 c0 (.lst ((it.map optV).set 0 (.int 7)))) p := src_upd (ck.src.same (sm.trans s2)) pc
  have hD : (upd H2 c0 (.lst ((it.map optV).set 0 (.int 7)))) D = some (.lst (cs.map V.ref)) := by rw [upd_ne Dc]; exact LL2.at_
  generalize upd H2 c0 (.lst ((it.map optV).set 0 (.int 7))) = H3 at k3 b3 gs3 hD ⊢
  refine ⟨_, rfl, .inl ⟨rfl, _, SqL.of hD⟩, D, _, _, rfl, rfl, hD, by rw [List.length_map, lc]; exact Nat.lt_of_le_of_lt g2 (by decide), ?_⟩
  have b4 : But p H (upd H3 D (.lst (cs.map V.ref ++ [.str "spoilt"]))) := but_updF b3 fD
  exact nxt Q a p l e bs st z ns _ o6 o7 o8 o9 o10 o11 o12 o13 o14 o15 o16 o17 _ ⟨scr_but b4 ck.scr, src_upd gs3 pD, ⟨Ha, po, hpo, ll.but hpo b4⟩, ck.gd, ck.mem, i2.keep (k3.trans (KeepX.upd hD))⟩ q
theorem seg1a {cdv : Value} {A' : Around} {outer : List Env} {s : Shared} {H0 : Hp} {E : XK} {g : List Code} (hgd : A'.guards = some g) (hr : Room 8 (A'.deeper (envOfC "law" (defScope s_law) s.heap.objs.size A.f_law cdv)))
    (T : Tx K mg A) (X : Ex K mg A) (GC : GCls K A) (Pt : Parts P w K mg base A) : ∃ t, PSs (XL P w K mg base A cdv A' outer s H0 E) ((defBody s_law).drop 0) t ∧
    ∀ (Q : VK) (a : Addr) (ns : List Int) (H : Hp), SqL K H a (ns.map V.int) → (∀ H', Q (.bl true) H') →
      t { nx := fun _ H' => Q .non H', rt := Q } (L2.start N_law [.ref a]) H := by
  obtain ⟨fd1, G__law_source, b__law_source, k__law_source⟩ := Pt.src
  obtain ⟨fd2, G__law_asks, b__law_asks, k__law_asks⟩ := Pt.asks
  obtain ⟨fd3, G__law_row, b__law_row, k__law_row⟩ := Pt.row
  obtain ⟨fd4, G__law_draw, b__law_draw, k__law_draw⟩ := Pt.draw
  obtain ⟨fd5, G__law_gate, b__law_gate, k__law_gate⟩ := Pt.gate
  obtain ⟨fd6, G__law_exact, b__law_exact, k__law_exact⟩ := Pt.exact
  obtain ⟨fd7, G__law_deep, b__law_deep, k__law_deep⟩ := Pt.deep
  obtain ⟨fd8, G__law_passes, b__law_passes, k__law_passes⟩ := Pt.passes
  obtain ⟨fd9, G__law_bad_item, b__law_bad_item, k__law_bad_item⟩ := Pt.bad
  obtain ⟨fd10, G_Gate_init, b_Gate_init, k_Gate_init⟩ := Pt.init
  obtain ⟨fd11, G_Gate_len, b_Gate_len, k_Gate_len⟩ := Pt.len
  obtain ⟨fd12, G_Gate_eq, b_Gate_eq, k_Gate_eq⟩ := Pt.eq
  obtain ⟨fd13, G_Gate_contains, b_Gate_contains, k_Gate_contains⟩ := Pt.con
  obtain ⟨fd14, G_Gate_place_of, b_Gate_place_of, k_Gate_place_of⟩ := Pt.pof
  obtain ⟨fd15, G_Gate_wide, b_Gate_wide, k_Gate_wide⟩ := Pt.wide
  obtain ⟨fd16, G__law_number, b__law_number, k__law_number⟩ := Pt.num g
  obtain ⟨cmp, cmt⟩ := GC.cmt
  have FW := G_Gate_wide.raw b_Gate_wide .nil
  have LA := X.LA
  have LR := X.LR
  have LG := X.LG
  have nd := sc_law.nd
  obtain ⟨t4, d4, nxt⟩ := seg1b (E := E) (H0 := H0) (outer := outer) hgd hr T X GC Pt
  refine ⟨_, (pss_cons (ps_set (i := 1) nd rfl (by first | exact Or.inl rfl | exact Or.inr rfl) (pe_call G__law_source (hr.mono (by omega)) rfl T.m_law_source k__law_source b__law_source .nil pass0 (pa_cons (pv 0) (pa_cons pe_int pa_nil))))
  (pss_cons (ps_set (i := 2) nd rfl (by first | exact Or.inl rfl | exact Or.inr rfl) (pe_call G__law_asks (hr.mono (by omega)) rfl T.m_law_asks k__law_asks b__law_asks .nil pass0 (pa_cons (pv 1) pa_nil)))
  (pss_cons (ps_set (i := 3) nd rfl (by first | exact Or.inl rfl | exact Or.inr rfl) (pe_call G__law_gate (hr.mono (by omega)) rfl T.m_law_gate k__law_gate b__law_gate .nil pass0 (pa_cons (pe_call G__law_source (hr.mono (by omega)) rfl T.m_law_source k__law_source b__law_source .nil pass0 (pa_cons (pv 0) (pa_cons pe_int pa_nil))) (pa_cons (pv 2) pa_nil))))
  (pss_cons (ps_if (pt_cmpR op_eq (pe_call G__law_draw (hr.mono (by omega)) rfl T.m_law_draw k__law_draw b__law_draw .nil pass0 (pa_cons (pv 1) (pa_cons pe_int pa_nil))) pe_int (nomark _)) (pss_cons (ps_set (i := 3) nd rfl (by first | exact Or.inl rfl | exact Or.inr rfl) (pe_op op_cat (pv 3) (pe_lst (pa_cons (pe_op op_rep (pe_lst (pa_cons pe_non pa_nil)) (pe_callB call_len_str (by rfl) T.nlen (by decide +kernel) (pa_cons (pv 2) pa_nil))) pa_nil))))
  (pss_one (ps_asg (pe_op op_sub (pe_callB call_len (by rfl) T.nlen (by decide +kernel) (pa_cons (pv 3) pa_nil)) pe_int) (pg_sub (pe_ix ix_list (pv 3) pe_int (fun _ _ => rfl)) pe_int set_list)))) pss_nil)
  d4)))), ?_⟩
  intro Q a ns H hS q
  refine ⟨_, rfl, a, ns, 0, rfl, hS, fun p H1 s1 f1 gs1 => ?_⟩
  have sc1 := scr_new hS f1 s1
  refine ⟨_, rfl, p, rfl, gs1, fun z H2 mem gs2 b2 => ?_⟩
  have sc2 := scr_but b2 sc1
  have mf := menu_facts z mem
  have zl : z.length ≤ sizeLine := Nat.le_trans mf.2.1 (by decide)
  refine ⟨_, rfl, a, ns, 1, rfl, scr_sq sc2, fun p2 H3 s3 f3 gs3 => ⟨_, rfl, p2, z, rfl, gs3, mf.1, by omega, fun l bs st H4 ll gd l4 gs4 b4 => ?_⟩⟩
  have s24 : Same H2 H4 := fun b o hb => b4 b o (s3 b o hb) (ne_of_none hb f3)
  have gsp := gs2.same s24
  have sc4 := scr_but (But.of s24) sc2
  obtain ⟨po, hpo⟩ := (gs2.same s3).some
  refine ⟨_, rfl, p, 4, rfl, gsp, by decide, by decide, fun d H5 _ _ gs5 b5 => ?_⟩
  have sc5 := scr_but b5 sc4
  have ll5 := ll.but hpo b5
  have g1 := gd.ne
  refine ⟨rfl, _, rfl, ite2 (fun c => ?_) (fun c => ?_)⟩
  · have ln : bs.length = st.length := ll5.each.len
    refine ⟨_, rfl, (by show 1 ≤ sizeLine; decide), fun c1 hc1 => ?_⟩
    have y1 := same_new (o := .lst [.non]) hc1
    refine ⟨_, rfl, z, rfl, zl, c1, z.length, _, rfl, rfl, upd_same, by omega, by omega, Nat.le_trans (show 1 * (z.length : Int).toNat ≤ 100 by omega) (by decide), fun c2 hc2 => ?_⟩
    rw [show (List.replicate (z.length : Int).toNat [V.non]).flatten = List.replicate z.length V.non by simp]
    have y2 := y1.trans (same_new (o := .lst (List.replicate z.length V.non)) hc2)
    have h2 : (upd (upd H5 c1 (.lst [.non])) c2 (.lst (List.replicate z.length V.non))) c2 = some (.lst ((List.replicate z.length (Option.none : Option Int)).map optV)) := by rw [upd_same, List.map_replicate]; rfl
    have n2 : H5 c2 = Option.none := y1.free hc2
    generalize upd (upd H5 c1 (.lst [.non])) c2 (.lst (List.replicate z.length V.non)) = H6 at y2 h2 ⊢
    refine ⟨(by show 1 ≤ sizeLine; decide), fun c3 hc3 => ?_⟩
    have y3 := y2.trans (same_new (o := .lst [.ref c2]) hc3)
    have h3 := same_new (o := .lst [.ref c2]) hc3 _ _ h2
    refine ⟨l, c3, _, _, rfl, rfl, y3 _ _ ll5.at_, upd_same, Nat.le_trans (show (bs.map V.ref).length + 1 ≤ 10 by rw [List.length_map]; omega) (by decide), fun m hm => ?_⟩
    have y4 := y3.trans (same_new (o := .lst (bs.map V.ref ++ [.ref c2])) hm)
    have h4 := same_new (o := .lst (bs.map V.ref ++ [.ref c2])) hm _ _ h3
    have nm : H5 m = Option.none := y3.free hm
    have fr : ∀ b, H5 b = Option.none → H3 b = Option.none ∨ b = p2 ∨ b = p := fun b hb => by
      by_cases e1 : b = p2
      · exact .inr (.inl e1)
      · by_cases e2 : b = p
        · exact .inr (.inr e2)
        · refine .inl ?_
          cases e : H3 b with
          | none => rfl
          | some o =>
            rw [b5 b o (b4 b o e e1) e2] at hb
            cases hb
    have tp2 : ∃ o, H5 p2 = some o := by
      obtain ⟨o, ho⟩ := gs4.some
      have n : p2 ≠ p := fun e => by
        obtain ⟨o, ho⟩ := gs2.some
        rw [e, ho] at f3
        cases f3
      exact ⟨o, b5 _ _ ho n⟩
    have tp : ∃ o, H5 p = some o := gs5.some
    have fr' : ∀ b, H5 b = Option.none → H3 b = Option.none := fun b hb => by
      rcases fr b hb with h | rfl | rfl
      · exact h
      · obtain ⟨o, ho⟩ := tp2
        rw [ho] at hb
        cases hb
      · obtain ⟨o, ho⟩ := tp
        rw [ho] at hb
        cases hb
    have nin : ∀ c, H5 c = Option.none → c ∉ bs := fun c hc m => by
      obtain ⟨j, hj⟩ := List.getElem?_of_mem m
      obtain ⟨_, _, hb⟩ := ll5.each.get hj
      rw [hb] at hc
      cases hc
    have LL : LLF H3 (upd (upd H6 c3 (.lst [.ref c2])) m (.lst (bs.map V.ref ++ [.ref c2]))) m (bs ++ [c2]) (st ++ [List.replicate z.length Option.none]) := by
      have mc : m ≠ c2 := fun e => by
        rw [e, h3] at hm
        cases hm
      refine ⟨by rw [upd_same, List.map_append]; rfl, Each.snoc h4 (ll5.each.keep fun b _ o ho => y4 _ _ ho), ?_, ?_, fr' _ nm, fun b hb => ?_⟩
      · refine List.nodup_append.mpr ⟨ll5.nd, List.nodup_cons.mpr ⟨nofun, List.nodup_nil⟩, fun x hx y hy e => ?_⟩
        rw [List.mem_singleton.mp hy] at e
        exact nin c2 n2 (e ▸ hx)
      · intro hh
        rcases List.mem_append.mp hh with hh | hh
        · exact nin m nm hh
        · exact mc (List.mem_singleton.mp hh)
      · rcases List.mem_append.mp hb with hb | hb
        · exact ll5.fb b hb
        · rw [List.mem_singleton.mp hb]; exact fr' _ n2
    have gs6 := gs5.same y4
    have b27 := ((But.of (s := p) s24).trans b5).trans (But.of y4)
    show (fun H7 => _) (upd (upd H6 c3 (.lst [.ref c2])) m (.lst (bs.map V.ref ++ [.ref c2])))
    generalize upd (upd H6 c3 (.lst [.ref c2])) m (.lst (bs.map V.ref ++ [.ref c2])) = H7 at LL gs6 b27 ⊢
    have lc : (bs ++ [c2]).length = st.length + 1 := by rw [List.length_append, ln]; rfl
    obtain ⟨b0, eb⟩ : ∃ b, (bs ++ [c2])[0]? = some b := ⟨_, List.getElem?_eq_getElem (by omega)⟩
    obtain ⟨it, eit, hb0⟩ := LL.each.get eb
    have est : st[0]? = some it := by
      rw [List.getElem?_append_left g1] at eit
      exact eit
    have lit : it.length = z.length := gd.len it (List.mem_of_getElem? est)
    refine ⟨_, rfl, _, st.length + 1, rfl, .inl ⟨_, SqL.of LL.at_, by rw [List.length_map, lc]⟩, _, _, rfl, rfl, _, rfl, m, _, 0, .ref b0, rfl, rfl, SqL.of LL.at_, atI_nat (j := 0) (by rw [List.getElem?_map, eb]; rfl), b0, _, 0, 0, rfl, rfl, hb0, ix_zero (by rw [List.length_map, lit]; exact mf.1), ?_⟩
    have es : (it.map optV).set 0 (.int (((st.length + 1 : Nat) : Int) - 1)) = (it.set 0 (some (st.length : Int))).map optV := by
      rw [List.map_set]
      exact congrArg (fun k => (it.map optV).set 0 (V.int k)) (by omega)
    show (fun X => _) (upd H7 b0 (.lst ((it.map optV).set 0 (.int (((st.length + 1 : Nat) : Int) - 1)))))
    rw [es]
    have b0m : b0 ∈ bs ++ [c2] := List.mem_of_getElem? eb
    have mb : m ≠ b0 := fun e => LL.nl (e ▸ b0m)
    have pb : p ≠ b0 := fun e => by
      have := LL.fb b0 b0m
      rw [← e, hpo] at this
      cases this
    have LL8 : LLF H3 (upd H7 b0 (.lst ((it.set 0 (some (st.length : Int))).map optV))) m (bs ++ [c2]) ((st ++ [List.replicate z.length Option.none]).set 0 (it.set 0 (some (st.length : Int)))) :=
      ⟨by rw [upd_ne mb]; exact LL.at_, LL.each.put LL.nd eb, LL.nd, LL.nl, LL.fl, LL.fb⟩
    have lS : ((st ++ [List.replicate z.length (Option.none : Option Int)]).set 0 (it.set 0 (some (st.length : Int)))).length = st.length + 1 := by rw [List.length_set, List.length_append]; rfl
    have gd8 : GoodS z.length ((st ++ [List.replicate z.length Option.none]).set 0 (it.set 0 (some (st.length : Int)))) := by
      refine ⟨by omega, by omega, fun x hx => ?_, fun x hx k hk => ?_⟩
      · rcases List.mem_or_eq_of_mem_set hx with hx | hx
        · rcases List.mem_append.mp hx with hx | hx
          · exact gd.len x hx
          · rw [List.mem_singleton.mp hx]; exact List.length_replicate
        · rw [hx, List.length_set, lit]
      · rw [lS]
        rcases List.mem_or_eq_of_mem_set hx with hx | hx
        · rcases List.mem_append.mp hx with hx | hx
          · have := gd.ok x hx k hk
            omega
          · rw [List.mem_singleton.mp hx] at hk
            exact nomatch List.eq_of_mem_replicate hk
        · rw [hx] at hk
          rcases List.mem_or_eq_of_mem_set hk with hk | hk
          · have := gd.ok it (List.mem_of_getElem? est) k hk
            omega
          · have := Option.some.inj hk
            omega
    have sc8 := scr_but (but_updF (o := .lst ((it.set 0 (some (st.length : Int))).map optV)) b27 (s3.free (LL.fb b0 b0m))) sc2
    exact nxt Q a p m (bs ++ [c2]) _ z ns _ _ _ _ _ _ _ _ _ _ _ _ _ _ _ ⟨sc8, src_upd gs6 pb, ⟨H3, po, hpo, LL8⟩, gd8, mem⟩ q
  · exact nxt Q a p l bs st z ns _ _ _ _ _ _ _ _ _ _ _ _ _ _ H5 ⟨sc5, gs5, ⟨H3, po, hpo, ll5⟩, gd, mem⟩ q
end
end As

namespace As
open PySem PySem.Spec PyProof.Rows L2 Ow
section
variable {P : Program} {w : World} {K : PySem.W.Frag} {mg : Str → Option Value} {base : Heap} {A : Ad}
def spLaw (K : PySem.W.Frag) : Sp := fun vs H Q _ => ∃ (a : Addr) (ns : List Int), vs = [.ref a] ∧ SqL K H a (ns.map V.int) ∧ ∀ H', Q (.bl true) H'
theorem ok_law {fd : FuncData} {g : List Code} (F : Fun K "law" "law" s_law A.f_law fd) (T : Tx K mg A) (X : Ex K mg A) (GC : GCls K A) (Pt : Parts P w K mg base A) : FnG P w K mg base 9 A.f_law fd ["_law_script"] (spLaw K) g := by
  refine okG F sc_law (fun vs H Q E h => ?_) (fun cdv A' outer s H vs Q E hgd hr h => ?_)
  · obtain ⟨a, ns, rfl, _⟩ := h
    rfl
  · obtain ⟨a, ns, rfl, hS, q⟩ := h
    obtain ⟨t, ht, hq⟩ := seg1a (E := E) (H0 := H) (outer := outer) hgd hr T X GC Pt
    exact ⟨t, ht, hq Q a ns H hS q⟩
end
end As

namespace As
open PySem PySem.Spec PyProof.Rows L2 Ow
theorem all_mk {P : Program} {w : World} {K : PySem.W.Frag} {h : Heap} {mg : Str → Option Value} {fa f_WrongThing_init f_WrongItem_init f_is_integer f_is_tuple f_is_below f_is_tuple_of f_as_tuples f_is_asks f_is_row_of f_check_asks f_check_row f_Gate_init f_Gate_wide f_Gate_place_of f_Gate_contains f_Gate_len f_Gate_eq f_is_gate_item f_wide_steps f_place_behind f__law_cell f__law_source f__law_draw f__law_is_int f__law_exact f__law_deep f__law_asks f__law_row f__law_gate f__law_passes f__law_number f__law_bad_item f_law c_AfterError c_WrongThing c_WrongItem c_BadAsks c_BadRow c_BadGate c_Gate p_Gate_wide : Addr} {t_LETTERS t_MOST_ASKS t_LONGEST_ROW t_MOST_PLACES : Tok}
    {od_is_integer an_is_integer od_is_tuple an_is_tuple od_is_below an_is_below od_is_tuple_of an_is_tuple_of od_as_tuples an_as_tuples od_is_asks an_is_asks od_is_row_of an_is_row_of od_check_asks an_check_asks od_check_row an_check_row od_is_gate_item an_is_gate_item od_wide_steps an_wide_steps od_place_behind an_place_behind od__law_cell an__law_cell od__law_source an__law_source od__law_draw an__law_draw od__law_is_int an__law_is_int od__law_exact an__law_exact od__law_deep an__law_deep od__law_asks an__law_asks od__law_row an__law_row od__law_gate an__law_gate od__law_passes an__law_passes od__law_number an__law_number od__law_bad_item an__law_bad_item od_law an_law od_WrongThing_init an_WrongThing_init od_WrongItem_init an_WrongItem_init od_Gate_init an_Gate_init od_Gate_place_of an_Gate_place_of od_Gate_contains an_Gate_contains od_Gate_len an_Gate_len od_Gate_eq an_Gate_eq od_Gate_wide an_Gate_wide : Option Addr} {sl_is_integer sl_is_tuple sl_is_below sl_is_tuple_of sl_as_tuples sl_is_asks sl_is_row_of sl_check_asks sl_check_row sl_is_gate_item sl_wide_steps sl_place_behind sl__law_cell sl__law_source sl__law_draw sl__law_is_int sl__law_exact sl__law_deep sl__law_asks sl__law_row sl__law_gate sl__law_passes sl__law_number sl__law_bad_item sl_law sl_WrongThing_init sl_WrongItem_init sl_Gate_init sl_Gate_place_of sl_Gate_contains sl_Gate_len sl_Gate_eq sl_Gate_wide : Array (Option Value)}
    {oc_is_integer dc_is_integer pm_is_integer cd_is_integer ct_is_integer kV_is_integer oc_is_tuple dc_is_tuple pm_is_tuple cd_is_tuple ct_is_tuple kV_is_tuple oc_is_below dc_is_below pm_is_below cd_is_below ct_is_below kV_is_below oc_is_tuple_of dc_is_tuple_of pm_is_tuple_of cd_is_tuple_of ct_is_tuple_of kV_is_tuple_of oc_as_tuples dc_as_tuples pm_as_tuples cd_as_tuples ct_as_tuples kV_as_tuples oc_is_asks dc_is_asks pm_is_asks cd_is_asks ct_is_asks kV_is_asks oc_is_row_of dc_is_row_of pm_is_row_of cd_is_row_of ct_is_row_of kV_is_row_of oc_check_asks dc_check_asks pm_check_asks cd_check_asks ct_check_asks kV_check_asks oc_check_row dc_check_row pm_check_row cd_check_row ct_check_row kV_check_row oc_is_gate_item dc_is_gate_item pm_is_gate_item cd_is_gate_item ct_is_gate_item kV_is_gate_item oc_wide_steps dc_wide_steps pm_wide_steps cd_wide_steps ct_wide_steps kV_wide_steps oc_place_behind dc_place_behind pm_place_behind cd_place_behind ct_place_behind kV_place_behind oc__law_cell dc__law_cell pm__law_cell cd__law_cell ct__law_cell kV__law_cell oc__law_source dc__law_source pm__law_source cd__law_source ct__law_source kV__law_source oc__law_draw dc__law_draw pm__law_draw cd__law_draw ct__law_draw kV__law_draw oc__law_is_int dc__law_is_int pm__law_is_int cd__law_is_int ct__law_is_int kV__law_is_int oc__law_exact dc__law_exact pm__law_exact cd__law_exact ct__law_exact kV__law_exact oc__law_deep dc__law_deep pm__law_deep cd__law_deep ct__law_deep kV__law_deep oc__law_asks dc__law_asks pm__law_asks cd__law_asks ct__law_asks kV__law_asks oc__law_row dc__law_row pm__law_row cd__law_row ct__law_row kV__law_row oc__law_gate dc__law_gate pm__law_gate cd__law_gate ct__law_gate kV__law_gate oc__law_passes dc__law_passes pm__law_passes cd__law_passes ct__law_passes kV__law_passes oc__law_number dc__law_number pm__law_number cd__law_number ct__law_number kV__law_number oc__law_bad_item dc__law_bad_item pm__law_bad_item cd__law_bad_item ct__law_bad_item kV__law_bad_item oc_law dc_law pm_law cd_law ct_law kV_law oc_WrongThing_init dc_WrongThing_init pm_WrongThing_init cd_WrongThing_init ct_WrongThing_init oc_WrongItem_init dc_WrongItem_init pm_WrongItem_init cd_WrongItem_init ct_WrongItem_init oc_Gate_init dc_Gate_init pm_Gate_init cd_Gate_init ct_Gate_init kV_Gate_init oc_Gate_place_of dc_Gate_place_of pm_Gate_place_of cd_Gate_place_of ct_Gate_place_of kV_Gate_place_of oc_Gate_contains dc_Gate_contains pm_Gate_contains cd_Gate_contains ct_Gate_contains kV_Gate_contains oc_Gate_len dc_Gate_len pm_Gate_len cd_Gate_len ct_Gate_len kV_Gate_len oc_Gate_eq dc_Gate_eq pm_Gate_eq cd_Gate_eq ct_Gate_eq kV_Gate_eq oc_Gate_wide dc_Gate_wide pm_Gate_wide cd_Gate_wide ct_Gate_wide kV_Gate_wide : Value} {rest_Gate_wide : List Value}
    {nm_BadAsks q_BadAsks : Str} {N_BadAsks0 : Addr} {bs_BadAsks : List Value} {sn_BadAsks : List Str} {sub_BadAsks : List Value} {ab_BadAsks : Bool} {col_BadAsks : Option Bool} {dd_BadAsks : Option Addr} {m0_BadAsks m1_BadAsks m2_BadAsks m3_BadAsks m5_BadAsks : Option Value}
    {nm_BadRow q_BadRow : Str} {N_BadRow0 : Addr} {bs_BadRow : List Value} {sn_BadRow : List Str} {sub_BadRow : List Value} {ab_BadRow : Bool} {col_BadRow : Option Bool} {dd_BadRow : Option Addr} {m0_BadRow m1_BadRow m2_BadRow m3_BadRow m5_BadRow : Option Value}
    {nm_BadGate q_BadGate : Str} {N_BadGate0 : Addr} {bs_BadGate : List Value} {sn_BadGate : List Str} {sub_BadGate : List Value} {ab_BadGate : Bool} {col_BadGate : Option Bool} {dd_BadGate : Option Addr} {m0_BadGate m1_BadGate m2_BadGate m3_BadGate m5_BadGate : Option Value}
    (X : K.In h) (G : h.Ns mainGlobals mg) (hfa : mg "law" = some (.ref fa))
    (n_ValueError : PySem.W.nsIn K mainGlobals "ValueError" = some none)
    (n_abs : PySem.W.nsIn K mainGlobals "abs" = some none)
    (n_all : PySem.W.nsIn K mainGlobals "all" = some none)
    (n_bool : PySem.W.nsIn K mainGlobals "bool" = some none)
    (n_classmethod : PySem.W.nsIn K mainGlobals "classmethod" = some none)
    (n_enumerate : PySem.W.nsIn K mainGlobals "enumerate" = some none)
    (n_int : PySem.W.nsIn K mainGlobals "int" = some none)
    (n_isinstance : PySem.W.nsIn K mainGlobals "isinstance" = some none)
    (n_len : PySem.W.nsIn K mainGlobals "len" = some none)
    (n_list : PySem.W.nsIn K mainGlobals "list" = some none)
    (n_range : PySem.W.nsIn K mainGlobals "range" = some none)
    (n_repr : PySem.W.nsIn K mainGlobals "repr" = some none)
    (n_str : PySem.W.nsIn K mainGlobals "str" = some none)
    (n_sum : PySem.W.nsIn K mainGlobals "sum" = some none)
    (n_tuple : PySem.W.nsIn K mainGlobals "tuple" = some none)
    (n_zip : PySem.W.nsIn K mainGlobals "zip" = some none)
    (m_LETTERS : PySem.W.nsIn K mainGlobals "LETTERS" = some (some (.str "abcdefgh" t_LETTERS)))
    (m_MOST_ASKS : PySem.W.nsIn K mainGlobals "MOST_ASKS" = some (some (.int 4 t_MOST_ASKS)))
    (m_LONGEST_ROW : PySem.W.nsIn K mainGlobals "LONGEST_ROW" = some (some (.int 2000 t_LONGEST_ROW)))
    (m_MOST_PLACES : PySem.W.nsIn K mainGlobals "MOST_PLACES" = some (some (.int 50 t_MOST_PLACES)))
    (m_AfterError : PySem.W.nsIn K mainGlobals "AfterError" = some (some (.ref c_AfterError)))
    (m_WrongThing : PySem.W.nsIn K mainGlobals "WrongThing" = some (some (.ref c_WrongThing)))
    (m_WrongItem : PySem.W.nsIn K mainGlobals "WrongItem" = some (some (.ref c_WrongItem)))
    (m_BadAsks : PySem.W.nsIn K mainGlobals "BadAsks" = some (some (.ref c_BadAsks)))
    (m_BadRow : PySem.W.nsIn K mainGlobals "BadRow" = some (some (.ref c_BadRow)))
    (m_BadGate : PySem.W.nsIn K mainGlobals "BadGate" = some (some (.ref c_BadGate)))
    (m_Gate : PySem.W.nsIn K mainGlobals "Gate" = some (some (.ref c_Gate)))
    (a_is_integer : PySem.W.nsIn K mainGlobals "is_integer" = some (some (.ref f_is_integer)))
    (l_is_integer : K.lookup f_is_integer = some ⟨oc_is_integer, od_is_integer, .func (PySem.W.fnOf "is_integer" "is_integer" (defArgs s_is_integer) (defBody s_is_integer) (defScope s_is_integer) .none kV_is_integer dc_is_integer pm_is_integer an_is_integer cd_is_integer ct_is_integer), sl_is_integer⟩)
    (cc_is_integer : PySem.W.codeIn K cd_is_integer "is_integer" = true)
    (kk_is_integer : PySem.W.keepIn K (.ref f_is_integer) = true)
    (a_is_tuple : PySem.W.nsIn K mainGlobals "is_tuple" = some (some (.ref f_is_tuple)))
    (l_is_tuple : K.lookup f_is_tuple = some ⟨oc_is_tuple, od_is_tuple, .func (PySem.W.fnOf "is_tuple" "is_tuple" (defArgs s_is_tuple) (defBody s_is_tuple) (defScope s_is_tuple) .none kV_is_tuple dc_is_tuple pm_is_tuple an_is_tuple cd_is_tuple ct_is_tuple), sl_is_tuple⟩)
    (cc_is_tuple : PySem.W.codeIn K cd_is_tuple "is_tuple" = true)
    (kk_is_tuple : PySem.W.keepIn K (.ref f_is_tuple) = true)
    (a_is_below : PySem.W.nsIn K mainGlobals "is_below" = some (some (.ref f_is_below)))
    (l_is_below : K.lookup f_is_below = some ⟨oc_is_below, od_is_below, .func (PySem.W.fnOf "is_below" "is_below" (defArgs s_is_below) (defBody s_is_below) (defScope s_is_below) .none kV_is_below dc_is_below pm_is_below an_is_below cd_is_below ct_is_below), sl_is_below⟩)
    (cc_is_below : PySem.W.codeIn K cd_is_below "is_below" = true)
    (kk_is_below : PySem.W.keepIn K (.ref f_is_below) = true)
    (a_is_tuple_of : PySem.W.nsIn K mainGlobals "is_tuple_of" = some (some (.ref f_is_tuple_of)))
    (l_is_tuple_of : K.lookup f_is_tuple_of = some ⟨oc_is_tuple_of, od_is_tuple_of, .func (PySem.W.fnOf "is_tuple_of" "is_tuple_of" (defArgs s_is_tuple_of) (defBody s_is_tuple_of) (defScope s_is_tuple_of) .none kV_is_tuple_of dc_is_tuple_of pm_is_tuple_of an_is_tuple_of cd_is_tuple_of ct_is_tuple_of), sl_is_tuple_of⟩)
    (cc_is_tuple_of : PySem.W.codeIn K cd_is_tuple_of "is_tuple_of" = true)
    (kk_is_tuple_of : PySem.W.keepIn K (.ref f_is_tuple_of) = true)
    (a_as_tuples : PySem.W.nsIn K mainGlobals "as_tuples" = some (some (.ref f_as_tuples)))
    (l_as_tuples : K.lookup f_as_tuples = some ⟨oc_as_tuples, od_as_tuples, .func (PySem.W.fnOf "as_tuples" "as_tuples" (defArgs s_as_tuples) (defBody s_as_tuples) (defScope s_as_tuples) .none kV_as_tuples dc_as_tuples pm_as_tuples an_as_tuples cd_as_tuples ct_as_tuples), sl_as_tuples⟩)
    (cc_as_tuples : PySem.W.codeIn K cd_as_tuples "as_tuples" = true)
    (kk_as_tuples : PySem.W.keepIn K (.ref f_as_tuples) = true)
    (a_is_asks : PySem.W.nsIn K mainGlobals "is_asks" = some (some (.ref f_is_asks)))
    (l_is_asks : K.lookup f_is_asks = some ⟨oc_is_asks, od_is_asks, .func (PySem.W.fnOf "is_asks" "is_asks" (defArgs s_is_asks) (defBody s_is_asks) (defScope s_is_asks) .none kV_is_asks dc_is_asks pm_is_asks an_is_asks cd_is_asks ct_is_asks), sl_is_asks⟩)
    (cc_is_asks : PySem.W.codeIn K cd_is_asks "is_asks" = true)
    (kk_is_asks : PySem.W.keepIn K (.ref f_is_asks) = true)
    (a_is_row_of : PySem.W.nsIn K mainGlobals "is_row_of" = some (some (.ref f_is_row_of)))
    (l_is_row_of : K.lookup f_is_row_of = some ⟨oc_is_row_of, od_is_row_of, .func (PySem.W.fnOf "is_row_of" "is_row_of" (defArgs s_is_row_of) (defBody s_is_row_of) (defScope s_is_row_of) .none kV_is_row_of dc_is_row_of pm_is_row_of an_is_row_of cd_is_row_of ct_is_row_of), sl_is_row_of⟩)
    (cc_is_row_of : PySem.W.codeIn K cd_is_row_of "is_row_of" = true)
    (kk_is_row_of : PySem.W.keepIn K (.ref f_is_row_of) = true)
    (a_check_asks : PySem.W.nsIn K mainGlobals "check_asks" = some (some (.ref f_check_asks)))
    (l_check_asks : K.lookup f_check_asks = some ⟨oc_check_asks, od_check_asks, .func (PySem.W.fnOf "check_asks" "check_asks" (defArgs s_check_asks) (defBody s_check_asks) (defScope s_check_asks) .none kV_check_asks dc_check_asks pm_check_asks an_check_asks cd_check_asks ct_check_asks), sl_check_asks⟩)
    (cc_check_asks : PySem.W.codeIn K cd_check_asks "check_asks" = true)
    (kk_check_asks : PySem.W.keepIn K (.ref f_check_asks) = true)
    (a_check_row : PySem.W.nsIn K mainGlobals "check_row" = some (some (.ref f_check_row)))
    (l_check_row : K.lookup f_check_row = some ⟨oc_check_row, od_check_row, .func (PySem.W.fnOf "check_row" "check_row" (defArgs s_check_row) (defBody s_check_row) (defScope s_check_row) .none kV_check_row dc_check_row pm_check_row an_check_row cd_check_row ct_check_row), sl_check_row⟩)
    (cc_check_row : PySem.W.codeIn K cd_check_row "check_row" = true)
    (kk_check_row : PySem.W.keepIn K (.ref f_check_row) = true)
    (a_is_gate_item : PySem.W.nsIn K mainGlobals "is_gate_item" = some (some (.ref f_is_gate_item)))
    (l_is_gate_item : K.lookup f_is_gate_item = some ⟨oc_is_gate_item, od_is_gate_item, .func (PySem.W.fnOf "is_gate_item" "is_gate_item" (defArgs s_is_gate_item) (defBody s_is_gate_item) (defScope s_is_gate_item) .none kV_is_gate_item dc_is_gate_item pm_is_gate_item an_is_gate_item cd_is_gate_item ct_is_gate_item), sl_is_gate_item⟩)
    (cc_is_gate_item : PySem.W.codeIn K cd_is_gate_item "is_gate_item" = true)
    (kk_is_gate_item : PySem.W.keepIn K (.ref f_is_gate_item) = true)
    (a_wide_steps : PySem.W.nsIn K mainGlobals "wide_steps" = some (some (.ref f_wide_steps)))
    (l_wide_steps : K.lookup f_wide_steps = some ⟨oc_wide_steps, od_wide_steps, .func (PySem.W.fnOf "wide_steps" "wide_steps" (defArgs s_wide_steps) (defBody s_wide_steps) (defScope s_wide_steps) .none kV_wide_steps dc_wide_steps pm_wide_steps an_wide_steps cd_wide_steps ct_wide_steps), sl_wide_steps⟩)
    (cc_wide_steps : PySem.W.codeIn K cd_wide_steps "wide_steps" = true)
    (kk_wide_steps : PySem.W.keepIn K (.ref f_wide_steps) = true)
    (a_place_behind : PySem.W.nsIn K mainGlobals "place_behind" = some (some (.ref f_place_behind)))
    (l_place_behind : K.lookup f_place_behind = some ⟨oc_place_behind, od_place_behind, .func (PySem.W.fnOf "place_behind" "place_behind" (defArgs s_place_behind) (defBody s_place_behind) (defScope s_place_behind) .none kV_place_behind dc_place_behind pm_place_behind an_place_behind cd_place_behind ct_place_behind), sl_place_behind⟩)
    (cc_place_behind : PySem.W.codeIn K cd_place_behind "place_behind" = true)
    (kk_place_behind : PySem.W.keepIn K (.ref f_place_behind) = true)
    (a__law_cell : PySem.W.nsIn K mainGlobals "_law_cell" = some (some (.ref f__law_cell)))
    (l__law_cell : K.lookup f__law_cell = some ⟨oc__law_cell, od__law_cell, .func (PySem.W.fnOf "_law_cell" "_law_cell" (defArgs s__law_cell) (defBody s__law_cell) (defScope s__law_cell) .none kV__law_cell dc__law_cell pm__law_cell an__law_cell cd__law_cell ct__law_cell), sl__law_cell⟩)
    (cc__law_cell : PySem.W.codeIn K cd__law_cell "_law_cell" = true)
    (kk__law_cell : PySem.W.keepIn K (.ref f__law_cell) = true)
    (a__law_source : PySem.W.nsIn K mainGlobals "_law_source" = some (some (.ref f__law_source)))
    (l__law_source : K.lookup f__law_source = some ⟨oc__law_source, od__law_source, .func (PySem.W.fnOf "_law_source" "_law_source" (defArgs s__law_source) (defBody s__law_source) (defScope s__law_source) .none kV__law_source dc__law_source pm__law_source an__law_source cd__law_source ct__law_source), sl__law_source⟩)
    (cc__law_source : PySem.W.codeIn K cd__law_source "_law_source" = true)
    (kk__law_source : PySem.W.keepIn K (.ref f__law_source) = true)
    (a__law_draw : PySem.W.nsIn K mainGlobals "_law_draw" = some (some (.ref f__law_draw)))
    (l__law_draw : K.lookup f__law_draw = some ⟨oc__law_draw, od__law_draw, .func (PySem.W.fnOf "_law_draw" "_law_draw" (defArgs s__law_draw) (defBody s__law_draw) (defScope s__law_draw) .none kV__law_draw dc__law_draw pm__law_draw an__law_draw cd__law_draw ct__law_draw), sl__law_draw⟩)
    (cc__law_draw : PySem.W.codeIn K cd__law_draw "_law_draw" = true)
    (kk__law_draw : PySem.W.keepIn K (.ref f__law_draw) = true)
    (a__law_is_int : PySem.W.nsIn K mainGlobals "_law_is_int" = some (some (.ref f__law_is_int)))
    (l__law_is_int : K.lookup f__law_is_int = some ⟨oc__law_is_int, od__law_is_int, .func (PySem.W.fnOf "_law_is_int" "_law_is_int" (defArgs s__law_is_int) (defBody s__law_is_int) (defScope s__law_is_int) .none kV__law_is_int dc__law_is_int pm__law_is_int an__law_is_int cd__law_is_int ct__law_is_int), sl__law_is_int⟩)
    (cc__law_is_int : PySem.W.codeIn K cd__law_is_int "_law_is_int" = true)
    (kk__law_is_int : PySem.W.keepIn K (.ref f__law_is_int) = true)
    (a__law_exact : PySem.W.nsIn K mainGlobals "_law_exact" = some (some (.ref f__law_exact)))
    (l__law_exact : K.lookup f__law_exact = some ⟨oc__law_exact, od__law_exact, .func (PySem.W.fnOf "_law_exact" "_law_exact" (defArgs s__law_exact) (defBody s__law_exact) (defScope s__law_exact) .none kV__law_exact dc__law_exact pm__law_exact an__law_exact cd__law_exact ct__law_exact), sl__law_exact⟩)
    (cc__law_exact : PySem.W.codeIn K cd__law_exact "_law_exact" = true)
    (kk__law_exact : PySem.W.keepIn K (.ref f__law_exact) = true)
    (a__law_deep : PySem.W.nsIn K mainGlobals "_law_deep" = some (some (.ref f__law_deep)))
    (l__law_deep : K.lookup f__law_deep = some ⟨oc__law_deep, od__law_deep, .func (PySem.W.fnOf "_law_deep" "_law_deep" (defArgs s__law_deep) (defBody s__law_deep) (defScope s__law_deep) .none kV__law_deep dc__law_deep pm__law_deep an__law_deep cd__law_deep ct__law_deep), sl__law_deep⟩)
    (cc__law_deep : PySem.W.codeIn K cd__law_deep "_law_deep" = true)
    (kk__law_deep : PySem.W.keepIn K (.ref f__law_deep) = true)
    (a__law_asks : PySem.W.nsIn K mainGlobals "_law_asks" = some (some (.ref f__law_asks)))
    (l__law_asks : K.lookup f__law_asks = some ⟨oc__law_asks, od__law_asks, .func (PySem.W.fnOf "_law_asks" "_law_asks" (defArgs s__law_asks) (defBody s__law_asks) (defScope s__law_asks) .none kV__law_asks dc__law_asks pm__law_asks an__law_asks cd__law_asks ct__law_asks), sl__law_asks⟩)
    (cc__law_asks : PySem.W.codeIn K cd__law_asks "_law_asks" = true)
    (kk__law_asks : PySem.W.keepIn K (.ref f__law_asks) = true)
    (a__law_row : PySem.W.nsIn K mainGlobals "_law_row" = some (some (.ref f__law_row)))
    (l__law_row : K.lookup f__law_row = some ⟨oc__law_row, od__law_row, .func (PySem.W.fnOf "_law_row" "_law_row" (defArgs s__law_row) (defBody s__law_row) (defScope s__law_row) .none kV__law_row dc__law_row pm__law_row an__law_row cd__law_row ct__law_row), sl__law_row⟩)
    (cc__law_row : PySem.W.codeIn K cd__law_row "_law_row" = true)
    (kk__law_row : PySem.W.keepIn K (.ref f__law_row) = true)
    (a__law_gate : PySem.W.nsIn K mainGlobals "_law_gate" = some (some (.ref f__law_gate)))
    (l__law_gate : K.lookup f__law_gate = some ⟨oc__law_gate, od__law_gate, .func (PySem.W.fnOf "_law_gate" "_law_gate" (defArgs s__law_gate) (defBody s__law_gate) (defScope s__law_gate) .none kV__law_gate dc__law_gate pm__law_gate an__law_gate cd__law_gate ct__law_gate), sl__law_gate⟩)
    (cc__law_gate : PySem.W.codeIn K cd__law_gate "_law_gate" = true)
    (kk__law_gate : PySem.W.keepIn K (.ref f__law_gate) = true)
    (a__law_passes : PySem.W.nsIn K mainGlobals "_law_passes" = some (some (.ref f__law_passes)))
    (l__law_passes : K.lookup f__law_passes = some ⟨oc__law_passes, od__law_passes, .func (PySem.W.fnOf "_law_passes" "_law_passes" (defArgs s__law_passes) (defBody s__law_passes) (defScope s__law_passes) .none kV__law_passes dc__law_passes pm__law_passes an__law_passes cd__law_passes ct__law_passes), sl__law_passes⟩)
    (cc__law_passes : PySem.W.codeIn K cd__law_passes "_law_passes" = true)
    (kk__law_passes : PySem.W.keepIn K (.ref f__law_passes) = true)
    (a__law_number : PySem.W.nsIn K mainGlobals "_law_number" = some (some (.ref f__law_number)))
    (l__law_number : K.lookup f__law_number = some ⟨oc__law_number, od__law_number, .func (PySem.W.fnOf "_law_number" "_law_number" (defArgs s__law_number) (defBody s__law_number) (defScope s__law_number) .none kV__law_number dc__law_number pm__law_number an__law_number cd__law_number ct__law_number), sl__law_number⟩)
    (cc__law_number : PySem.W.codeIn K cd__law_number "_law_number" = true)
    (kk__law_number : PySem.W.keepIn K (.ref f__law_number) = true)
    (a__law_bad_item : PySem.W.nsIn K mainGlobals "_law_bad_item" = some (some (.ref f__law_bad_item)))
    (l__law_bad_item : K.lookup f__law_bad_item = some ⟨oc__law_bad_item, od__law_bad_item, .func (PySem.W.fnOf "_law_bad_item" "_law_bad_item" (defArgs s__law_bad_item) (defBody s__law_bad_item) (defScope s__law_bad_item) .none kV__law_bad_item dc__law_bad_item pm__law_bad_item an__law_bad_item cd__law_bad_item ct__law_bad_item), sl__law_bad_item⟩)
    (cc__law_bad_item : PySem.W.codeIn K cd__law_bad_item "_law_bad_item" = true)
    (kk__law_bad_item : PySem.W.keepIn K (.ref f__law_bad_item) = true)
    (a_law : PySem.W.nsIn K mainGlobals "law" = some (some (.ref f_law)))
    (l_law : K.lookup f_law = some ⟨oc_law, od_law, .func (PySem.W.fnOf "law" "law" (defArgs s_law) (defBody s_law) (defScope s_law) .none kV_law dc_law pm_law an_law cd_law ct_law), sl_law⟩)
    (cc_law : PySem.W.codeIn K cd_law "law" = true)
    (kk_law : PySem.W.keepIn K (.ref f_law) = true)
    (x_BadAsks : K.lookup c_BadAsks = some (excClassObj nm_BadAsks q_BadAsks c_BadAsks N_BadAsks0 bs_BadAsks [.ref c_WrongThing, .ref c_AfterError, .type "ValueError", .type "Exception", .type "BaseException", .type "object"] true sn_BadAsks sub_BadAsks ab_BadAsks col_BadAsks dd_BadAsks m0_BadAsks m1_BadAsks m2_BadAsks m3_BadAsks m5_BadAsks "ValueError.__new__"))
    (sa_BadAsks : PySem.W.findIn K (.ref c_BadAsks) "__setattr__" = some (some (.builtin "object.__setattr__")))
    (ga_BadAsks : PySem.W.findIn K (.ref c_BadAsks) "__getattribute__" = some (some (.builtin "BaseException.__getattribute__")))
    (gg_BadAsks : PySem.W.findIn K (.ref c_BadAsks) "__getattr__" = some none)
    (nb_BadAsks : PySem.W.findIn K (.ref c_BadAsks) "thing" = some none)
    (ii_BadAsks : PySem.W.findIn K (.ref c_BadAsks) "__init__" = some (some (.ref f_WrongThing_init)))
    (t_WrongThing_init : PySem.W.typeIn K (.ref f_WrongThing_init) = some (.type "function"))
    (l_WrongThing_init : K.lookup f_WrongThing_init = some ⟨oc_WrongThing_init, od_WrongThing_init, .func (PySem.W.fnOf "__init__" "WrongThing.__init__" (PySem.LowX.iA ⟨6, 17, 6, 21⟩ ⟨6, 23, 6, 28⟩) (PySem.LowX.iB ⟨7, 8, 7, 12⟩ ⟨7, 8, 7, 18⟩ ⟨7, 21, 7, 26⟩ ⟨7, 8, 7, 26⟩) PySem.LowX.iS .none .none dc_WrongThing_init pm_WrongThing_init an_WrongThing_init cd_WrongThing_init ct_WrongThing_init), sl_WrongThing_init⟩)
    (cc_WrongThing_init : PySem.W.codeIn K cd_WrongThing_init "WrongThing.__init__" = true)
    (kc_BadAsks : PySem.W.keepIn K (.ref c_BadAsks) = true)
    (eb_BadAsks : PySem.W.subIn K (.ref c_BadAsks) (.type "BaseException") = some true)
    (ty_BadAsks : PySem.W.typeIn K (.ref c_BadAsks) = some (.type "type"))
    (hd_BadAsks : PySem.W.hasDictIn K c_BadAsks = true)
    (ha_BadAsks : PySem.W.findIn K (.ref c_BadAsks) "__class__" = some (some (.builtin "object.__class__")))
    (hm_BadAsks : PySem.W.mroIn K c_BadAsks (.type "object") = some true)
    (te_BadAsks : PySem.W.exmOne K (.ref c_BadAsks) (.ref c_BadAsks) = some true)
    (x_BadRow : K.lookup c_BadRow = some (excClassObj nm_BadRow q_BadRow c_BadRow N_BadRow0 bs_BadRow [.ref c_WrongThing, .ref c_AfterError, .type "ValueError", .type "Exception", .type "BaseException", .type "object"] true sn_BadRow sub_BadRow ab_BadRow col_BadRow dd_BadRow m0_BadRow m1_BadRow m2_BadRow m3_BadRow m5_BadRow "ValueError.__new__"))
    (sa_BadRow : PySem.W.findIn K (.ref c_BadRow) "__setattr__" = some (some (.builtin "object.__setattr__")))
    (ga_BadRow : PySem.W.findIn K (.ref c_BadRow) "__getattribute__" = some (some (.builtin "BaseException.__getattribute__")))
    (gg_BadRow : PySem.W.findIn K (.ref c_BadRow) "__getattr__" = some none)
    (nb_BadRow : PySem.W.findIn K (.ref c_BadRow) "thing" = some none)
    (ii_BadRow : PySem.W.findIn K (.ref c_BadRow) "__init__" = some (some (.ref f_WrongThing_init)))
    (kc_BadRow : PySem.W.keepIn K (.ref c_BadRow) = true)
    (eb_BadRow : PySem.W.subIn K (.ref c_BadRow) (.type "BaseException") = some true)
    (ty_BadRow : PySem.W.typeIn K (.ref c_BadRow) = some (.type "type"))
    (hd_BadRow : PySem.W.hasDictIn K c_BadRow = true)
    (ha_BadRow : PySem.W.findIn K (.ref c_BadRow) "__class__" = some (some (.builtin "object.__class__")))
    (hm_BadRow : PySem.W.mroIn K c_BadRow (.type "object") = some true)
    (te_BadRow : PySem.W.exmOne K (.ref c_BadRow) (.ref c_BadRow) = some true)
    (x_BadGate : K.lookup c_BadGate = some (excClassObj nm_BadGate q_BadGate c_BadGate N_BadGate0 bs_BadGate [.ref c_WrongItem, .ref c_AfterError, .type "ValueError", .type "Exception", .type "BaseException", .type "object"] true sn_BadGate sub_BadGate ab_BadGate col_BadGate dd_BadGate m0_BadGate m1_BadGate m2_BadGate m3_BadGate m5_BadGate "ValueError.__new__"))
    (sa_BadGate : PySem.W.findIn K (.ref c_BadGate) "__setattr__" = some (some (.builtin "object.__setattr__")))
    (ga_BadGate : PySem.W.findIn K (.ref c_BadGate) "__getattribute__" = some (some (.builtin "BaseException.__getattribute__")))
    (gg_BadGate : PySem.W.findIn K (.ref c_BadGate) "__getattr__" = some none)
    (nb_BadGate : PySem.W.findIn K (.ref c_BadGate) "number" = some none)
    (ii_BadGate : PySem.W.findIn K (.ref c_BadGate) "__init__" = some (some (.ref f_WrongItem_init)))
    (t_WrongItem_init : PySem.W.typeIn K (.ref f_WrongItem_init) = some (.type "function"))
    (l_WrongItem_init : K.lookup f_WrongItem_init = some ⟨oc_WrongItem_init, od_WrongItem_init, .func (PySem.W.fnOf "__init__" "WrongItem.__init__" (PySem.LowN.iA ⟨10, 17, 10, 21⟩ ⟨10, 23, 10, 29⟩) (PySem.LowN.iB ⟨11, 8, 11, 12⟩ ⟨11, 8, 11, 19⟩ ⟨11, 22, 11, 28⟩ ⟨11, 8, 11, 28⟩) PySem.LowN.iS .none .none dc_WrongItem_init pm_WrongItem_init an_WrongItem_init cd_WrongItem_init ct_WrongItem_init), sl_WrongItem_init⟩)
    (cc_WrongItem_init : PySem.W.codeIn K cd_WrongItem_init "WrongItem.__init__" = true)
    (kc_BadGate : PySem.W.keepIn K (.ref c_BadGate) = true)
    (eb_BadGate : PySem.W.subIn K (.ref c_BadGate) (.type "BaseException") = some true)
    (ty_BadGate : PySem.W.typeIn K (.ref c_BadGate) = some (.type "type"))
    (hd_BadGate : PySem.W.hasDictIn K c_BadGate = true)
    (ha_BadGate : PySem.W.findIn K (.ref c_BadGate) "__class__" = some (some (.builtin "object.__class__")))
    (hm_BadGate : PySem.W.mroIn K c_BadGate (.type "object") = some true)
    (te_BadGate : PySem.W.exmOne K (.ref c_BadGate) (.ref c_BadGate) = some true)
    (hnC : PySem.W.specialIn K (.builtin "object.__class__") "__get__" = some (some (.builtin "getset_descriptor.__get__")))
    (htC : PySem.W.takesIn K (.builtin "object.__class__") = some true)
    (pg_Gate : PySem.W.plainGet K c_Gate Str.empty = true)
    (hd_Gate : PySem.W.hasDictIn K c_Gate = true)
    (po_Gate : PySem.W.plainOver K c_Gate = true)
    (sa_Gate : PySem.W.findIn K (.ref c_Gate) "__setattr__" = some (some (.builtin "object.__setattr__")))
    (na_Gate_asks : PySem.W.findIn K (.ref c_Gate) "asks" = some none)
    (na_Gate_steps : PySem.W.findIn K (.ref c_Gate) "steps" = some none)
    (mk_Gate : PySem.W.makesIn K c_Gate = true)
    (kc_Gate : PySem.W.keepIn K (.ref c_Gate) = true)
    (ha_Gate : PySem.W.findIn K (.ref c_Gate) "__class__" = some (some (.builtin "object.__class__")))
    (hm_Gate : PySem.W.mroIn K c_Gate (.type "object") = some true)
    (fi_Gate_init : PySem.W.findIn K (.ref c_Gate) "__init__" = some (some (.ref f_Gate_init)))
    (l_Gate_init : K.lookup f_Gate_init = some ⟨oc_Gate_init, od_Gate_init, .func (PySem.W.fnOf "__init__" "Gate.__init__" (defArgs s_Gate_init) (defBody s_Gate_init) (defScope s_Gate_init) .none kV_Gate_init dc_Gate_init pm_Gate_init an_Gate_init cd_Gate_init ct_Gate_init), sl_Gate_init⟩)
    (cc_Gate_init : PySem.W.codeIn K cd_Gate_init "Gate.__init__" = true)
    (kk_Gate_init : PySem.W.keepIn K (.ref f_Gate_init) = true)
    (if_Gate_init : PySem.W.isFn K (.ref f_Gate_init) = true)
    (fi_Gate_place_of : PySem.W.findIn K (.ref c_Gate) "place_of" = some (some (.ref f_Gate_place_of)))
    (l_Gate_place_of : K.lookup f_Gate_place_of = some ⟨oc_Gate_place_of, od_Gate_place_of, .func (PySem.W.fnOf "place_of" "Gate.place_of" (defArgs s_Gate_place_of) (defBody s_Gate_place_of) (defScope s_Gate_place_of) .none kV_Gate_place_of dc_Gate_place_of pm_Gate_place_of an_Gate_place_of cd_Gate_place_of ct_Gate_place_of), sl_Gate_place_of⟩)
    (cc_Gate_place_of : PySem.W.codeIn K cd_Gate_place_of "Gate.place_of" = true)
    (kk_Gate_place_of : PySem.W.keepIn K (.ref f_Gate_place_of) = true)
    (if_Gate_place_of : PySem.W.isFn K (.ref f_Gate_place_of) = true)
    (fi_Gate_contains : PySem.W.findIn K (.ref c_Gate) "__contains__" = some (some (.ref f_Gate_contains)))
    (l_Gate_contains : K.lookup f_Gate_contains = some ⟨oc_Gate_contains, od_Gate_contains, .func (PySem.W.fnOf "__contains__" "Gate.__contains__" (defArgs s_Gate_contains) (defBody s_Gate_contains) (defScope s_Gate_contains) .none kV_Gate_contains dc_Gate_contains pm_Gate_contains an_Gate_contains cd_Gate_contains ct_Gate_contains), sl_Gate_contains⟩)
    (cc_Gate_contains : PySem.W.codeIn K cd_Gate_contains "Gate.__contains__" = true)
    (kk_Gate_contains : PySem.W.keepIn K (.ref f_Gate_contains) = true)
    (if_Gate_contains : PySem.W.isFn K (.ref f_Gate_contains) = true)
    (fi_Gate_len : PySem.W.findIn K (.ref c_Gate) "__len__" = some (some (.ref f_Gate_len)))
    (l_Gate_len : K.lookup f_Gate_len = some ⟨oc_Gate_len, od_Gate_len, .func (PySem.W.fnOf "__len__" "Gate.__len__" (defArgs s_Gate_len) (defBody s_Gate_len) (defScope s_Gate_len) .none kV_Gate_len dc_Gate_len pm_Gate_len an_Gate_len cd_Gate_len ct_Gate_len), sl_Gate_len⟩)
    (cc_Gate_len : PySem.W.codeIn K cd_Gate_len "Gate.__len__" = true)
    (kk_Gate_len : PySem.W.keepIn K (.ref f_Gate_len) = true)
    (if_Gate_len : PySem.W.isFn K (.ref f_Gate_len) = true)
    (fi_Gate_eq : PySem.W.findIn K (.ref c_Gate) "__eq__" = some (some (.ref f_Gate_eq)))
    (l_Gate_eq : K.lookup f_Gate_eq = some ⟨oc_Gate_eq, od_Gate_eq, .func (PySem.W.fnOf "__eq__" "Gate.__eq__" (defArgs s_Gate_eq) (defBody s_Gate_eq) (defScope s_Gate_eq) .none kV_Gate_eq dc_Gate_eq pm_Gate_eq an_Gate_eq cd_Gate_eq ct_Gate_eq), sl_Gate_eq⟩)
    (cc_Gate_eq : PySem.W.codeIn K cd_Gate_eq "Gate.__eq__" = true)
    (kk_Gate_eq : PySem.W.keepIn K (.ref f_Gate_eq) = true)
    (if_Gate_eq : PySem.W.isFn K (.ref f_Gate_eq) = true)
    (rd_Gate : PySem.W.readsIn K c_Gate (.type "type") = true)
    (sg_Gate : PySem.W.specialIn K (.ref c_Gate) "__getattribute__" = some (some (.builtin "type.__getattribute__")))
    (fc_Gate_wide : PySem.W.findCls K (.ref c_Gate) (.type "type") "wide" = some (.get (.builtin "classmethod.__get__") (.ref p_Gate_wide) .none (.ref c_Gate)))
    (rc_Gate_wide : PySem.W.recIn K p_Gate_wide "classmethod" = some (.ref f_Gate_wide :: rest_Gate_wide))
    (l_Gate_wide : K.lookup f_Gate_wide = some ⟨oc_Gate_wide, od_Gate_wide, .func (PySem.W.fnOf "wide" "Gate.wide" (defArgs s_Gate_wide) (defBody s_Gate_wide) (defScope s_Gate_wide) .none kV_Gate_wide dc_Gate_wide pm_Gate_wide an_Gate_wide cd_Gate_wide ct_Gate_wide), sl_Gate_wide⟩)
    (cc_Gate_wide : PySem.W.codeIn K cd_Gate_wide "Gate.wide" = true)
    (kk_Gate_wide : PySem.W.keepIn K (.ref f_Gate_wide) = true)
    (fi_Gate_wide : PySem.W.fnIn K f_Gate_wide = true)
    (isG : PySem.W.kitOne K (.ref c_Gate) (.ref c_Gate) = some true)
    (isStr : PySem.W.kitOne K (.type "str") (.ref c_Gate) = some false)
    (nfG : PySem.W.notFirst K c_Gate (.ref c_Gate) = true)
    (nfS : PySem.W.notFirst K c_Gate (.type "str") = true)
    (kGI : PySem.W.kitOne K (.ref c_BadGate) (.ref c_WrongItem) = some true)
    (kGF : PySem.W.kitOne K (.ref c_BadGate) (.ref c_AfterError) = some true)
    (kGV : PySem.W.kitOne K (.ref c_BadGate) (.type "ValueError") = some true)
    (xAG : PySem.W.exmOne K (.ref c_BadAsks) (.ref c_BadGate) = some false) :
    ∃ fd : FuncData, (∀ (s : Shared) (u : Value), BindsTo s fd ⟨[u], []⟩ [("_law_script", u)]) ∧ ∀ base : Heap, K.In base → base.Ns mainGlobals mg → FnOk P w K mg base CX0 9 fa fd ["_law_script"] (spLaw K) := by
  have e := hfa.symm.trans (PySem.W.mg_of X G a_law)
  cases e
  let A : Ad := ⟨f_WrongThing_init, f_WrongItem_init, f_is_integer, f_is_tuple, f_is_below, f_is_tuple_of, f_as_tuples, f_is_asks, f_is_row_of, f_check_asks, f_check_row, f_Gate_init, f_Gate_wide, f_Gate_place_of, f_Gate_contains, f_Gate_len, f_Gate_eq, f_is_gate_item, f_wide_steps, f_place_behind, f__law_cell, f__law_source, f__law_draw, f__law_is_int, f__law_exact, f__law_deep, f__law_asks, f__law_row, f__law_gate, f__law_passes, f__law_number, f__law_bad_item, fa, c_AfterError, c_WrongThing, c_WrongItem, c_BadAsks, c_BadRow, c_BadGate, c_Gate, t_LETTERS, t_MOST_ASKS, t_LONGEST_ROW, t_MOST_PLACES⟩
  have T : Tx K mg A := {
    nValueError := PySem.W.mg_none_of X G n_ValueError,
    nabs := PySem.W.mg_none_of X G n_abs,
    nall := PySem.W.mg_none_of X G n_all,
    nbool := PySem.W.mg_none_of X G n_bool,
    nclassmethod := PySem.W.mg_none_of X G n_classmethod,
    nenumerate := PySem.W.mg_none_of X G n_enumerate,
    nint := PySem.W.mg_none_of X G n_int,
    nisinstance := PySem.W.mg_none_of X G n_isinstance,
    nlen := PySem.W.mg_none_of X G n_len,
    nlist := PySem.W.mg_none_of X G n_list,
    nrange := PySem.W.mg_none_of X G n_range,
    nrepr := PySem.W.mg_none_of X G n_repr,
    nstr := PySem.W.mg_none_of X G n_str,
    nsum := PySem.W.mg_none_of X G n_sum,
    ntuple := PySem.W.mg_none_of X G n_tuple,
    nzip := PySem.W.mg_none_of X G n_zip,
    mLETTERS := PySem.W.mg_of X G m_LETTERS,
    mMOST_ASKS := PySem.W.mg_of X G m_MOST_ASKS,
    mLONGEST_ROW := PySem.W.mg_of X G m_LONGEST_ROW,
    mMOST_PLACES := PySem.W.mg_of X G m_MOST_PLACES,
    mAfterError := PySem.W.mg_of X G m_AfterError,
    mWrongThing := PySem.W.mg_of X G m_WrongThing,
    mWrongItem := PySem.W.mg_of X G m_WrongItem,
    mBadAsks := PySem.W.mg_of X G m_BadAsks,
    mBadRow := PySem.W.mg_of X G m_BadRow,
    mBadGate := PySem.W.mg_of X G m_BadGate,
    mGate := PySem.W.mg_of X G m_Gate,
    mis_integer := PySem.W.mg_of X G a_is_integer,
    mis_tuple := PySem.W.mg_of X G a_is_tuple,
    mis_below := PySem.W.mg_of X G a_is_below,
    mis_tuple_of := PySem.W.mg_of X G a_is_tuple_of,
    mas_tuples := PySem.W.mg_of X G a_as_tuples,
    mis_asks := PySem.W.mg_of X G a_is_asks,
    mis_row_of := PySem.W.mg_of X G a_is_row_of,
    mcheck_asks := PySem.W.mg_of X G a_check_asks,
    mcheck_row := PySem.W.mg_of X G a_check_row,
    mis_gate_item := PySem.W.mg_of X G a_is_gate_item,
    mwide_steps := PySem.W.mg_of X G a_wide_steps,
    mplace_behind := PySem.W.mg_of X G a_place_behind,
    m_law_cell := PySem.W.mg_of X G a__law_cell,
    m_law_source := PySem.W.mg_of X G a__law_source,
    m_law_draw := PySem.W.mg_of X G a__law_draw,
    m_law_is_int := PySem.W.mg_of X G a__law_is_int,
    m_law_exact := PySem.W.mg_of X G a__law_exact,
    m_law_deep := PySem.W.mg_of X G a__law_deep,
    m_law_asks := PySem.W.mg_of X G a__law_asks,
    m_law_row := PySem.W.mg_of X G a__law_row,
    m_law_gate := PySem.W.mg_of X G a__law_gate,
    m_law_passes := PySem.W.mg_of X G a__law_passes,
    m_law_number := PySem.W.mg_of X G a__law_number,
    m_law_bad_item := PySem.W.mg_of X G a__law_bad_item,
    mlaw := PySem.W.mg_of X G a_law }
  have L_BadAsks : PySem.LowX.LowTxt K mg "BadAsks" c_BadAsks f_WrongThing_init :=
    { gC := PySem.W.mg_of X G m_BadAsks, cls := ⟨nm_BadAsks, q_BadAsks, N_BadAsks0, bs_BadAsks, _, sn_BadAsks, sub_BadAsks, ab_BadAsks, col_BadAsks, dd_BadAsks, m0_BadAsks, m1_BadAsks, m2_BadAsks, m3_BadAsks, m5_BadAsks, x_BadAsks, rfl⟩, sa := sa_BadAsks, ga := ga_BadAsks, gg := gg_BadAsks, noN := nb_BadAsks, iC := ii_BadAsks, tC := t_WrongThing_init, kC := kc_BadAsks, exC := eb_BadAsks, tyC := ty_BadAsks, hdC := hd_BadAsks, te := te_BadAsks,
      fn := ⟨_, _, _, _, _, _, _, _, _, _, _, _, _, _, l_WrongThing_init, cc_WrongThing_init⟩ }
  have E_BadAsks : ExcC K c_BadAsks := ⟨ga_BadAsks, gg_BadAsks, eb_BadAsks, hd_BadAsks, ha_BadAsks, hnC, htC, hm_BadAsks⟩
  have L_BadRow : PySem.LowX.LowTxt K mg "BadRow" c_BadRow f_WrongThing_init :=
    { gC := PySem.W.mg_of X G m_BadRow, cls := ⟨nm_BadRow, q_BadRow, N_BadRow0, bs_BadRow, _, sn_BadRow, sub_BadRow, ab_BadRow, col_BadRow, dd_BadRow, m0_BadRow, m1_BadRow, m2_BadRow, m3_BadRow, m5_BadRow, x_BadRow, rfl⟩, sa := sa_BadRow, ga := ga_BadRow, gg := gg_BadRow, noN := nb_BadRow, iC := ii_BadRow, tC := t_WrongThing_init, kC := kc_BadRow, exC := eb_BadRow, tyC := ty_BadRow, hdC := hd_BadRow, te := te_BadRow,
      fn := ⟨_, _, _, _, _, _, _, _, _, _, _, _, _, _, l_WrongThing_init, cc_WrongThing_init⟩ }
  have E_BadRow : ExcC K c_BadRow := ⟨ga_BadRow, gg_BadRow, eb_BadRow, hd_BadRow, ha_BadRow, hnC, htC, hm_BadRow⟩
  have L_BadGate : PySem.LowN.LowTxt K mg "BadGate" c_BadGate f_WrongItem_init :=
    { gC := PySem.W.mg_of X G m_BadGate, cls := ⟨nm_BadGate, q_BadGate, N_BadGate0, bs_BadGate, _, sn_BadGate, sub_BadGate, ab_BadGate, col_BadGate, dd_BadGate, m0_BadGate, m1_BadGate, m2_BadGate, m3_BadGate, m5_BadGate, x_BadGate, rfl⟩, sa := sa_BadGate, ga := ga_BadGate, gg := gg_BadGate, noN := nb_BadGate, iC := ii_BadGate, tC := t_WrongItem_init, kC := kc_BadGate, exC := eb_BadGate, tyC := ty_BadGate, hdC := hd_BadGate, te := te_BadGate,
      fn := ⟨_, _, _, _, _, _, _, _, _, _, _, _, _, _, l_WrongItem_init, cc_WrongItem_init⟩ }
  have E_BadGate : ExcC K c_BadGate := ⟨ga_BadGate, gg_BadGate, eb_BadGate, hd_BadGate, ha_BadGate, hnC, htC, hm_BadGate⟩
  have F_is_integer := fun_mk (st := s_is_integer) l_is_integer cc_is_integer kk_is_integer
  have b_is_integer := F_is_integer.binds (ps := ["thing"]) fun _ _ _ _ _ _ us hl => match us, hl with | [_], _ => rfl
  have F_is_tuple := fun_mk (st := s_is_tuple) l_is_tuple cc_is_tuple kk_is_tuple
  have b_is_tuple := F_is_tuple.binds (ps := ["thing"]) fun _ _ _ _ _ _ us hl => match us, hl with | [_], _ => rfl
  have F_is_below := fun_mk (st := s_is_below) l_is_below cc_is_below kk_is_below
  have b_is_below := F_is_below.binds (ps := ["thing", "count"]) fun _ _ _ _ _ _ us hl => match us, hl with | [_, _], _ => rfl
  have F_is_tuple_of := fun_mk (st := s_is_tuple_of) l_is_tuple_of cc_is_tuple_of kk_is_tuple_of
  have b_is_tuple_of := F_is_tuple_of.binds (ps := ["thing", "count"]) fun _ _ _ _ _ _ us hl => match us, hl with | [_, _], _ => rfl
  have F_as_tuples := fun_mk (st := s_as_tuples) l_as_tuples cc_as_tuples kk_as_tuples
  have b_as_tuples := F_as_tuples.binds (ps := ["thing"]) fun _ _ _ _ _ _ us hl => match us, hl with | [_], _ => rfl
  have F_is_asks := fun_mk (st := s_is_asks) l_is_asks cc_is_asks kk_is_asks
  have b_is_asks := F_is_asks.binds (ps := ["thing"]) fun _ _ _ _ _ _ us hl => match us, hl with | [_], _ => rfl
  have F_is_row_of := fun_mk (st := s_is_row_of) l_is_row_of cc_is_row_of kk_is_row_of
  have b_is_row_of := F_is_row_of.binds (ps := ["asks", "thing"]) fun _ _ _ _ _ _ us hl => match us, hl with | [_, _], _ => rfl
  have F_check_asks := fun_mk (st := s_check_asks) l_check_asks cc_check_asks kk_check_asks
  have b_check_asks := F_check_asks.binds (ps := ["thing"]) fun _ _ _ _ _ _ us hl => match us, hl with | [_], _ => rfl
  have F_check_row := fun_mk (st := s_check_row) l_check_row cc_check_row kk_check_row
  have b_check_row := F_check_row.binds (ps := ["asks", "thing"]) fun _ _ _ _ _ _ us hl => match us, hl with | [_, _], _ => rfl
  have F_is_gate_item := fun_mk (st := s_is_gate_item) l_is_gate_item cc_is_gate_item kk_is_gate_item
  have b_is_gate_item := F_is_gate_item.binds (ps := ["thing", "asks", "places"]) fun _ _ _ _ _ _ us hl => match us, hl with | [_, _, _], _ => rfl
  have F_wide_steps := fun_mk (st := s_wide_steps) l_wide_steps cc_wide_steps kk_wide_steps
  have b_wide_steps := F_wide_steps.binds (ps := ["asks"]) fun _ _ _ _ _ _ us hl => match us, hl with | [_], _ => rfl
  have F_place_behind := fun_mk (st := s_place_behind) l_place_behind cc_place_behind kk_place_behind
  have b_place_behind := F_place_behind.binds (ps := ["asks", "steps", "row"]) fun _ _ _ _ _ _ us hl => match us, hl with | [_, _, _], _ => rfl
  have F__law_cell := fun_mk (st := s__law_cell) l__law_cell cc__law_cell kk__law_cell
  have b__law_cell := F__law_cell.binds (ps := ["_law_script", "_law_k"]) fun _ _ _ _ _ _ us hl => match us, hl with | [_, _], _ => rfl
  have F__law_source := fun_mk (st := s__law_source) l__law_source cc__law_source kk__law_source
  have b__law_source := F__law_source.binds (ps := ["_law_script", "_law_k"]) fun _ _ _ _ _ _ us hl => match us, hl with | [_, _], _ => rfl
  have F__law_draw := fun_mk (st := s__law_draw) l__law_draw cc__law_draw kk__law_draw
  have b__law_draw := F__law_draw.binds (ps := ["_law_source_here", "_law_many"]) fun _ _ _ _ _ _ us hl => match us, hl with | [_, _], _ => rfl
  have F__law_is_int := fun_mk (st := s__law_is_int) l__law_is_int cc__law_is_int kk__law_is_int
  have b__law_is_int := F__law_is_int.binds (ps := ["_law_thing"]) fun _ _ _ _ _ _ us hl => match us, hl with | [_], _ => rfl
  have F__law_exact := fun_mk (st := s__law_exact) l__law_exact cc__law_exact kk__law_exact
  have b__law_exact := F__law_exact.binds (ps := ["_law_told", "_law_due"]) fun _ _ _ _ _ _ us hl => match us, hl with | [_, _], _ => rfl
  have F__law_deep := fun_mk (st := s__law_deep) l__law_deep cc__law_deep kk__law_deep
  have b__law_deep := F__law_deep.binds (ps := ["_law_thing"]) fun _ _ _ _ _ _ us hl => match us, hl with | [_], _ => rfl
  have F__law_asks := fun_mk (st := s__law_asks) l__law_asks cc__law_asks kk__law_asks
  have b__law_asks := F__law_asks.binds (ps := ["_law_source_here"]) fun _ _ _ _ _ _ us hl => match us, hl with | [_], _ => rfl
  have F__law_row := fun_mk (st := s__law_row) l__law_row cc__law_row kk__law_row
  have b__law_row := F__law_row.binds (ps := ["_law_source_here", "_law_asks_here", "_law_longest"]) fun _ _ _ _ _ _ us hl => match us, hl with | [_, _, _], _ => rfl
  have F__law_gate := fun_mk (st := s__law_gate) l__law_gate cc__law_gate kk__law_gate
  have b__law_gate := F__law_gate.binds (ps := ["_law_source_here", "_law_asks_here"]) fun _ _ _ _ _ _ us hl => match us, hl with | [_, _], _ => rfl
  have F__law_passes := fun_mk (st := s__law_passes) l__law_passes cc__law_passes kk__law_passes
  have b__law_passes := F__law_passes.binds (ps := ["_law_asks_here", "_law_doors", "_law_row_here"]) fun _ _ _ _ _ _ us hl => match us, hl with | [_, _, _], _ => rfl
  have F__law_number := fun_mk (st := s__law_number) l__law_number cc__law_number kk__law_number
  have b__law_number := F__law_number.binds (ps := ["_law_asks_here", "_law_steps"]) fun _ _ _ _ _ _ us hl => match us, hl with | [_, _], _ => rfl
  have F__law_bad_item := fun_mk (st := s__law_bad_item) l__law_bad_item cc__law_bad_item kk__law_bad_item
  have b__law_bad_item := F__law_bad_item.binds (ps := ["_law_source_here", "_law_many", "_law_asks_here"]) fun _ _ _ _ _ _ us hl => match us, hl with | [_, _, _], _ => rfl
  have F_law := fun_mk (st := s_law) l_law cc_law kk_law
  have F_Gate_init := fun_mk (st := s_Gate_init) l_Gate_init cc_Gate_init kk_Gate_init
  have b_Gate_init := F_Gate_init.binds (ps := ["self", "asks", "steps"]) fun _ _ _ _ _ _ us hl => match us, hl with | [_, _, _], _ => rfl
  have F_Gate_place_of := fun_mk (st := s_Gate_place_of) l_Gate_place_of cc_Gate_place_of kk_Gate_place_of
  have b_Gate_place_of := F_Gate_place_of.binds (ps := ["self", "row"]) fun _ _ _ _ _ _ us hl => match us, hl with | [_, _], _ => rfl
  have F_Gate_contains := fun_mk (st := s_Gate_contains) l_Gate_contains cc_Gate_contains kk_Gate_contains
  have b_Gate_contains := F_Gate_contains.binds (ps := ["self", "x"]) fun _ _ _ _ _ _ us hl => match us, hl with | [_, _], _ => rfl
  have F_Gate_len := fun_mk (st := s_Gate_len) l_Gate_len cc_Gate_len kk_Gate_len
  have b_Gate_len := F_Gate_len.binds (ps := ["self"]) fun _ _ _ _ _ _ us hl => match us, hl with | [_], _ => rfl
  have F_Gate_eq := fun_mk (st := s_Gate_eq) l_Gate_eq cc_Gate_eq kk_Gate_eq
  have b_Gate_eq := F_Gate_eq.binds (ps := ["self", "other"]) fun _ _ _ _ _ _ us hl => match us, hl with | [_, _], _ => rfl
  have F_Gate_wide := fun_mk (st := s_Gate_wide) l_Gate_wide cc_Gate_wide kk_Gate_wide
  have b_Gate_wide := F_Gate_wide.binds (ps := ["cls", "asks"]) fun _ _ _ _ _ _ us hl => match us, hl with | [_, _], _ => rfl
  refine ⟨PySem.W.fnOf "law" "law" (defArgs s_law) (defBody s_law) (defScope s_law) .none kV_law dc_law pm_law an_law cd_law ct_law, fun s u => .of_eq rfl, fun base _ _ => FnG.all fun g => ?_⟩
  have E : Ex K mg A := ⟨L_BadAsks, L_BadRow, L_BadGate, E_BadAsks, E_BadRow, E_BadGate, kGI, kGF, kGV, te_BadGate, xAG, te_BadAsks, te_BadRow⟩
  have GC : GCls K A := { cls := ⟨pg_Gate, hd_Gate, po_Gate, sa_Gate⟩, nAsks := na_Gate_asks, nSteps := na_Gate_steps, mkr := ⟨mk_Gate, fi_Gate_init, if_Gate_init, kc_Gate⟩, hcl := ha_Gate, hgs := hnC, htk := htC, hm := hm_Gate, isG := isG, isStr := isStr, lenF := fi_Gate_len, lenN := if_Gate_len, conF := fi_Gate_contains, conN := if_Gate_contains, eqF := fi_Gate_eq, eqN := if_Gate_eq, nfG := nfG, nfS := nfS, mPlace := ⟨fi_Gate_place_of, if_Gate_place_of, kk_Gate_place_of⟩, crd := ⟨rd_Gate, sg_Gate⟩, cmt := ⟨p_Gate_wide, fc_Gate_wide, ⟨_, rc_Gate_wide⟩, fi_Gate_wide⟩ }
  have KCell : Kp P w K mg base CX0 1 f__law_cell ["_law_script", "_law_k"] (Ow.spCell K) := ⟨_, ok_cell (A := A) F__law_cell T, b__law_cell, F__law_cell.kp⟩
  have KSrc : Kp P w K mg base CX0 2 f__law_source ["_law_script", "_law_k"] (spSrc K) := ⟨_, ok_source (A := A) F__law_source T KCell, b__law_source, F__law_source.kp⟩
  have KDraw : Kp P w K mg base CX0 1 f__law_draw ["_law_source_here", "_law_many"] spDraw := ⟨_, ok_draw (A := A) F__law_draw T, b__law_draw, F__law_draw.kp⟩
  have KLAsks : Kp P w K mg base CX0 2 f__law_asks ["_law_source_here"] spLAsks := ⟨_, ok_lasks (A := A) F__law_asks T KDraw, b__law_asks, F__law_asks.kp⟩
  have KLRow : Kp P w K mg base CX0 2 f__law_row ["_law_source_here", "_law_asks_here", "_law_longest"] spLRow := ⟨_, ok_lrow (A := A) F__law_row T KDraw, b__law_row, F__law_row.kp⟩
  have KInt : Kp P w K mg base CX0 1 f__law_is_int ["_law_thing"] spInt := ⟨_, ok_lint (A := A) F__law_is_int T, b__law_is_int, F__law_is_int.kp⟩
  have KExact : Kp P w K mg base CX0 4 f__law_exact ["_law_told", "_law_due"] (spExD 2) := ⟨_, ok_ex (A := A) F__law_exact T KInt b__law_exact 2, b__law_exact, F__law_exact.kp⟩
  have KDeep : Kp P w K mg base CX0 4 f__law_deep ["_law_thing"] (spDeep 2) := ⟨_, ok_ld (A := A) F__law_deep T b__law_deep 2, b__law_deep, F__law_deep.kp⟩
  have KisI : Kp P w K mg base CX0 1 f_is_integer ["thing"] spIsInt := ⟨_, ok_isint (A := A) F_is_integer T, b_is_integer, F_is_integer.kp⟩
  have KisT : Kp P w K mg base CX0 1 f_is_tuple ["thing"] spIsTup := ⟨_, ok_istup (A := A) F_is_tuple T, b_is_tuple, F_is_tuple.kp⟩
  have KBel : Kp P w K mg base CX0 2 f_is_below ["thing", "count"] spBelow := ⟨_, ok_below (A := A) F_is_below T KisI, b_is_below, F_is_below.kp⟩
  have KTof : Kp P w K mg base CX0 2 f_is_tuple_of ["thing", "count"] spTupOf := ⟨_, ok_tupof (A := A) F_is_tuple_of T KisT, b_is_tuple_of, F_is_tuple_of.kp⟩
  have KAt : Kp P w K mg base CX0 4 f_as_tuples ["thing"] (spDeep 2) := ⟨_, ok_at (A := A) F_as_tuples T KisT b_as_tuples 2, b_as_tuples, F_as_tuples.kp⟩
  have KAsks : Kp P w K mg base CX0 1 f_is_asks ["thing"] (spAsks K) := ⟨_, ok_asks (A := A) F_is_asks T, b_is_asks, F_is_asks.kp⟩
  have KRowOf : Kp P w K mg base CX0 1 f_is_row_of ["asks", "thing"] (spRowOf K) := ⟨_, ok_rowof (A := A) F_is_row_of T, b_is_row_of, F_is_row_of.kp⟩
  have KChkA : Kp P w K mg base (L2.CX P w) 3 f_check_asks ["thing"] (spChkAsks K A) := ⟨_, ok_chkasks (A := A) F_check_asks T L_BadAsks KAsks, b_check_asks, F_check_asks.kp⟩
  have KChkR : Kp P w K mg base (L2.CX P w) 3 f_check_row ["asks", "thing"] (spChkRow K A) := ⟨_, ok_chkrow (A := A) F_check_row T L_BadRow KRowOf, b_check_row, F_check_row.kp⟩
  have KGI : Kp P w K mg base CX0 3 f_is_gate_item ["thing", "asks", "places"] spGateItem := ⟨_, ok_gitem (A := A) F_is_gate_item T KTof KBel, b_is_gate_item, F_is_gate_item.kp⟩
  have KWide : Kp P w K mg base CX0 1 f_wide_steps ["asks"] spWide := ⟨_, ok_wide (A := A) F_wide_steps T, b_wide_steps, F_wide_steps.kp⟩
  have KPl : Kp P w K mg base CX0 1 f_place_behind ["asks", "steps", "row"] spPlace := ⟨_, ok_place (A := A) F_place_behind T, b_place_behind, F_place_behind.kp⟩
  have KInit : Kp P w K mg base (L2.CX P w) 5 f_Gate_init ["self", "asks", "steps"] (spGInit K A) := ⟨_, ok_ginit (A := A) F_Gate_init T GC L_BadGate KChkA KisT KGI KAt, b_Gate_init, F_Gate_init.kp⟩
  have KGw : Kp P w K mg base (L2.CX P w) 7 f_Gate_wide ["cls", "asks"] (spWideG K A) := ⟨_, ok_gwide (A := A) F_Gate_wide T GC KChkA KWide KInit, b_Gate_wide, F_Gate_wide.kp⟩
  have KPof : Kp P w K mg base (L2.CX P w) 4 f_Gate_place_of ["self", "row"] (spPlaceOf K A) := ⟨_, ok_placeof (A := A) F_Gate_place_of T GC KChkR KPl, b_Gate_place_of, F_Gate_place_of.kp⟩
  have KCon : Kp P w K mg base CX0 2 f_Gate_contains ["self", "x"] (spContains K A) := ⟨_, ok_contains (A := A) F_Gate_contains T GC KRowOf KPl, b_Gate_contains, F_Gate_contains.kp⟩
  have KLen : Kp P w K mg base CX0 1 f_Gate_len ["self"] (spGLen A) := ⟨_, ok_glen (A := A) F_Gate_len T GC, b_Gate_len, F_Gate_len.kp⟩
  have KEq : Kp P w K mg base CX0 1 f_Gate_eq ["self", "other"] (spGEq A) := ⟨_, ok_geq (A := A) F_Gate_eq T GC, b_Gate_eq, F_Gate_eq.kp⟩
  have KPas : Kp P w K mg base CX0 1 f__law_passes ["_law_asks_here", "_law_doors", "_law_row_here"] spPasses := ⟨_, ok_passes (A := A) F__law_passes T, b__law_passes, F__law_passes.kp⟩
  have KGate : Kp P w K mg base CX0 2 f__law_gate ["_law_source_here", "_law_asks_here"] spLGate := ⟨_, ok_lgate (A := A) F__law_gate T KDraw, b__law_gate, F__law_gate.kp⟩
  have KBad : Kp P w K mg base CX0 2 f__law_bad_item ["_law_source_here", "_law_many", "_law_asks_here"] spBadI := ⟨_, ok_badi (A := A) F__law_bad_item T KDraw, b__law_bad_item, F__law_bad_item.kp⟩
  exact ok_law (A := A) F_law T E GC ⟨KSrc, KLAsks, KLRow, KDraw, KGate, KExact, KDeep, KPas, KBad, KInit, KLen, KEq, KCon, KPof, KGw, fun g => ⟨_, ok_num (A := A) F__law_number T E GC KInit, b__law_number, F__law_number.kp⟩⟩
theorem walk {l : PySem.W.OpenLaw} {q : Program} {loose : List Str} {XP : (Str → Option Value) → Heap → Prop} {YP : World → Heap → Prop} {d : DefRec} {K : Params → PySem.W.Frag} (h1 : l.most = some 63) (h2 : d.params.defaults = []) (h3 : ∀ (w : World) (h : Heap), YP w h → (K w.params).In h)
    (F : ∀ (w : World) (mg : Str → Option Value) (fa : Addr) (h : Heap), (K w.params).In h → h.Ns mainGlobals mg → mg d.name = some (.ref fa) →
      ∃ fd : FuncData, (∀ (s : Shared) (u : Value), BindsTo s fd ⟨[u], []⟩ [("_law_script", u)]) ∧ ∀ base : Heap, (K w.params).In base → base.Ns mainGlobals mg → FnOk l.prog w (K w.params) mg base CX0 9 fa fd ["_law_script"] (spLaw (K w.params))) :
    PySem.W.WalkO q loose XP YP l.row.toRowW d [] (fun f vs => PySem.call f vs) :=
  L2.walk_of (n := 63) (k := 9) (x := "_law_script") (CX := fun _ => CX0) (sp := fun w => spLaw (K w.params)) h1 (by decide) h2 ⟨rfl, by decide, by decide⟩ h3 F (fun _ _ a ns _ _ hS => ⟨a, ns, rfl, hS, fun _ => rfl⟩) fun _ _ _ _ _ z => z
end As

open PySem PySem.W PyProof.Rows
theorem PySem.Challenge.cw_afterwise_k14_whole_gates_holds : PySem.Challenge.rw_afterwise_k14_whole_gates.Holds := by
  w_on; o_law; k_head; (case hw => w_witness2)
  k_fill
  refine As.walk (l := PySem.Challenge.rw_afterwise_k14_whole_gates) rfl rfl (fun w h Y => PySem.W.kIn_of Y) ?F
  case F =>
    intro w mg fa h KX G hmg
    refine' As.all_mk KX G hmg ?n_ValueError ?n_abs ?n_all ?n_bool ?n_classmethod ?n_enumerate ?n_int ?n_isinstance ?n_len ?n_list ?n_range ?n_repr ?n_str ?n_sum ?n_tuple ?n_zip ?m_LETTERS ?m_MOST_ASKS ?m_LONGEST_ROW ?m_MOST_PLACES ?m_AfterError ?m_WrongThing ?m_WrongItem ?m_BadAsks ?m_BadRow ?m_BadGate ?m_Gate ?a_is_integer ?l_is_integer ?cc_is_integer ?kk_is_integer ?a_is_tuple ?l_is_tuple ?cc_is_tuple ?kk_is_tuple ?a_is_below ?l_is_below ?cc_is_below ?kk_is_below ?a_is_tuple_of ?l_is_tuple_of ?cc_is_tuple_of ?kk_is_tuple_of ?a_as_tuples ?l_as_tuples ?cc_as_tuples ?kk_as_tuples ?a_is_asks ?l_is_asks ?cc_is_asks ?kk_is_asks ?a_is_row_of ?l_is_row_of ?cc_is_row_of ?kk_is_row_of ?a_check_asks ?l_check_asks ?cc_check_asks ?kk_check_asks ?a_check_row ?l_check_row ?cc_check_row ?kk_check_row ?a_is_gate_item ?l_is_gate_item ?cc_is_gate_item ?kk_is_gate_item ?a_wide_steps ?l_wide_steps ?cc_wide_steps ?kk_wide_steps ?a_place_behind ?l_place_behind ?cc_place_behind ?kk_place_behind ?a__law_cell ?l__law_cell ?cc__law_cell ?kk__law_cell ?a__law_source ?l__law_source ?cc__law_source ?kk__law_source ?a__law_draw ?l__law_draw ?cc__law_draw ?kk__law_draw ?a__law_is_int ?l__law_is_int ?cc__law_is_int ?kk__law_is_int ?a__law_exact ?l__law_exact ?cc__law_exact ?kk__law_exact ?a__law_deep ?l__law_deep ?cc__law_deep ?kk__law_deep ?a__law_asks ?l__law_asks ?cc__law_asks ?kk__law_asks ?a__law_row ?l__law_row ?cc__law_row ?kk__law_row ?a__law_gate ?l__law_gate ?cc__law_gate ?kk__law_gate ?a__law_passes ?l__law_passes ?cc__law_passes ?kk__law_passes ?a__law_number ?l__law_number ?cc__law_number ?kk__law_number ?a__law_bad_item ?l__law_bad_item ?cc__law_bad_item ?kk__law_bad_item ?a_law ?l_law ?cc_law ?kk_law ?x_BadAsks ?sa_BadAsks ?ga_BadAsks ?gg_BadAsks ?nb_BadAsks ?ii_BadAsks ?t_WrongThing_init ?l_WrongThing_init ?cc_WrongThing_init ?kc_BadAsks ?eb_BadAsks ?ty_BadAsks ?hd_BadAsks ?ha_BadAsks ?hm_BadAsks ?te_BadAsks ?x_BadRow ?sa_BadRow ?ga_BadRow ?gg_BadRow ?nb_BadRow ?ii_BadRow ?kc_BadRow ?eb_BadRow ?ty_BadRow ?hd_BadRow ?ha_BadRow ?hm_BadRow ?te_BadRow ?x_BadGate ?sa_BadGate ?ga_BadGate ?gg_BadGate ?nb_BadGate ?ii_BadGate ?t_WrongItem_init ?l_WrongItem_init ?cc_WrongItem_init ?kc_BadGate ?eb_BadGate ?ty_BadGate ?hd_BadGate ?ha_BadGate ?hm_BadGate ?te_BadGate ?hnC ?htC ?pg_Gate ?hd_Gate ?po_Gate ?sa_Gate ?na_Gate_asks ?na_Gate_steps ?mk_Gate ?kc_Gate ?ha_Gate ?hm_Gate ?fi_Gate_init ?l_Gate_init ?cc_Gate_init ?kk_Gate_init ?if_Gate_init ?fi_Gate_place_of ?l_Gate_place_of ?cc_Gate_place_of ?kk_Gate_place_of ?if_Gate_place_of ?fi_Gate_contains ?l_Gate_contains ?cc_Gate_contains ?kk_Gate_contains ?if_Gate_contains ?fi_Gate_len ?l_Gate_len ?cc_Gate_len ?kk_Gate_len ?if_Gate_len ?fi_Gate_eq ?l_Gate_eq ?cc_Gate_eq ?kk_Gate_eq ?if_Gate_eq ?rd_Gate ?sg_Gate ?fc_Gate_wide ?rc_Gate_wide ?l_Gate_wide ?cc_Gate_wide ?kk_Gate_wide ?fi_Gate_wide ?isG ?isStr ?nfG ?nfS ?kGI ?kGF ?kGV ?xAG
    (case n_ValueError => first | k_is | rfl); (case n_abs => first | k_is | rfl); (case n_all => first | k_is | rfl); (case n_bool => first | k_is | rfl)
    (case n_classmethod => first | k_is | rfl); (case n_enumerate => first | k_is | rfl); (case n_int => first | k_is | rfl); (case n_isinstance => first | k_is | rfl)
    (case n_len => first | k_is | rfl); (case n_list => first | k_is | rfl); (case n_range => first | k_is | rfl); (case n_repr => first | k_is | rfl)
    (case n_str => first | k_is | rfl); (case n_sum => first | k_is | rfl); (case n_tuple => first | k_is | rfl); (case n_zip => first | k_is | rfl)
    (case m_LETTERS => first | k_is | rfl); (case m_MOST_ASKS => first | k_is | rfl); (case m_LONGEST_ROW => first | k_is | rfl); (case m_MOST_PLACES => first | k_is | rfl)
    (case m_AfterError => first | k_is | rfl); (case m_WrongThing => first | k_is | rfl); (case m_WrongItem => first | k_is | rfl); (case m_BadAsks => first | k_is | rfl)
    (case m_BadRow => first | k_is | rfl); (case m_BadGate => first | k_is | rfl); (case m_Gate => first | k_is | rfl); (case a_is_integer => first | k_is | rfl)
    (case l_is_integer => first | k_is | rfl); (case cc_is_integer => first | k_is | rfl); (case kk_is_integer => first | k_is | rfl); (case a_is_tuple => first | k_is | rfl)
    (case l_is_tuple => first | k_is | rfl); (case cc_is_tuple => first | k_is | rfl); (case kk_is_tuple => first | k_is | rfl); (case a_is_below => first | k_is | rfl)
    (case l_is_below => first | k_is | rfl); (case cc_is_below => first | k_is | rfl); (case kk_is_below => first | k_is | rfl); (case a_is_tuple_of => first | k_is | rfl)
    (case l_is_tuple_of => first | k_is | rfl); (case cc_is_tuple_of => first | k_is | rfl); (case kk_is_tuple_of => first | k_is | rfl); (case a_as_tuples => first | k_is | rfl)
    (case l_as_tuples => first | k_is | rfl); (case cc_as_tuples => first | k_is | rfl); (case kk_as_tuples => first | k_is | rfl); (case a_is_asks => first | k_is | rfl)
    (case l_is_asks => first | k_is | rfl); (case cc_is_asks => first | k_is | rfl); (case kk_is_asks => first | k_is | rfl); (case a_is_row_of => first | k_is | rfl)
    (case l_is_row_of => first | k_is | rfl); (case cc_is_row_of => first | k_is | rfl); (case kk_is_row_of => first | k_is | rfl); (case a_check_asks => first | k_is | rfl)
    (case l_check_asks => first | k_is | rfl); (case cc_check_asks => first | k_is | rfl); (case kk_check_asks => first | k_is | rfl); (case a_check_row => first | k_is | rfl)
    (case l_check_row => first | k_is | rfl); (case cc_check_row => first | k_is | rfl); (case kk_check_row => first | k_is | rfl); (case a_is_gate_item => first | k_is | rfl)
    (case l_is_gate_item => first | k_is | rfl); (case cc_is_gate_item => first | k_is | rfl); (case kk_is_gate_item => first | k_is | rfl); (case a_wide_steps => first | k_is | rfl)
    (case l_wide_steps => first | k_is | rfl); (case cc_wide_steps => first | k_is | rfl); (case kk_wide_steps => first | k_is | rfl); (case a_place_behind => first | k_is | rfl)
    (case l_place_behind => first | k_is | rfl); (case cc_place_behind => first | k_is | rfl); (case kk_place_behind => first | k_is | rfl); (case a__law_cell => first | k_is | rfl)
    (case l__law_cell => first | k_is | rfl); (case cc__law_cell => first | k_is | rfl); (case kk__law_cell => first | k_is | rfl); (case a__law_source => first | k_is | rfl)
    (case l__law_source => first | k_is | rfl); (case cc__law_source => first | k_is | rfl); (case kk__law_source => first | k_is | rfl); (case a__law_draw => first | k_is | rfl)
    (case l__law_draw => first | k_is | rfl); (case cc__law_draw => first | k_is | rfl); (case kk__law_draw => first | k_is | rfl); (case a__law_is_int => first | k_is | rfl)
    (case l__law_is_int => first | k_is | rfl); (case cc__law_is_int => first | k_is | rfl); (case kk__law_is_int => first | k_is | rfl); (case a__law_exact => first | k_is | rfl)
    (case l__law_exact => first | k_is | rfl); (case cc__law_exact => first | k_is | rfl); (case kk__law_exact => first | k_is | rfl); (case a__law_deep => first | k_is | rfl)
    (case l__law_deep => first | k_is | rfl); (case cc__law_deep => first | k_is | rfl); (case kk__law_deep => first | k_is | rfl); (case a__law_asks => first | k_is | rfl)
    (case l__law_asks => first | k_is | rfl); (case cc__law_asks => first | k_is | rfl); (case kk__law_asks => first | k_is | rfl); (case a__law_row => first | k_is | rfl)
    (case l__law_row => first | k_is | rfl); (case cc__law_row => first | k_is | rfl); (case kk__law_row => first | k_is | rfl); (case a__law_gate => first | k_is | rfl)
    (case l__law_gate => first | k_is | rfl); (case cc__law_gate => first | k_is | rfl); (case kk__law_gate => first | k_is | rfl); (case a__law_passes => first | k_is | rfl)
    (case l__law_passes => first | k_is | rfl); (case cc__law_passes => first | k_is | rfl); (case kk__law_passes => first | k_is | rfl); (case a__law_number => first | k_is | rfl)
    (case l__law_number => first | k_is | rfl); (case cc__law_number => first | k_is | rfl); (case kk__law_number => first | k_is | rfl); (case a__law_bad_item => first | k_is | rfl)
    (case l__law_bad_item => first | k_is | rfl); (case cc__law_bad_item => first | k_is | rfl); (case kk__law_bad_item => first | k_is | rfl); (case a_law => first | k_is | rfl)
    (case l_law => first | k_is | rfl); (case cc_law => first | k_is | rfl); (case kk_law => first | k_is | rfl); (case x_BadAsks => first | k_is | rfl)
    (case sa_BadAsks => first | k_is | rfl); (case ga_BadAsks => first | k_is | rfl); (case gg_BadAsks => first | k_is | rfl); (case nb_BadAsks => first | k_is | rfl)
    (case ii_BadAsks => first | k_is | rfl); (case t_WrongThing_init => first | k_is | rfl); (case l_WrongThing_init => first | k_is | rfl); (case cc_WrongThing_init => first | k_is | rfl)
    (case kc_BadAsks => first | k_is | rfl); (case eb_BadAsks => first | k_is | rfl); (case ty_BadAsks => first | k_is | rfl); (case hd_BadAsks => first | k_is | rfl)
    (case ha_BadAsks => first | k_is | rfl); (case hm_BadAsks => first | k_is | rfl); (case te_BadAsks => first | k_is | rfl); (case x_BadRow => first | k_is | rfl)
    (case sa_BadRow => first | k_is | rfl); (case ga_BadRow => first | k_is | rfl); (case gg_BadRow => first | k_is | rfl); (case nb_BadRow => first | k_is | rfl)
    (case ii_BadRow => first | k_is | rfl); (case kc_BadRow => first | k_is | rfl); (case eb_BadRow => first | k_is | rfl); (case ty_BadRow => first | k_is | rfl)
    (case hd_BadRow => first | k_is | rfl); (case ha_BadRow => first | k_is | rfl); (case hm_BadRow => first | k_is | rfl); (case te_BadRow => first | k_is | rfl)
    (case x_BadGate => first | k_is | rfl); (case sa_BadGate => first | k_is | rfl); (case ga_BadGate => first | k_is | rfl); (case gg_BadGate => first | k_is | rfl)
    (case nb_BadGate => first | k_is | rfl); (case ii_BadGate => first | k_is | rfl); (case t_WrongItem_init => first | k_is | rfl); (case l_WrongItem_init => first | k_is | rfl)
    (case cc_WrongItem_init => first | k_is | rfl); (case kc_BadGate => first | k_is | rfl); (case eb_BadGate => first | k_is | rfl); (case ty_BadGate => first | k_is | rfl)
    (case hd_BadGate => first | k_is | rfl); (case ha_BadGate => first | k_is | rfl); (case hm_BadGate => first | k_is | rfl); (case te_BadGate => first | k_is | rfl)
    (case hnC => first | k_is | rfl); (case htC => first | k_is | rfl); (case pg_Gate => first | k_is | rfl); (case hd_Gate => first | k_is | rfl)
    (case po_Gate => first | k_is | rfl); (case sa_Gate => first | k_is | rfl); (case na_Gate_asks => first | k_is | rfl); (case na_Gate_steps => first | k_is | rfl)
    (case mk_Gate => first | k_is | rfl); (case kc_Gate => first | k_is | rfl); (case ha_Gate => first | k_is | rfl); (case hm_Gate => first | k_is | rfl)
    (case fi_Gate_init => first | k_is | rfl); (case l_Gate_init => first | k_is | rfl); (case cc_Gate_init => first | k_is | rfl); (case kk_Gate_init => first | k_is | rfl)
    (case if_Gate_init => first | k_is | rfl); (case fi_Gate_place_of => first | k_is | rfl); (case l_Gate_place_of => first | k_is | rfl); (case cc_Gate_place_of => first | k_is | rfl)
    (case kk_Gate_place_of => first | k_is | rfl); (case if_Gate_place_of => first | k_is | rfl); (case fi_Gate_contains => first | k_is | rfl); (case l_Gate_contains => first | k_is | rfl)
    (case cc_Gate_contains => first | k_is | rfl); (case kk_Gate_contains => first | k_is | rfl); (case if_Gate_contains => first | k_is | rfl); (case fi_Gate_len => first | k_is | rfl)
    (case l_Gate_len => first | k_is | rfl); (case cc_Gate_len => first | k_is | rfl); (case kk_Gate_len => first | k_is | rfl); (case if_Gate_len => first | k_is | rfl)
    (case fi_Gate_eq => first | k_is | rfl); (case l_Gate_eq => first | k_is | rfl); (case cc_Gate_eq => first | k_is | rfl); (case kk_Gate_eq => first | k_is | rfl)
    (case if_Gate_eq => first | k_is | rfl); (case rd_Gate => first | k_is | rfl); (case sg_Gate => first | k_is | rfl); (case fc_Gate_wide => first | k_is | rfl)
    (case rc_Gate_wide => first | k_is | rfl); (case l_Gate_wide => first | k_is | rfl); (case cc_Gate_wide => first | k_is | rfl); (case kk_Gate_wide => first | k_is | rfl)
    (case fi_Gate_wide => first | k_is | rfl); (case isG => first | k_is | rfl); (case isStr => first | k_is | rfl); (case nfG => first | k_is | rfl)
    (case nfS => first | k_is | rfl); (case kGI => first | k_is | rfl); (case kGF => first | k_is | rfl); (case kGV => first | k_is | rfl)
    (case xAG => first | k_is | rfl)

