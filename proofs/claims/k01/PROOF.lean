import PyProof.Rows.All
import Wide.All
import OpenK.AllK
import Wide.FinOn
import PySem.Challenge.RW_afterwise_k01_store_made
import HandS.ForMost
import HandS.ForExc
import HandS.IsInst
import HandS.More
import HandS.Style
import HandS.Zip
import HandS.ExcIs
import KE.KExcIs
import HandS.RaiseMore
import PyProof.ReprHeads
import PyProof.ReprDict
import PyProof.StrHeap
import PyProof.StrBlock2
import PyProof.StrLawsRepr
import PyProof.P3Eq
import HandS.OwnEq
import KE.KCallOwn
import HandS.Flow
import PyProof.Draws
import HandS.TupMul
import HandS.Walk
import HandS.TryOnly
import PyProof.FitsInt
import PyProof.Rows.RegStrFacts
set_option Elab.async false
set_option linter.all false
set_option maxRecDepth 100000
set_option maxHeartbeats 0
namespace Ow
open PySem PySem.Spec PyProof.Rows L2 TL
/-- a def that keeps its promise, ready to be called -/
def Kp (P : Program) (w : World) (K : PySem.W.Frag) (mg : Str → Option Value) (base : Heap) (CX : CXT) (k : Nat) (f : Addr) (ps : List Str) (sp : Sp) : Prop :=
  ∃ fd, FnOk P w K mg base CX k f fd ps sp ∧ Binds K fd ps [] ∧ PySem.W.keepIn K (.ref f) = true
/-! ## heaps -/
theorem same_new {H : Hp} {p : Addr} {o : HO} (h : H p = none) : Same H (upd H p o) := fun b x e => (upd_ne (ne_of_none e h)).trans e
theorem Same.sqT {K : PySem.W.Frag} {H H' : Hp} {a : Addr} {xs : List V} (e : Same H H') (h : SqT K H a xs) : SqT K H' a xs := by
  rcases h with (h | ⟨o, h⟩) | h
  · exact .inl (.inl (e _ _ h))
  · exact .inl (.inr ⟨o, e _ _ h⟩)
  · exact .inr h
/-- all but one stand as they stood -/
def But (s : Addr) (H H' : Hp) : Prop := ∀ b o, H b = some o → b ≠ s → H' b = some o
theorem But.refl {s : Addr} (H : Hp) : But s H H := fun _ _ h _ => h
theorem But.trans {s : Addr} {H H1 H2 : Hp} (a : But s H H1) (b : But s H1 H2) : But s H H2 := fun c o h n => b c o (a c o h n) n
theorem But.of {s : Addr} {H H' : Hp} (a : Same H H') : But s H H' := fun c o h _ => a c o h
theorem But.upd {s : Addr} {H : Hp} {o : HO} : But s H (upd H s o) := fun _ _ h n => (upd_ne n).trans h
theorem But.seqL {s : Addr} {K : PySem.W.Frag} {H H' : Hp} {a : Addr} {xs : List V} (e : But s H H') (n : a ≠ s) (h : SqL K H a xs) : SqL K H' a xs := by
  rcases h with (h | ⟨o, h⟩) | h
  · exact .inl (.inl (e _ _ h n))
  · exact .inl (.inr ⟨o, e _ _ h n⟩)
  · exact .inr h
theorem But.free {s : Addr} {H H' : Hp} (e : But s H H') {l : Addr} (n : l ≠ s) (h : H' l = none) : H l = none := by
  cases q : H l with
  | none => rfl
  | some o => rw [e l o q n] at h; cases h
/-- a source of draws stands at p -/
def Src (H : Hp) (p : Addr) : Prop := ∃ a b c : Int, H p = some (.lst [.int a, .int b, .int c]) ∧ 0 ≤ a ∧ 0 ≤ b ∧ b < 2147483647
theorem Src.same {H H' : Hp} {p : Addr} (h : Src H p) (e : Same H H') : Src H' p := by
  obtain ⟨a, b, c, h1, h2⟩ := h
  exact ⟨a, b, c, e _ _ h1, h2⟩
theorem Src.but {H H' : Hp} {p s : Addr} (h : Src H p) (e : But s H H') (n : p ≠ s) : Src H' p := by
  obtain ⟨a, b, c, h1, h2⟩ := h
  exact ⟨a, b, c, e _ _ h1 n, h2⟩
theorem Src.some {H : Hp} {p : Addr} (h : Src H p) : ∃ o, H p = some o := by
  obtain ⟨a, b, c, h1, h2⟩ := h
  exact ⟨_, h1⟩
theorem iteN {p A B : Prop} [Decidable p] (h : ¬ p) (b : B) : if decide p = true then A else B := by
  rw [decide_eq_false h]
  exact iteF b
theorem iteY {p A B : Prop} [Decidable p] (h : p) (a : A) : if decide p = true then A else B := by
  rw [decide_eq_true h]
  exact iteT a
section
variable {X : Cx}
/-- x is True, x is False: x no object -/
def rIsB1 : R2 := fun x y H Q => ∃ b : Bool, y = .bl b ∧ (match x with | .non => True | .bl _ => True | .int _ => True | .str _ => True | _ => False) ∧ Q (.bl (decide (x = .bl b))) H
theorem op_isB1 : OpR X (compareOp .Is) rIsB1 := by
  intro pins s σ H x y v u Q I rx ry h
  obtain ⟨b, rfl, hx, q⟩ := h
  cases (show u = Value.bool b from ry)
  cases x with
  | non =>
    cases (show v = Value.none from rx)
    exact wpAny_is_other rfl (fun z => nomatch z) ⟨.bl false, H, I, rfl, by simpa using q⟩
  | bl a =>
    cases (show v = Value.bool a from rx)
    by_cases e : a = b
    · subst e
      exact wpAny_is_self rfl ⟨.bl true, H, I, rfl, by simpa using q⟩
    · exact wpAny_is_other rfl (fun z => e (Value.bool.inj z)) ⟨.bl false, H, I, rfl, by simpa [e] using q⟩
  | int i =>
    obtain ⟨t, rfl⟩ := rx
    exact wpAny_is_other rfl (fun z => nomatch z) ⟨.bl false, H, I, rfl, by simpa using q⟩
  | str i =>
    obtain ⟨t, rfl⟩ := rx
    exact wpAny_is_other rfl (fun z => nomatch z) ⟨.bl false, H, I, rfl, by simpa using q⟩
  | _ => exact hx.elim
end
/-! ## comprehensions over a text, over two lists -/
section
variable {K : PySem.W.Frag} {g : TG} {tt : TT} {te : TE} {vs : List Nat} {σ : L2.St} {H1 : Hp} {D : Addr} {Qd : Hp → Prop}
/-- a turn of a comprehension without a test: what its element gives is put behind the list at D -/
abbrev LcTurn (g : TG) (tt : TT) (te : TE) (vs : List Nat) (σ : L2.St) (D : Addr) (Nx : Hp → Prop) (x : V) (H : Hp) : Prop :=
  g x (wipe σ vs) H fun σ2 H2 => wipe σ2 vs = wipe σ vs ∧ tt σ2 H2 fun b H3 => if b = true then te σ2 H3 fun y H4 => ∃ acc, H4 D = some (.lst acc) ∧ acc.length < sizeLine ∧ Nx (upd H4 D (.lst (acc ++ [y]))) else Nx H3
theorem yes_go {σ : L2.St} {H : Hp} {A B : Hp → Prop} (h : A H) : tYes σ H fun b H3 => if b = true then A H3 else B H3 := by
  show (if true = true then A H else B H)
  rw [if_pos rfl]
  exact h
theorem lc_text {z : Str} (Pv : Nat → Hp → Prop) (h0 : Pv 0 (upd H1 D (.lst [])))
    (hs : ∀ (i : Nat) (c : Nat) (H : Hp), z.cps.toList[i]? = some c → Pv i H → LcTurn g tt te vs σ D (Pv (i + 1)) (.str ⟨#[c]⟩) H) (hd : ∀ H, Pv z.cps.toList.length H → Qd H) :
    ∃ W : Nat → Nat → Hp → Prop, (∃ m, W 0 m (upd H1 D (.lst []))) ∧ ∀ i m H, W i m H →
      ((Its z).stop i H ∧ Qd H) ∨ ((Its z).go i H ∧ ∃ Nx : Hp → Prop, (∀ H', Nx H' → ∃ m', m' < m ∧ W (i + 1) m' H') ∧ ∀ x H', (Its z).yld i H x H' → LcTurn g tt te vs σ D Nx x H') := by
  have ez : z.cps.toList.length = z.cps.size := Array.length_toList
  refine ⟨fun i m H => m + i = z.cps.size ∧ Pv i H, ⟨z.cps.size, rfl, h0⟩, ?_⟩
  intro i m H ⟨hm, pv⟩
  by_cases hlt : i < z.cps.size
  · refine .inr ⟨hlt, Pv (i + 1), fun H' p' => ⟨m - 1, by omega, by omega, p'⟩, fun x H' hy => ?_⟩
    obtain ⟨rfl, c, hc, rfl⟩ := hy
    exact hs i c H' (by rw [Array.getElem?_toList]; exact hc) pv
  · have e : i = z.cps.size := by omega
    refine .inl ⟨by show z.cps.size ≤ i; omega, hd H ?_⟩
    rw [ez, ← e]
    exact pv
theorem lc_zip {a b : Addr} {xs ys : List V} (Pv : Nat → Hp → Prop) (h0 : Pv 0 (upd H1 D (.lst []))) (hq : ∀ i H, Pv i H → SqL K H a xs ∧ SqL K H b ys)
    (hs : ∀ (i : Nat) (x y : V) (U : Addr) (H : Hp), xs[i]? = some x → ys[i]? = some y → Pv i H → H U = none → LcTurn g tt te vs σ D (Pv (i + 1)) (.ref U) (upd H U (.tup [x, y])))
    (hd : ∀ H, Pv (min xs.length ys.length) H → Qd H) :
    ∃ W : Nat → Nat → Hp → Prop, (∃ m, W 0 m (upd H1 D (.lst []))) ∧ ∀ i m H, W i m H →
      ((Itz K a b).stop i H ∧ Qd H) ∨ ((Itz K a b).go i H ∧ ∃ Nx : Hp → Prop, (∀ H', Nx H' → ∃ m', m' < m ∧ W (i + 1) m' H') ∧ ∀ x H', (Itz K a b).yld i H x H' → LcTurn g tt te vs σ D Nx x H') := by
  refine ⟨fun i m H => m + i = min xs.length ys.length ∧ Pv i H, ⟨min xs.length ys.length, rfl, h0⟩, ?_⟩
  intro i m H ⟨hm, pv⟩
  obtain ⟨qa, qb⟩ := hq i H pv
  by_cases hlt : i < min xs.length ys.length
  · have h1 : i < xs.length := by omega
    have h2 : i < ys.length := by omega
    refine .inr ⟨⟨xs, ys, _, _, qa, qb, List.getElem?_eq_getElem h1, List.getElem?_eq_getElem h2⟩, Pv (i + 1), fun H' p' => ⟨m - 1, by omega, by omega, p'⟩, fun v H' hy => ?_⟩
    obtain ⟨U, x, y, rfl, hU, rfl, f1, f2⟩ := hy
    exact hs i x y U H (f1 xs qa) (f2 ys qb) pv hU
  · have e : i = min xs.length ys.length := by omega
    refine .inl ⟨⟨xs, ys, qa, qb, by omega⟩, hd H ?_⟩
    rw [← e]
    exact pv
end
theorem TyX.mono {K : PySem.W.Frag} {H H' : Hp} (e : Same H H') {x : V} {t : Value} (h : TyX K H x t) : TyX K H' x t := by
  cases h with
  | base b =>
    refine .base ?_
    cases b with
    | non => exact .non
    | bl y => exact .bl y
    | int i => exact .int i
    | str y => exact .str y
    | flt y => exact .flt y
    | lst q => exact .lst (e _ _ q)
    | frz q => exact .frz (e _ _ q)
    | tup q => exact .tup (e _ _ q)
    | dK q => exact .dK (e _ _ q)
    | dT q => exact .dT (e _ _ q)
    | ins q c1 c2 c3 c4 c5 => exact .ins (e _ _ q) c1 c2 c3 c4 c5
  | byt b => exact .byt b
  | set q => exact .set (e _ _ q)
  | kList q c => exact .kList q c
  | kTuple q c => exact .kTuple q c
  | kDict q c => exact .kDict q c
  | fTuple q => exact .fTuple (e _ _ q)
  | fDict q => exact .fDict (e _ _ q)
theorem tl_empty : tl (Str.ofString "") = [] := by decide +kernel
theorem join_signs (L : List Nat) : ∀ ys : List Str, (∀ y ∈ ys, ∃ c ∈ L, y = ⟨#[c]⟩) → (∀ c ∈ joinL [] (ys.map tl), c ∈ L) ∧ (joinL [] (ys.map tl)).length = ys.length
  | [], _ => ⟨(fun c h => nomatch h), rfl⟩
  | [y], h => by
    obtain ⟨c, hc, rfl⟩ := h y List.mem_cons_self
    refine ⟨fun d hd => ?_, rfl⟩
    have e : d = c := List.mem_singleton.mp hd
    rw [e]
    exact hc
  | y :: z :: r, h => by
    obtain ⟨c, hc, rfl⟩ := h y List.mem_cons_self
    obtain ⟨k1, k2⟩ := join_signs L (z :: r) fun x hx => h x (List.mem_cons_of_mem _ hx)
    have e : joinL [] ((⟨#[c]⟩ :: z :: r : List Str).map tl) = c :: joinL [] ((z :: r).map tl) := rfl
    rw [e]
    refine ⟨fun d hd => ?_, ?_⟩
    · rcases List.mem_cons.mp hd with rfl | hd
      · exact hc
      · exact k1 d hd
    · rw [List.length_cons, k2]
      rfl
theorem sum_ones : ∀ ys : List Str, (∀ y ∈ ys, y.length = 1) → (ys.map (·.length)).sum = ys.length
  | [], _ => rfl
  | y :: r, h => by
    rw [List.map_cons, List.sum_cons, sum_ones r fun x hx => h x (List.mem_cons_of_mem _ hx), h y List.mem_cons_self, List.length_cons]
    omega
theorem iteNN {p A B : Prop} [Decidable p] (h : ¬ p) (a : A) : if (!decide p) = true then A else B := by
  rw [decide_eq_false h]
  exact iteT a
/-! ## asks and rows as the program judges them -/
def plc (c : Nat) : Int := Txt.find (Str.ofString "abcdefgh") ⟨#[c]⟩
/-- each number below the next one -/
def ups : List Int → List Bool
  | a :: b :: r => decide (a < b) :: ups (b :: r)
  | _ => []
def asksB (z : Str) : Bool := decide (1 ≤ z.length) && (decide (z.length ≤ 4) && (decide (0 ≤ ((z.cps.toList.map plc).getD 0 0)) && (ups (z.cps.toList.map plc)).all id))
def asksV : V → Bool
  | .str z => asksB z
  | _ => false
def rowB (a z : Str) : Bool := decide (z.length ≤ 2000) && z.cps.toList.all fun c => decide (c ∈ a.cps.toList)
def rowV (a : Str) : V → Bool
  | .str z => rowB a z
  | _ => false
theorem ups_len : ∀ l : List Int, (ups l).length = l.length - 1
  | [] => rfl
  | [_] => rfl
  | a :: b :: r => by
    show (ups (b :: r)).length + 1 = r.length + 1 + 1 - 1
    rw [ups_len (b :: r)]
    show r.length + 1 - 1 + 1 = r.length + 1 + 1 - 1
    omega
theorem ups_get : ∀ (l : List Int) (i : Nat) (x y : Int), l[i]? = some x → l[i + 1]? = some y → (ups l)[i]? = some (decide (x < y))
  | [], _, _, _, h, _ => by simp at h
  | [_], 0, _, _, _, h => by simp at h
  | [_], i + 1, _, _, h, _ => by simp at h
  | a :: b :: r, 0, x, y, h, h2 => by
    have e1 : a = x := Option.some.inj h
    have e2 : b = y := Option.some.inj h2
    rw [← e1, ← e2]
    rfl
  | a :: b :: r, i + 1, x, y, h, h2 => ups_get (b :: r) i x y h h2
theorem get_int {l : List Int} {i : Nat} {x : V} (h : (l.map V.int)[i]? = some x) : ∃ z, l[i]? = some z ∧ x = V.int z := by
  rw [List.getElem?_map] at h
  cases e : l[i]? with
  | none =>
    rw [e] at h
    cases h
  | some z =>
    rw [e] at h
    exact ⟨z, rfl, (Option.some.inj h).symm⟩
theorem cut_tail (l : List Int) : cutV (l.map V.int) (some 1) none = (l.drop 1).map V.int := by
  unfold cutV
  rw [show HT.sIx (l.map V.int).length 0 (some 1) = min 1 (l.map V.int).length from HT.sIx_nat _ _ 1, HT.sIx_none, ← List.map_drop]
  cases l with
  | nil => rfl
  | cons x r =>
    rw [List.length_map, List.length_cons, Nat.min_eq_left (by omega), List.take_of_length_le (by rw [List.length_map, List.length_drop, List.length_cons]; omega)]
section
variable {K : PySem.W.Frag}
/-- what may be asked: a text, or a thing whose kind is known to be another -/
def Known (K : PySem.W.Frag) (H : Hp) (x : V) : Prop := (∃ z, x = .str z ∧ z.length ≤ sizeLine) ∨ ((∀ z, x ≠ .str z) ∧ ∃ t, TyX K H x t ∧ PySem.W.kitOne K t (.type "str") = some false)
theorem Known.mono {H H' : Hp} (e : Same H H') {x : V} (h : Known K H x) : Known K H' x := by
  rcases h with h | ⟨h1, t, h2, h3⟩
  · exact .inl h
  · exact .inr ⟨h1, t, TyX.mono e h2, h3⟩
end
def spCell (K : PySem.W.Frag) : Sp := fun vs H Q _ => ∃ (l : Addr) (ns : List Int) (k : Nat), vs = [.ref l, .int (k : Int)] ∧ SqL K H l (ns.map V.int) ∧ ∀ (z : Int) (H' : Hp), Same H H' → Q (.int z) H'
theorem cut_first (ns : List Int) : cutV (ns.map V.int) none (some 1) = (ns.take 1).map V.int := by
  unfold cutV
  rw [show HT.sIx (ns.map V.int).length (ns.map V.int).length (some 1) = min 1 (ns.map V.int).length from HT.sIx_nat _ _ 1, HT.sIx_none, List.drop_zero, Nat.sub_zero]
  cases ns with
  | nil => rfl
  | cons x r => simp
def spDraw : Sp := fun vs H Q _ => ∃ (p : Addr) (m : Int), vs = [.ref p, .int m] ∧ Src H p ∧ 0 < m ∧ m < 1000000000 ∧ ∀ (d : Int) (H' : Hp), 0 ≤ d → d < m → Src H' p → But p H H' → Q (.int d) H'
def spSrc (K : PySem.W.Frag) : Sp := fun vs H Q _ => ∃ (l : Addr) (ns : List Int) (k : Nat), vs = [.ref l, .int (k : Int)] ∧ SqL K H l (ns.map V.int) ∧ ∀ (p : Addr) (H' : Hp), Same H H' → H p = none → Src H' p → Q (.ref p) H'
def menuA : List Str := ["ab", "ab", "bf", "acd", "ah", "a", "ab", "ce"]
def spLAsks : Sp := fun vs H Q _ => ∃ (p : Addr), vs = [.ref p] ∧ Src H p ∧ ∀ (z : Str) (H' : Hp), z ∈ menuA → Src H' p → But p H H' → Q (.str z) H'
def spEx0 : Sp := fun vs H Q _ => ∃ a : Str, vs = [.str a, .str a] ∧ Q (.bl true) H
def spEx1 : Sp := fun vs H Q _ => ∃ (p q : Addr) (xs : List Str), vs = [.ref p, .ref q] ∧ H p = some (.tup (xs.map V.str)) ∧ H q = some (.tup (xs.map V.str)) ∧ ∀ H', Same H H' → Q (.bl true) H'
def spLRow : Sp := fun vs H Q _ => ∃ (p : Addr) (z : Str) (m : Int), vs = [.ref p, .str z, .int m] ∧ Src H p ∧ 0 < z.length ∧ z.length ≤ 100 ∧ 0 ≤ m ∧ m ≤ 1000 ∧
  ∀ (y : Str) (H' : Hp), (∀ c ∈ y.cps.toList, c ∈ z.cps.toList) → (y.length : Int) ≤ m → Src H' p → But p H H' → Q (.str y) H'
end Ow
namespace PySem
namespace LowX
open PySem.W PySem.Calls PyProof.Rows PySem.HandSPX
/-! ### the text of __init__ -/
def iA (p1 p2 : Pos) : Arguments := { posonlyargs := [], args := [{ arg := "self", annotation := none, pos := p1 }, { arg := "thing", annotation := none, pos := p2 }], vararg := none, kwonlyargs := [], kw_defaults := [], kwarg := none, defaults := [] }
def iB (q1 q2 q3 q4 : Pos) : List Stmt := [.Assign [.Attribute (.Name "self" q1) "thing" q2] (.Name "thing" q3) q4]
def iS : Scope := { kind := .function, names := [(PySem.Str.ofString "self", .local), (PySem.Str.ofString "thing", .local)], isGenerator := false, isCoroutine := false, more := [] }
/-- what the written part says of Low, at C, and of its __init__, at fI -/
structure LowTxt (K : Frag) (mg : Str → Option Value) (x : Str) (C fI : Addr) : Prop where
  gC : mg x = some (.ref C)
  cls : ∃ nm q N bs bm sn sub ab col dd k0 k1 k2 k3 k5, K.lookup C = some (excClassObj nm q C N bs bm true sn sub ab col dd k0 k1 k2 k3 k5 "ValueError.__new__") ∧ refsVE bm = true
  sa : findIn K (.ref C) "__setattr__" = some (some (.builtin "object.__setattr__"))
  ga : findIn K (.ref C) "__getattribute__" = some (some (.builtin "BaseException.__getattribute__"))
  gg : findIn K (.ref C) "__getattr__" = some none
  noN : findIn K (.ref C) "thing" = some none
  iC : findIn K (.ref C) "__init__" = some (some (.ref fI))
  tC : typeIn K (.ref fI) = some (.type "function")
  kC : keepIn K (.ref C) = true
  exC : subIn K (.ref C) (.type "BaseException") = some true
  tyC : typeIn K (.ref C) = some (.type "type")
  hdC : hasDictIn K C = true
  te : exmOne K (.ref C) (.ref C) = some true
  fn : ∃ (oc : Value) (od : Option Addr) (doc pm : Value) (an : Option Addr) (cdv ct : Value) (osl : Array (Option Value)) (p1 p2 q1 q2 q3 q4 : Pos),
    K.lookup fI = some ⟨oc, od, .func (fnOf "__init__" "WrongThing.__init__" (iA p1 p2) (iB q1 q2 q3 q4) iS .none .none doc pm an cdv ct), osl⟩ ∧ codeIn K cdv "WrongThing.__init__" = true
theorem one_size (v : Value) : [v].length ≤ sizeLine := by
  rw [sizeLine_eq]
  exact (by decide : 1 ≤ 16777216)
theorem kept_but {K : Frag} {h h' : Heap} {x : Addr} (X : K.In h) (hx : K.lookup x = none) (k : ∀ b o, b ≠ x → h.get? b = some o → h'.get? b = some o) : K.In h' := fun a o e =>
  k a o (fun z => by rw [z, hx] at e; cases e) (X a o e)
theorem ldC {M : Model} {s : Shared} {name : Str} {scope : Scope} {L a : Addr} {cd : Value} {m : Str → Option Value} {x : Str} {pos : Pos} {v : Value} {Q : Value → Shared → Prop} {A : Around} {E : Value → Shared → Prop} (hn : s.heap.Ns L m) (hv : m x = some v) (h : Q v s)
    (hk : scope.kind = .function := by rfl) (hl : (envOfC name scope L a cd).kindOf x = some .local := by rfl) (hd : (x == ("__debug__" : Str)) = false := by decide) :
    wpAny M A (eval (.Name x pos) (envOfC name scope L a cd)) Q E s := wpAny_Name (wpAny_loadName_local hk hl hn hv h) hd
/-- what __init__ leaves of a fresh exception at x -/
structure InitEnd (h h' : Heap) (x C dx t1 : Addr) (v : Value) : Prop where
  keep : ∀ b o, b ≠ x → h.get? b = some o → h'.get? b = some o
  obj : h'.get? x = some { cls := .ref C, dict := some dx, data := .fields #[.ref t1, .none, .none, .none, .bool false, .none] }
  dbig : h.objs.size ≤ dx
  dne : dx ≠ x
  ns : h'.Ns1 dx (fun y => if y = "thing" then some v else none)
/-- a made Low -/
structure OwnMade (h h' : Heap) (e C d : Addr) (v : Value) : Prop where
  keep : ∀ b o, h.get? b = some o → h'.get? b = some o
  new : h.objs.size ≤ e
  obj : ∃ oe vs, h'.get? e = some oe ∧ oe.cls = .ref C ∧ oe.dict = some d ∧ oe.data = .fields vs ∧ vs[1]? = some .none
  dbig : h.objs.size ≤ d
  dne : d ≠ e
  ns : h'.Ns1 d (fun y => if y = "thing" then some v else none)
section
variable {prog : Program} {w : World} {A : Around} {E : Value → Shared → Prop} {R : Result → Shared → Prop} {s : Shared} {K : Frag} {mg : Str → Option Value} {C fI : Addr} {x : Str}
theorem low_init (T : LowTxt K mg x C fI) {x t0 : Addr} {v : Value} (X : K.In s.heap) (hlim : s.heap.NoLimit) (hx : s.heap.get? x = some (excO C t0)) (hnx : K.lookup x = none) (hroom : A.depth < recursionLimit)
    (hq : ∀ h' tk dx, InitEnd s.heap h' x C dx t0 v → R (.ok (.ret .none)) { s with heap := h', toks := tk }) :
    codeAny (model prog w) A (.call (.ref fI) ⟨[.ref x, v], []⟩) R s := by
  obtain ⟨oc, od, doc, pm, an, cdv, ct, osl, p1, p2, q1, q2, q3, q4, ho, hcd⟩ := T.fn
  obtain ⟨nm, q, N, bs, bm, sn, sub, ab, col, dd, k0, k1, k2, k3, k5, hC, hbm⟩ := T.cls
  have hcl : clsIn K C = some { name := nm, bases := bs, mro := .ref C :: bm, ns := N, qualname := q, hasDict := true, slotNames := sn, subclasses := sub, abstract := ab, collection := col, hasDel := false } := by unfold clsIn; rw [hC] <;> rfl
  refine Att.call_fn (binds := [("self", .ref x), ("thing", v)]) X hlim ho hcd hroom (BindsTo.of_eq (by first | rfl | with_unfolding_all rfl)) (by first | rfl | decide | with_unfolding_all rfl) (fun s₁ IC => ?_) rfl rfl rfl
  obtain ⟨h₁, tk₁, rfl⟩ := IC.toInCall.same
  have k : ∀ b o, s.heap.get? b = some o → h₁.get? b = some o := IC.toInCall.keep
  have hn := IC.toInCall.ns
  have hxL : s.heap.objs.size ≠ x := Nat.ne_of_gt (Heap.lt_size hx)
  have X₁ : K.In h₁ := X.keeps k
  have hx₁ := k _ _ hx
  -- self.by = by
  show wpAny _ _ (execs _ _) _ _ _
  refine wpAny_execs_cons (plainObj_wpAny_Assign_Attribute ?_)
  refine ldC (v := v) hn (by first | rfl | with_unfolding_all rfl | kernel_rfl) (ldC (v := .ref x) hn (by first | rfl | with_unfolding_all rfl | kernel_rfl) ?_)
  refine set_plain X₁ (ox := excO C t0) (od := none) ⟨hx₁, rfl, rfl, trivial⟩ T.sa ?_
  refine exc_osa X₁ hx₁ hcl (show refsVE (.ref C :: bm) = true from hbm) rfl T.noN (fun h₃ tk₃ dx k₃ dn dne hx₃ hn₃ => ?_)
  show wpAny _ _ (execs _ _) _ _ _
  have z : s.heap.objs.size < h₁.objs.size := hn.lt
  exact wpAny_execs_nil (hq h₃ tk₃ dx ⟨fun b o hb e => k₃ b o hb (k b o e), hx₃, Nat.le_of_lt (Nat.lt_of_lt_of_le z dn), dne, hn₃⟩)
theorem low_made (T : LowTxt K mg x C fI) {v : Value} (X : K.In s.heap) (hlim : s.heap.NoLimit) (hroom : A.depth + 1 < recursionLimit)
    (hq : ∀ h' tk e d, OwnMade s.heap h' e C d v → R (.ok (.ret (.ref e))) { s with heap := h', toks := tk }) :
    codeAny (model prog w) A (.call (.ref C) ⟨[v], []⟩) R s := by
  obtain ⟨nm, q, N, bs, bm, sn, sub, ab, col, dd, k0, k1, k2, k3, k5, hC, hbm⟩ := T.cls
  obtain ⟨hp, g, dr, tk, os⟩ := s
  have k : ∀ b o, hp.get? b = some o → ((hp.push (kdv_tup [v])).push (excO C hp.objs.size)).get? b = some o := fun b o e => Heap.get?_push_of_some _ (Heap.get?_push_of_some _ e)
  have hget : ((hp.push (kdv_tup [v])).push (excO C hp.objs.size)).get? (hp.objs.size + 1) = some (excO C hp.objs.size) := by heap_get
  have hnx : K.lookup (hp.objs.size + 1) = none := by
    cases e : K.lookup (hp.objs.size + 1) with
    | none => rfl
    | some o =>
      have z : hp.get? (hp.objs.size + 1) = some o := X _ _ e
      exact absurd (Nat.lt_of_succ_lt (Heap.lt_size z)) (Nat.lt_irrefl _)
  refine call_own F.excBase_ValueError (fun X => refsVE_contains X bm hbm) (X _ _ hC) (looks_findIn X T.iC) (fun self => bind_fn X self T.tC) (one_size v) ?_
  refine low_init (s := ⟨(hp.push (kdv_tup [v])).push (excO C hp.objs.size), g, dr, tk, os⟩) T (X.keeps k) (hlim.keeps k) hget hnx ?_ fun h' tk' dx ⟨k', hx, dn, dne, hns⟩ => ?_
  · show A.depth + 1 < recursionLimit
    exact hroom
  · have old : ∀ b o, hp.get? b = some o → h'.get? b = some o := fun b o e => k' b o (Nat.ne_of_lt (Nat.lt_succ_of_lt (Heap.lt_size e))) (k b o e)
    have z : hp.objs.size + 1 + 1 ≤ dx := by
      first
        | (simpa only [Heap.size_push] using dn)
        | exact dn
        | (have q := dn; rw [Heap.size_push, Heap.size_push] at q; exact q)
    exact ⟨rfl, hq h' tk' (hp.objs.size + 1) dx ⟨old, Nat.le_succ _, ⟨_, _, hx, rfl, rfl, rfl, rfl⟩, Nat.le_trans (Nat.le_trans (Nat.le_succ _) (Nat.le_succ _)) z, dne, hns⟩⟩
end
end LowX
end PySem
namespace L2
open PySem PySem.Spec PyProof.Rows
theorem relO_thing {v : V} {v' : Value} (r : RelV v v') (f : Str) : RelO (List.lookup f [(("thing" : Str), v)]) (if f = "thing" then some v' else none) := by
  by_cases hw : f = "thing"
  · subst hw
    rw [if_pos rfl]
    have q : List.lookup ("thing" : Str) [(("thing" : Str), v)] = some v := by simp [List.lookup]
    rw [q]
    exact r
  · rw [if_neg hw]
    have qw : (f == ("thing" : Str)) = false := by simpa using hw
    have q2 : List.lookup f [(("thing" : Str), v)] = none := by simp [List.lookup, qw]
    rw [q2]
    trivial
section
variable {X : Cx} {C fI : Addr}
/-- Low(e) -/
def tMkTh (C : Addr) (ta : TA) : St → Hp → XK → Prop := fun σ H Q => ta σ H fun vs H1 => ∃ v, vs = [v] ∧ ∀ d, H1 d = none → Q (.ref C) (some d) (upd H1 d (.xd [(("thing" : Str), v)]))
theorem pmk_thing {a : Expr} {ta : TA} {p pos : Pos} {k : Nat} (T : PySem.LowX.LowTxt X.K X.mg x C fI) (hr : Room k X.A) (ha : PA X [a] ta) (hg : Gl X x := by rfl) (hdb : (x == ("__debug__" : Str)) = false := by decide)
    (he : starEach (a :: []) X.env = (false, eval a X.env) :: starEach [] X.env := by rfl) (hpl : (backTo pos (starEach [] X.env)).any (·.1) = false := by rfl) :
    PMk X (.Call (.Name x p) [a] [] pos) (tMkTh C ta) := by
  intro pins s σ H Q I h
  refine wpAny_Call_Name_kw (ld_glob I hg T.gC ?_ hdb)
  refine PySem.W.callWith_K (h₀ := X.base) I.ok.mod.kin T.kC (thn (ha.run pos pins s σ H _ I h) fun us s1 hh => ?_) he hpl
  obtain ⟨vs, H1, I1, r1, v, ev, q1⟩ := hh
  subst ev
  refine ⟨I1.kIn, ?_⟩
  cases r1 with
  | cons rv rn =>
    rename_i v' us'
    cases rn
    show wpAny _ _ (call (.ref C) [v']) _ _ _
    have hlim := I1.nolimit
    obtain ⟨hp, g, dr, tk, os⟩ := s1
    refine wpAny_call (PySem.LowX.low_made T I1.kIn hlim (by have := hr.dp; omega) fun h' tk' e d M => ?_)
    show MkP X pins σ Q (.ref e) ⟨h', g, dr, tk', os⟩
    obtain ⟨oe, fv, hoe, hc, hd, hdat, h1⟩ := M.obj
    have hns := M.ns
    obtain ⟨G', g1, g2⟩ := restrict h' fun b => decide (b ≠ e)
    have gk : ∀ b, b ≠ e → G'.get? b = h'.get? b := fun b hb => g1 b (decide_eq_true hb)
    have ge : G'.get? e = none := g2 e (by simp)
    have old : ∀ b o, hp.get? b = some o → G'.get? b = some o := fun b o q => (gk b (Nat.ne_of_lt (Nat.lt_of_lt_of_le (Heap.lt_size q) M.new))).trans (M.keep b o q)
    have ob : ObjOk X.prog X.w (upd H1 d (.xd [(("thing" : Str), v)])) G' d (.xd [(("thing" : Str), v)]) :=
      ⟨_, hns.at (fun o q => (gk d M.dne).trans q), fun f => relO_thing rv f⟩
    have J : Inv X pins σ (upd H1 d (.xd [(("thing" : Str), v)])) ⟨G', g, dr, tk', os⟩ := I1.laid (t' := tk') old M.dbig ob
    refine ⟨e, oe, fv, ⟨G', g, dr, tk', os⟩, _, .ref C, some d, rfl, J, fun b o q => ?_, ge, hoe, ⟨hc, hd⟩, hdat, h1, ?_, rfl, I1.bare, raises_own T.exC T.tyC, q1 d (I1.hok.fresh M.dbig)⟩
    · by_cases hb : b = e
      · have q' : G'.get? b = some o := q
        rw [hb, ge] at q'; cases q'
      · exact (gk b hb).symm.trans q
    · rw [upd_ne (Ne.symm M.dne)]
      exact I1.hok.fresh M.new
/-- raise Low(e) -/
def tRaiseTh (C : Addr) (W : WX) (ta : TA) : TS := fun _ σ H => tMkTh C ta σ H fun cls d H' => W cls d σ H'
theorem ps_raiseTh {a : Expr} {ta : TA} {W : WX} {p pos pos2 : Pos} {k : Nat} (hc : X.calm = true) (T : PySem.LowX.LowTxt X.K X.mg x C fI) (hr : Room k X.A) (tk : Takes X W) (ha : PA X [a] ta) (hg : Gl X x := by rfl) (hdb : (x == ("__debug__" : Str)) = false := by decide)
    (he : starEach (a :: []) X.env = (false, eval a X.env) :: starEach [] X.env := by rfl) (hpl : (backTo pos (starEach [] X.env)).any (·.1) = false := by rfl) :
    PS X (.Raise (some (.Call (.Name x p) [a] [] pos)) none pos2) (tRaiseTh C W ta) := ps_raise hc tk (pmk_thing T hr ha hg hdb he hpl)
/-- low.by, low the exception that the suite holds (at a; its class cls, its dict d) -/
def tThing (C : Addr) (a : Addr) (cls : Value) (d : Option Addr) (te : TE) : TE := fun σ H Q => te σ H fun x H1 => x = .ref a ∧ cls = .ref C ∧ ∃ (dd : Addr) (v : V), d = some dd ∧ H1 dd = some (.xd [(("thing" : Str), v)]) ∧ Q v H1
theorem pe_thing {a : Addr} {oe : Obj} {cls : Value} {d : Option Addr} {pn : List (Addr × Obj)} {e : Expr} {te : TE} {pos : Pos} (T : PySem.LowX.LowTxt X.K X.mg x C fI) (hz : Zc cls d oe) (hf : ∃ vs, oe.data = .fields vs) (he : PE (X.suite a ((a, oe) :: pn)) e te)
    (hb : attributeBase e "thing" X.env (eval e X.env) = eval e X.env := by rfl) :
    PE (X.suite a ((a, oe) :: pn)) (.Attribute e "thing" pos) (tThing C a cls d te) := by
  refine ⟨fun pins s σ H Q I h => ?_⟩
  refine attr_of hb (thn (he.run pins s σ H _ I h) fun u s1 hh => ?_)
  obtain ⟨x, H1, I1, rx, ex, ec, dd, v, ed, ea, q⟩ := hh
  subst ex
  obtain rfl : u = Value.ref a := rx
  subst ec
  subst ed
  obtain ⟨ha, _⟩ := I1.pin (a, oe) (List.mem_append_left _ List.mem_cons_self)
  obtain ⟨vs, hd⟩ := hf
  have hx : ObjOk X.prog X.w H1 s1.heap dd (.xd [(("thing" : Str), v)]) := I1.hok dd _ ea
  obtain ⟨mA, hns, hr⟩ := hx
  obtain ⟨od, ho, hl⟩ := lookIn_ns hns
  have l : List.lookup ("thing" : Str) [(("thing" : Str), v)] = some v := by simp [List.lookup]
  obtain ⟨u, hu, ru⟩ := RelO.some_of (v := v) (o := mA "thing") (by rw [← l]; exact hr "thing")
  have J : PySem.W.InstAt s1.heap a oe C (some od) := ⟨ha, hz.1, by unfold PySem.W.notCls; rw [hd] <;> rfl, by rw [hz.2]; exact ho⟩
  exact HandSPX.exc_get I1.kIn J T.ga T.gg T.exC (PySem.W.findObj_own T.hdC T.noN rfl (by rw [hl, hu])) (handed_of ru) ⟨v, H1, I1.tok _, ru, q⟩
end
end L2


namespace Ow
open PySem PySem.Spec PyProof.Rows L2
/-! ## isinstance of an error that bears a thing, in the suite that holds it -/
def rIsT (K : PySem.W.Frag) (a : Addr) (cls : Value) (d : Option Addr) : List V → Hp → VK → Prop := fun xs H Q =>
  ∃ (D dd : Addr) (fs : List (Str × V)) (c : V) (cv : Value) (b : Bool), cls = .ref D ∧ d = some dd ∧ H dd = some (.xd fs) ∧ ExcC K D ∧ xs = [.ref a, c] ∧ (∀ u, RelV c u → u = cv) ∧ PySem.W.kitOne K (.ref D) cv = some b ∧ Q (.bl b) H
theorem call_isT {X : Cx} {a : Addr} {cls : Value} {d : Option Addr} {oe : Obj} {pn : List (Addr × Obj)} (hz : Zc cls d oe) (hf : ∃ vs, oe.data = .fields vs) :
    CallR (X.suite a ((a, oe) :: pn)) (.builtin "isinstance") (rIsT X.K a cls d) := by
  intro pins s σ H xs us Q I r h
  obtain ⟨D, dd, fs, c, cv, b, rfl, rfl, hdd, C, rfl, hcv, e, q⟩ := h
  obtain ⟨u1, u2, rfl, r1, r2⟩ := vals2 r
  obtain rfl : u1 = Value.ref a := r1
  obtain rfl := hcv _ r2
  have hge := (I.pin (a, oe) (List.mem_append_left _ List.mem_cons_self)).1
  obtain ⟨vs, hv⟩ := hf
  obtain ⟨mA, hns, _⟩ : ObjOk X.prog X.w H s.heap dd (.xd fs) := I.hok dd _ hdd
  obtain ⟨od, ho, _⟩ := lookIn_ns hns
  have hcl : (PySem.W.clsIn X.K D).isSome = true := by
    have z := C.hd
    unfold PySem.W.hasDictIn at z
    cases q2 : PySem.W.clsIn X.K D with
    | none => rw [q2] at z; exact absurd z (by decide)
    | some cd => rfl
  have J : PySem.W.InstAt s.heap a oe D (some od) := ⟨hge, hz.1, by unfold PySem.W.notCls; rw [hv] <;> rfl, by rw [hz.2]; exact ho⟩
  exact PySem.W.kia_one (PySem.W.kitx_exc hcl C.hg C.hk C.hs C.ha C.hn C.ht C.hm) I.kIn J e (fun z => nomatch z) fun tk => ⟨.bl b, H, I.kept (t' := tk) fun _ _ z => z, rfl, q⟩
/-! ## several clauses, each with the same name -/
/-- the ends of a suite whose name, in slot i, goes behind it -/
def outAs (i : Nat) (D : Ends) : Ends := { nx := fun σ' H' => D.nx (σ'.set i none) H', rt := D.rt, bk := fun σ' H' => D.bk (σ'.set i none) H', ct := fun σ' H' => D.ct (σ'.set i none) H' }
abbrev Cl := Value × (Addr → Value → Option Addr → TS)
def wClauses (K : PySem.W.Frag) (i : Nat) (Wo : WX) (D : Ends) : List Cl → WX
  | [] => Wo
  | k :: r => fun cls d σ H => ∃ b, PySem.W.exmOne K cls k.1 = some b ∧ (b = true → ∀ a, H a = none → k.2 a cls d (outAs i D) (σ.set i (some (.ref a))) H) ∧ (b = false → wClauses K i Wo D r cls d σ H)
inductive ClOk (X : Cx) (n : Str) : List ExceptHandler → List Cl → Prop
  | nil : ClOk X n [] []
  | cons {x : Str} {c : Value} {ts : Addr → Value → Option Addr → TS} {b0 : Stmt} {su : List Stmt} {p1 p2 : Pos} {hds : List ExceptHandler} {l : List Cl} (nm : Names X x c)
      (hsu : ∀ (a : Addr) (oe : Obj) (cls : Value) (d : Option Addr) (pn : List (Addr × Obj)), Zc cls d oe → (∃ vs, oe.data = .fields vs) → PSs (X.suite a ((a, oe) :: pn)) (b0 :: su) (ts a cls d)) (r : ClOk X n hds l) :
      ClOk X n (.ExceptHandler (some (.Name x p1)) (some n) (b0 :: su) p2 :: hds) ((c, ts) :: l)
section
variable {X : Cx} {n : Str} {i : Nat} {body : List Stmt} {pos : Pos} {tb : WX → TS} {Wo : WX}
/-- a caught exception at a goes through the clauses -/
theorem clauses_run (stk : X.stack = X.env :: X.outer) (frm : X.env.frame = some X.env.locals) (nd : X.N.Nodup) (ix : X.N[i]? = some n) (loc : X.env.kindOf n = some .local) (tk : Takes X Wo) {pins : List (Addr × Obj)} {D : Ends} {a : Addr} {B : Heap} {sI s3 : Shared} {σ : L2.St} {H : Hp} {cls : Value} {d : Option Addr}
    (J : Inv X pins σ H sI) (nb : ∀ b o, sI.heap.get? b = some o → b ∉ frs X.stack → B.get? b = some o) (up : sI.heap.UpToSlots s3.heap) (fl : HandSPX.FlyingZ B (X.env :: X.outer) a (Zc cls d) s3.heap) (na : H a = none) (os : s3.os = sI.os) (ag : AllBare s3.gens) :
    ∀ {hds : List ExceptHandler} {l : List Cl}, ClOk X n hds l → wClauses X.K i Wo D l cls d σ H → wpAny (model X.prog X.w) X.A (handleBy (.ref a) X.env hds) (SP X pins D) X.xe s3 := by
  have frames : X.A.frames = some (X.env :: X.outer) := J.ok.frames.trans (congrArg some stk)
  obtain ⟨oe3, vs3, he3, hz3, hd3⟩ := fl.there
  have out : a ∉ frs (X.env :: X.outer) := fun hm => by
    obtain ⟨_, o, eo, hnf⟩ := fl.2.2.1.mem hm
    rw [he3] at eo
    cases eo
    exact hnf _ hd3
  have aL : a ≠ X.env.locals := fun z => out (List.mem_filterMap.mpr ⟨X.env, List.mem_cons_self, by rw [frm, z]⟩)
  have aF : a ∉ X.fs := fun hm => by
    obtain ⟨e, he, q⟩ := List.mem_filterMap.mp hm
    exact out (List.mem_filterMap.mpr ⟨e, List.mem_cons_of_mem _ he, q⟩)
  have J3 : Inv X pins σ H s3 := J.landed nb fl.1 up os ag
  have S3 := J3.suite he3 hd3 na aL aF
  intro hds l hk
  induction hk with
  | nil =>
    intro wish
    refine wpAny_handleBy_nil ?_
    obtain ⟨_, _, _, oe, vs, U, oU, us, he, hz, hd, h1, _⟩ := id fl
    unfold PySem.passOn
    refine wpAny_bind (wpAny_field he hd h1 ?_)
    rw [if_neg (by simp : ¬ ((Value.ref U == Value.none) = true))]
    have last : wpAny (model X.prog X.w) X.A (setFlight (.ref a) X.env.frame) (fun _ s4 => wpAny (model X.prog X.w) X.A (throw (.ref a) : Sem Flow) (SP X pins D) X.xe s4) X.xe s3 := by
      rw [frm]
      refine HandSPX.setFlight_upZ fl fun h4 held up4 => wpAny_throw (tk _ _ ⟨a, B, sI, pins, σ, H, cls, d, rfl, J, nb, up.trans up4, .inr (.inr (by rw [stk]; exact held)), na, os, ag, wish⟩)
    first
      | exact wpAny_bind (wpAny_pure (wpAny_bind last))
      | exact wpAny_bind last
  | @cons x c ts b0 su p1 p2 hds2 l2 nm hsu r ih =>
    rintro ⟨b, hb, yes, no⟩
    refine wpAny_handleBy_cons (codeAny_handlers_test ?_) (fun q => by cases q)
    have ty : PySem.W.Looks (model X.prog X.w) s3.heap (typeOf (.ref a)) cls := fun A Q E s k q => wpAny_typeOf_ref (k _ _ he3) (by rw [hz3.1]; exact q)
    have meets := PySem.W.exm_one (M := model X.prog X.w) J3.kIn ty hb
    have named : ∀ {Q E : Value → Shared → Prop}, Q c s3 → wpAny (model X.prog X.w) (X.A.mark (some (.ref a))) (eval (.Name x p1) X.env) Q E s3 := fun {Q E} q => by
      obtain ⟨g1, g2, g3 | ⟨g3, g4, g5⟩⟩ := nm
      · exact ld_glob (X := X.suite a ((a, oe3) :: (X.pn ++ pins))) S3 g1 g3 q g2
      · exact ld_blt (X := X.suite a ((a, oe3) :: (X.pn ++ pins))) S3 g1 g3 g4 q g5 g2
    refine named (meets.here ?_)
    cases b with
    | false =>
      show wpAny _ X.A (handleBy (.ref a) X.env hds2) _ _ _
      exact ih (no rfl)
    | true =>
      refine codeAny_handlers_suite_as (HandSPX.lands_againZ fl fun h4 fl4 up4 => ?_)
      have J4 : Inv X pins σ H { s3 with heap := h4 } := J.landed nb fl4.1 (up.trans up4) os ag
      obtain ⟨oe4, vs4, he4, hz4, hd4⟩ := fl4.there
      have S4 := J4.suite he4 hd4 na aL aF
      refine store_ok (X := X.suite a ((a, oe4) :: (X.pn ++ pins))) (v := .ref a) S4 nd ix (.inl loc) rfl (fun s5 S5 => ?_) (.inr loc)
      have gone : ∀ {σ6 : L2.St} {H6 : Hp} {s6 : Shared} {Q : Shared → Prop}, Inv (X.suite a ((a, oe4) :: (X.pn ++ pins))) [] σ6 H6 s6 → (∀ s7, Inv X pins (σ6.set i none) H6 s7 → Q s7) →
          wpAny (model X.prog X.w) X.A (do bindName X.env n .none; unbindBehindTheSuite X.env n p2) (fun _ s7 => Q s7) X.xe s6 := fun S6 hq => gone_ok (S6.unsuite J.ok) nd ix loc hq
      refine wpAny_mono ((hsu a oe4 cls d (X.pn ++ pins) hz4 ⟨_, hd4⟩).run [] s5 _ H _ S5 (yes rfl a na)) (fun f s6 hsp => ?_) (fun _ _ z => z.elim)
      cases f with
      | ret u =>
        obtain ⟨v6, σ6, H6, S6, r6, q6⟩ := hsp
        exact gone S6 fun s7 J7 => ⟨v6, _, H6, J7, r6, q6⟩
      | next =>
        obtain ⟨σ6, H6, S6, q6⟩ := hsp
        exact gone S6 fun s7 J7 => ⟨_, H6, J7, q6⟩
      | brk =>
        obtain ⟨σ6, H6, S6, q6⟩ := hsp
        exact gone S6 fun s7 J7 => ⟨_, H6, J7, q6⟩
      | cont =>
        obtain ⟨σ6, H6, S6, q6⟩ := hsp
        exact gone S6 fun s7 J7 => ⟨_, H6, J7, q6⟩
theorem ps_try_clauses {h0 : ExceptHandler} {hds : List ExceptHandler} {l : List Cl} (stk : X.stack = X.env :: X.outer) (frm : X.env.frame = some X.env.locals) (nd : X.N.Nodup) (ix : X.N[i]? = some n) (loc : X.env.kindOf n = some .local) (tk : Takes X Wo)
    (hb : ∀ (W : WX) (pn : List (Addr × Obj)) (xe : Value → Shared → Prop), Takes (X.tr pn xe) W → PassesOwn (model X.prog X.w) X.A X.env xe → PSs (X.tr pn xe) body (tb W))
    (cl : ClOk X n (h0 :: hds) l) : PS X (.Try body (h0 :: hds) [] [] pos) (fun D σ H => tb (wClauses X.K i Wo D l) D σ H) := by
  refine ⟨fun pins s σ H D I h => wpAny_Try_except ?_⟩
  have frames : X.A.frames = some (X.env :: X.outer) := I.ok.frames.trans (congrArg some stk)
  refine wpAny_mono ((hb (wClauses X.K i Wo D l) (X.pn ++ pins) (fun e s1 => wpAny (model X.prog X.w) X.A (noteFrame e X.env) (fun _ s2 => wpAny (model X.prog X.w) X.A (setFlight e none) (fun _ s3 =>
    wpAny (model X.prog X.w) X.A (handleBy e X.env (h0 :: hds)) (SP X pins D) X.xe s3) X.xe s2) X.xe s1) (fun u s1 fell => ?_) PassesOwn.looking).run [] s σ H D (I.toTry _) h) (fun f s1 went => ?_) (fun _ _ z => z)
  · obtain ⟨a, B, sI, ps, σ', H', cls, d, rfl, J', nb, up, sky, na, os, ag, wish⟩ := fell
    rw [show (X.tr (X.pn ++ pins) (fun e s1 => wpAny (model X.prog X.w) X.A (noteFrame e X.env) (fun _ s2 => wpAny (model X.prog X.w) X.A (setFlight e none) (fun _ s3 =>
      wpAny (model X.prog X.w) X.A (handleBy e X.env (h0 :: hds)) (SP X pins D) X.xe s3) X.xe s2) X.xe s1)).stack = X.env :: X.outer from stk] at sky
    show wpAny (model X.prog X.w) X.A (noteFrame (.ref a) X.env) _ _ _
    exact Sky.land Zc.steady frames frm sky fun h3 fl3 up3 => clauses_run stk frm nd ix loc tk (s3 := { s1 with heap := h3 }) (J'.ofTry I.ok) nb (up.trans up3) fl3 na os ag cl wish
  · cases f with
    | ret u =>
      obtain ⟨v, σ', H', J', r, q⟩ := went
      exact ⟨v, σ', H', J'.ofTry I.ok, r, q⟩
    | next =>
      obtain ⟨σ', H', J', q⟩ := went
      exact wpAny_execs_nil ⟨σ', H', J'.ofTry I.ok, q⟩
    | brk =>
      obtain ⟨σ', H', J', q⟩ := went
      exact ⟨σ', H', J'.ofTry I.ok, q⟩
    | cont =>
      obtain ⟨σ', H', J', q⟩ := went
      exact ⟨σ', H', J'.ofTry I.ok, q⟩
end
end Ow
namespace Ow
open PySem PySem.Spec PyProof.Rows L2
def onL (a : Addr) : Code × Pos → Bool := fun
  | (.builtin "list.__repr__.loop" ⟨v :: _, _⟩, _) => Builtin.List.listSameRef v (.ref a)
  | _ => false
theorem onL_pos (a : Addr) (c : Code) (p : Pos) : onL a (c, p) = onL a (c, default) := by
  unfold onL
  split
  · next heq => cases heq; rfl
  · next h =>
    split
    · next heq => cases heq; exact absurd rfl (h _ _ _ _)
    · rfl
theorem onL_off (a : Addr) (c : Code) (p : Pos) (hc : c.isGuard = false) : onL a (c, p) = false := by
  unfold onL
  split
  · next heq => cases heq; simp [Code.isGuard, guardIds] at hc
  · rfl
def runs (f : Code × Pos → Bool) (g : List Code) : Bool := g.any fun c => f (c, default)
theorem runs_no {f : Code × Pos → Bool} {g : List Code} (h : runs f g = false) : ∀ c ∈ g, f (c, default) = false := fun c hc => by
  have z := List.any_eq_false.mp h c hc
  simpa using z
section
variable {prog : Program} {w : World} {A : Around} {E : Value → Shared → Prop} {s : Shared} {a : Addr} {o : Obj} {g : List Code}
theorem rep_list_on {x : Value} {l : List Value} {n : Nat} {Q : Value → Shared → Prop} (hg : A.guards = some g) (hr : runs (onL a) g = true) (ha : s.heap.get? a = some o) (hc : o.cls = .type "list") (hd : o.data = .seq (x :: l).toArray n)
    (hQ : Q (.str "[...]" s.toks) { s with toks := s.toks + 1 }) : wpAny (model prog w) A (call (.builtin "list.__repr__") [.ref a]) Q E s := by
  refine wpAny_call (codeAny_call_builtin_own (Code.quiet_builtin _ (by decide +kernel)) F.entry_list_repr (F.slot_list_repr.check _ _ _ _ _ _ _ _ ⟨o, ha, hc⟩ (F.args_list_repr_1 _) ?_))
  show wpOwn _ _ _ (Builtin.listReprAt 0 ⟨[.ref a], []⟩) _ _ s
  intro Γ p hcd hΓ
  unfold Builtin.listReprAt
  simp [slotArgs, Builtin.List.listItems, seqItems?, Sem.wp_load_of (h := ha), hd, stack]
  show Sem.wp _ Γ (if (Γ.below.any (onL a)) = true then _ else _) _ _ p s
  have e : Γ.below.any (onL a) = true := by
    rw [any_eq_guards (onL_off a) (onL_pos a), hΓ.2.2.2.1 g hg]
    exact hr
  rw [if_pos e]
  simp [rule, retStr, ret]
  exact hQ
theorem rep_tup_on {items : Array Value} {n : Nat} {Q : Value → Shared → Prop} (hg : A.guards = some g) (hr : runs (tupGuardF (.ref a)) g = true) (ha : s.heap.get? a = some o) (hc : o.cls = .type "tuple") (hd : o.data = .seq items n)
    (hQ : Q (.str "(...)" s.toks) { s with toks := s.toks + 1 }) : wpAny (model prog w) A (call (.builtin "tuple.__repr__") [.ref a]) Q E s := by
  refine wpAny_call (codeAny_call_builtin_own (Code.quiet_builtin _ (by decide +kernel)) F.entry_tuple_repr (F.slot_tuple_repr.check _ _ _ _ _ _ _ _ ⟨o, ha, hc⟩ (F.args_tuple_repr_1 _) ?_))
  show wpOwn _ _ _ (Builtin.tupleReprAt 0 ⟨[.ref a], []⟩) _ _ s
  rw [tuple_repr_tree, tupleReprUnderWay_eq]
  refine wpOwn_bind (wpOwn_stackTailAny hg (tupGuardF_off _) (tupGuardF_pos _) ?_)
  refine wpOwn_of_wpAny ?_
  refine PySem.W.KFB.if_so hr ?_
  refine wpAny_bind (wpAny_rule ?_)
  exact wpAny_bind (wpAny_mkStr (wpAny_pure hQ) (by decide +kernel))
/-- {} -/
theorem rep_dict {n : Nat} {Q : Value → Shared → Prop} (hg : A.guards = some g) (ha : s.heap.get? a = some o) (hc : o.cls = .type "dict") (hd : o.data = .dict #[] n) (hsys : (a == sysModules) = false)
    (hQ : Q (.str (if runs (dictGuardF (.ref a)) g then "{...}" else "{}") s.toks) { s with toks := s.toks + 1 }) : wpAny (model prog w) A (call (.builtin "dict.__repr__") [.ref a]) Q E s := by
  refine wpAny_call (codeAny_call_builtin_own (Code.quiet_builtin _ (by decide +kernel)) F.entry_dict_repr (F.slot_dict_repr.check _ _ _ _ _ _ _ _ ⟨o, ha, hc⟩ (F.args_dict_repr_1 _) ?_))
  show wpOwn _ _ _ (Builtin.dictReprAt 0 ⟨[.ref a], []⟩) _ _ s
  unfold Builtin.dictReprAt
  refine wpOwn_bind (wpOwn_of_wpAny ?_)
  unfold Builtin.Dict.dictSlotNone
  refine wpAny_bind (wpAny_notOrdered_dict ⟨o, ha, hc⟩ ?_)
  show wpAny _ _ (pure (Value.ref a)) _ _ s
  refine wpAny_pure ?_
  rw [dictReprRunning_eq]
  refine wpOwn_bind (wpOwn_stackTailAny hg (dictGuardF_off _) (dictGuardF_pos _) ?_)
  refine wpOwn_of_wpAny ?_
  show wpAny _ _ (if runs (dictGuardF (.ref a)) g = true then _ else _) _ _ s
  cases hr : runs (dictGuardF (.ref a)) g with
  | true =>
    rw [hr] at hQ
    rw [if_pos rfl]
    refine wpAny_bind (wpAny_rule ?_)
    exact wpAny_bind (wpAny_mkStr (wpAny_pure hQ) (by decide +kernel))
  | false =>
    rw [hr] at hQ
    rw [if_neg Bool.false_ne_true]
    show wpAny _ _ (Builtin.Dict.addrOf (.ref a) >>= _) _ _ s
    refine wpAny_bind (wpAny_pure ?_)
    show wpAny _ _ (Builtin.Dict.showsAll a >>= _) _ _ s
    unfold Builtin.Dict.showsAll
    rw [if_neg (by rw [hsys]; exact Bool.false_ne_true)]
    refine wpAny_bind (wpAny_pure ?_)
    refine wpAny_bind (wpAny_dictEpoch ha hd ?_)
    refine wpAny_bind (wpAny_dictEntries ha hd ?_)
    refine wpAny_bind ?_
    rw [Std.Legacy.Range.forIn_eq_forIn_range']
    refine wpAny_pure ?_
    exact wpAny_bind (wpAny_mkStr (wpAny_pure hQ) (by decide +kernel))
end
/-- what repr tells of x, by the guards -/
inductive RepIs : Hp → V → (List Code → Str) → Prop
  | str {H : Hp} {z : Str} (h : (reprText z).length ≤ sizeLine) : RepIs H (.str z) fun _ => reprText z
  | int {H : Hp} {i : Int} (h : i.natAbs.log2 < 1920) : RepIs H (.int i) fun _ => toString i
  | bl {H : Hp} {b : Bool} : RepIs H (.bl b) fun _ => if b then "True" else "False"
  | non {H : Hp} : RepIs H .non fun _ => "None"
  | lst {H : Hp} {a : Addr} {z : Str} (h : H a = some (.lst [.str z])) (hz : (listText [reprText z]).length ≤ sizeLine) (hz2 : (reprText z).length ≤ sizeLine) : RepIs H (.ref a) fun g => if runs (onL a) g then "[...]" else listText [reprText z]
  | tup {H : Hp} {a : Addr} (h : H a = some (.tup [])) : RepIs H (.ref a) fun g => if runs (tupGuardF (.ref a)) g then "(...)" else tupleText []
  | dct {H : Hp} {a : Addr} (h : H a = some (.dK [])) : RepIs H (.ref a) fun g => if runs (dictGuardF (.ref a)) g then "{...}" else "{}"
theorem RepIs.mono {H H' : Hp} {x : V} {f : List Code → Str} (e : Same H H') (h : RepIs H x f) : RepIs H' x f := by
  cases h with
  | str h => exact .str h
  | int h => exact .int h
  | bl => exact .bl
  | non => exact .non
  | lst h h1 h2 => exact .lst (e _ _ h) h1 h2
  | tup h => exact .tup (e _ _ h)
  | dct h => exact .dct (e _ _ h)
def rRep (g : List Code) : List V → Hp → VK → Prop := fun xs H Q => ∃ (x : V) (f : List Code → Str), xs = [x] ∧ RepIs H x f ∧ Q (.str (f g)) H
theorem call_rep {X : Cx} {g : List Code} (hg : X.A.guards = some g) (hu : X.A.units + 64 < cLine) : CallR X (.builtin "repr") (rRep g) := by
  intro pins s σ H xs us Q I r h
  obtain ⟨x, f, rfl, ri, q⟩ := h
  obtain ⟨u, rfl, t⟩ := vals1 r
  cases ri with
  | str hz =>
    obtain ⟨t, rfl⟩ := t
    exact PySem.P.repr_of_str ⟨.str _, H, I.tok _, ⟨_, rfl⟩, q⟩ hz
  | int hz =>
    obtain ⟨t, rfl⟩ := t
    exact PySem.P.repr_of_int hz ⟨.str _, H, I.tok _, ⟨_, rfl⟩, q⟩
  | bl =>
    cases t
    exact PySem.P.repr_of_bool ⟨.str _, H, I.tok _, ⟨_, rfl⟩, q⟩
  | non =>
    cases t
    exact PySem.P.repr_of_none ⟨.str _, H, I.tok _, ⟨_, rfl⟩, q⟩
  | lst e hz hz2 =>
    rename_i a z
    cases t
    replace q : Q (.str (if runs (onL a) g then "[...]" else listText [reprText z])) H := q
    obtain ⟨its, r', pl, _⟩ := I.list (SqL.of e)
    obtain ⟨v, rfl, t, rfl⟩ := vals1 r'
    obtain ⟨o, ho, hc, n, hd⟩ := pl.isList
    refine call_repr_slot (T := "list") (idr := "list.__repr__") (by omega) ⟨o, ho, hc⟩ F.slot_list_repr.toG ?_
    cases hr : runs (onL a) g with
    | true =>
      rw [hr] at q
      exact rep_list_on hg hr ho hc hd ⟨_, _, rfl, .str _, H, I.tok _, ⟨_, rfl⟩, q⟩
    | false =>
      rw [hr] at q
      refine call_list_repr ⟨o, ho, hc⟩ hg (fun v rest kw hm => runs_no hr _ hm) ho hd (ts := [reprText z]) (by rfl) (fun i y hy => ?_) (fun h' u tk hk => ⟨_, _, rfl, .str _, H, I.kept (t' := tk) hk, ⟨_, rfl⟩, q⟩) hz
      cases i with
      | zero =>
        obtain rfl : Value.str z t = y := Option.some.inj hy
        exact ⟨_, rfl, ReprIs.str z t hz2⟩
      | succ i => simp at hy
  | tup e =>
    rename_i a
    cases t
    replace q : Q (.str (if runs (tupGuardF (.ref a)) g then "(...)" else tupleText [])) H := q
    obtain ⟨its, r', ⟨o, ho, hc, n, hd⟩, _⟩ := I.tuple (SqT.of e)
    cases r'
    refine call_repr_slot (T := "tuple") (idr := "tuple.__repr__") (by omega) ⟨o, ho, hc⟩ F.slot_tuple_repr ?_
    cases hr : runs (tupGuardF (.ref a)) g with
    | true =>
      rw [hr] at q
      exact rep_tup_on hg hr ho hc hd ⟨_, _, rfl, .str _, H, I.tok _, ⟨_, rfl⟩, q⟩
    | false =>
      rw [hr] at q
      exact call_tuple_repr ⟨o, ho, hc⟩ hg (runs_no hr) ho hd (ts := []) .nil (fun u tk => ⟨_, _, rfl, .str _, H, I.tok _, ⟨_, rfl⟩, q⟩) (by decide +kernel)
  | dct e =>
    rename_i a
    cases t
    obtain ⟨_, hsys, vs, kv, o, es, ep, ho, hx, hd, _, hp, _⟩ := dk_of I.hok e
    cases kv
    obtain ⟨es⟩ := es
    cases hp
    refine call_repr_slot (T := "dict") (idr := "dict.__repr__") (by omega) ⟨o, ho, hx.1⟩ F.slot_dict_repr ?_
    refine rep_dict hg ho hx.1 hd hsys ⟨_, _, rfl, .str _, H, I.tok _, ⟨_, rfl⟩, q⟩

/-! ## a def's promise where the guards are known -/
structure FnG (P : Program) (w : World) (K : PySem.W.Frag) (mg : Str → Option Value) (base : Heap) (k : Nat) (f : Addr) (fd : FuncData) (ps : List Str) (sp : Sp) (g : List Code) : Prop where
  len : ∀ vs H Q E, sp vs H Q E → vs.length = ps.length
  run : ∀ (A : Around) (outer : List Env) (s : Shared) (H : Hp) (args : Args) (us : List Value) (vs : List V) (Q : VK) (E : XK), A.guards = some g → Room k A → Env0 P w K mg base A outer s H → BindsTo s fd args (ps.zip us) → Vals vs us → sp vs H Q E →
    codeAny (model P w) A (.call (.ref f) args) (CR CX0 outer P w H s Q E) s
section
variable {P : Program} {w : World} {K : PySem.W.Frag} {mg : Str → Option Value} {base : Heap}
/-- whatever the guards are, they are some -/
theorem FnG.all {k : Nat} {f : Addr} {fd : FuncData} {ps : List Str} {sp : Sp} (h : ∀ g, FnG P w K mg base k f fd ps sp g) : FnOk P w K mg base CX0 k f fd ps sp := by
  refine ⟨(h []).len, fun A outer s H args us vs Q E hr e0 hb hv hs => fun Γ p hc hΓ => ?_⟩
  refine (h (guardsOf Γ.below)).run { A with guards := some (guardsOf Γ.below) } outer s H args us vs Q E rfl ⟨hr.hd, hr.dp, hr.un⟩ ⟨e0.frames, e0.mod, e0.bs, e0.bsz, e0.funs, e0.frf, e0.hok, e0.bare⟩ hb hv hs Γ p hc ?_
  exact ⟨hΓ.1, hΓ.2.1, hΓ.2.2.1, fun g hg => Option.some.inj hg, hΓ.2.2.2.2⟩
theorem okG {x qual : Str} {st : Stmt} {f : Addr} {fd : FuncData} {N ps : List Str} {k : Nat} {sp : Sp} {g : List Code} (F : Fun K x qual st f fd) (S : FnScope N ps (defScope st)) (len : ∀ vs H Q E, sp vs H Q E → vs.length = ps.length)
    (hbody : ∀ (cdv : Value) (A : Around) (outer : List Env) (s : Shared) (H : Hp) (vs : List V) (Q : VK) (E : XK), A.guards = some g → Room k (A.deeper (envOfC qual (defScope st) s.heap.objs.size f cdv)) → sp vs H Q E →
      ∃ t, PSs (cxOf CX0 P w K mg base N qual (defScope st) f cdv A outer s H E).nox (defBody st) t ∧ t { nx := fun _ H' => Q .non H', rt := Q } (start N vs) H) : FnG P w K mg base (k + 1) f fd ps sp g := by
  obtain ⟨oc, od, kV, doc, pm, an, cdv, ct, osl, rfl, lk, hcd⟩ := F.ex
  refine ⟨len, fun A outer s H args us vs Q E hg hr e0 hb r hsp => ?_⟩
  have kb : ∀ b o, base.get? b = some o → s.heap.get? b = some o := fun b o e => (e0.bs b o e).1
  refine Att.call_fn (e0.mod.kin.keeps kb) (e0.mod.nolimit.keeps kb) lk hcd hr.depth hb ?_ (fun s1 x => ?_) S.co S.gen S.kind
  · refine List.all_eq_true.mpr fun ⟨n, v⟩ hy => ?_
    rcases S.par n (List.of_mem_zip hy).1 with q | q <;> rw [q] <;> rfl
  · obtain ⟨t, ht, hq⟩ := hbody cdv A outer s H vs Q E hg (hr.deeper _) hsp
    refine wpAny_mono (ht.nox.run [] s1 _ H _ (inv_start S hr.hd e0 (len _ _ _ _ hsp) r x) hq) (fun fl s' hs => ?_) fun e s' hs => hs
    cases fl with
    | ret u =>
      obtain ⟨v, σ', H', J, rv, q⟩ := hs
      exact ⟨v, H', J.os, J.bare, J.base, J.hok, rv, q⟩
    | next =>
      obtain ⟨σ', H', J, q⟩ := hs
      exact ⟨.non, H', J.os, J.bare, J.base, J.hok, rfl, q⟩
    | brk =>
      obtain ⟨_, _, _, q⟩ := hs
      exact q.elim
    | cont =>
      obtain ⟨_, _, _, q⟩ := hs
      exact q.elim
end
section
variable {X : Cx} {k : Nat} {f : Addr} {fd : FuncData} {ps : List Str} {sp : Sp} {x : Str} {p pos : Pos} {e : Expr} {es : List Expr} {t : TA} {g : List Code}
theorem pe_callG (F : FnG X.prog X.w X.K X.mg X.base k f fd ps sp g) (hgd : X.A.guards = some g) (hr : Room k X.A) (hg : Gl X x) (hm : X.mg x = some (.ref f)) (hk : PySem.W.keepIn X.K (.ref f) = true) (hb : Binds X.K fd ps [])
    (ha : PA X (e :: es) t) (hdb : (x == ("__debug__" : Str)) = false := by decide) (he : starEach (e :: es) X.env = (false, eval e X.env) :: starEach es X.env := by rfl) (hpl : (backTo pos (starEach es X.env)).any (·.1) = false := by rfl) :
    PE X (.Call (.Name x p) (e :: es) [] pos) (tCall sp [] E0 t) := by
  refine ⟨fun pins s σ H Q I h => ?_⟩
  refine wpAny_Call_Name_kw (ld_glob I hg hm ?_ hdb)
  refine PySem.W.callWith_K (h₀ := X.base) I.ok.mod.kin hk (thn (ha.run pos pins s σ H _ I h) fun us s1 ⟨vs, H1, I1, r, q⟩ => ⟨I1.kIn, ?_⟩) he hpl
  have q' : sp vs H1 Q E0 := by
    rw [← List.append_nil vs]
    exact q
  refine wpAny_call (codeAny_mono (F.run X.A X.stack s1 H1 ⟨us, []⟩ us vs Q E0 hgd hr I1.env0 ?_ r q') fun z s' hq => ?_)
  · have b := hb s1 us I1.kIn (by rw [List.append_nil, ← r.length]; exact F.len _ _ _ _ q')
    rw [List.append_nil] at b
    exact b
  · cases z with
    | error e => exact hq.elim
    | ok fl =>
      cases fl with
      | ret u => exact I1.after hq
      | next => exact hq.elim
      | brk => exact hq.elim
      | cont => exact hq.elim
end
end Ow
namespace Ow
open PySem PySem.Spec PyProof.Rows L2 Builtin.Str PyData
/-! ## texts: n times, the first n signs -/
theorem fold_cat (l : List (Array Nat)) : ∀ a : Array Nat, (l.foldl (· ++ ·) a).toList = a.toList ++ (l.map Array.toList).flatten := by
  induction l with
  | nil => intro a; simp
  | cons b r ih =>
    intro a
    rw [List.foldl_cons, ih, Array.toList_append, List.map_cons, List.flatten_cons, List.append_assoc]
theorem mul_list {z : Str} {n : Nat} (hn : 2 ≤ n) (hz : 0 < z.length) : (Txt.mul z (n : Int)).cps.toList = (List.replicate n z.cps.toList).flatten := by
  unfold Txt.mul
  have e2 : ((n : Int) == 1 || z.length == 0) = false := by
    rw [Bool.or_eq_false_iff]
    exact ⟨beq_false_of_ne (by omega), beq_false_of_ne (by omega)⟩
  rw [if_neg (by omega), e2, if_neg Bool.false_ne_true, Int.toNat_natCast]
  show ((List.replicate n z.cps).foldl (· ++ ·) #[]).toList = _
  rw [fold_cat, List.map_replicate]
  rfl
theorem mul_len {z : Str} {n : Nat} (hn : 2 ≤ n) (hz : 0 < z.length) : (Txt.mul z (n : Int)).length = n * z.length := by
  have e : (Txt.mul z (n : Int)).cps.toList.length = n * z.cps.toList.length := by
    rw [mul_list hn hz, List.length_flatten, List.map_replicate, List.sum_replicate_nat]
  rw [Array.length_toList, Array.length_toList] at e
  exact e
theorem mul_mem {z : Str} {n c : Nat} (hn : 2 ≤ n) (hz : 0 < z.length) (h : c ∈ (Txt.mul z (n : Int)).cps.toList) : c ∈ z.cps.toList := by
  rw [mul_list hn hz] at h
  obtain ⟨l, hl, hc⟩ := List.mem_flatten.mp h
  rw [(List.mem_replicate.mp hl).2] at hc
  exact hc
theorem cutS_mem {z : Str} {lo hi : Option Int} {c : Nat} (h : c ∈ (cutS z lo hi).cps.toList) : c ∈ z.cps.toList := by
  unfold cutS at h
  exact List.mem_of_mem_drop (List.mem_of_mem_take h)
theorem cutS_len {z : Str} {n : Nat} (h : n ≤ z.length) : (cutS z none (some (n : Int))).length = n := by
  show ((z.cps.toList.drop (HT.sIx z.length 0 none)).take (HT.sIx z.length z.length (some (n : Int)) - HT.sIx z.length 0 none)).toArray.size = n
  have ez : z.cps.toList.length = z.length := Array.length_toList
  rw [HT.sIx_nat, HT.sIx_none, List.drop_zero, Nat.sub_zero, List.size_toArray, List.length_take, ez]
  omega
section
variable {X : Cx}
theorem op_mulStr : OpR X (binaryOp .Mult) (fun x y H Q => ∃ (z : Str) (n : Nat), x = .str z ∧ y = .int (n : Int) ∧ 2 ≤ n ∧ n ≤ 100000 ∧ 0 < z.length ∧ z.length ≤ 100 ∧ Q (.str (Txt.mul z (n : Int))) H) := by
  intro pins s σ H x y v u Q I rx ry h
  obtain ⟨z, n, rfl, rfl, h2, h3, h0, h1, q⟩ := h
  obtain ⟨t, rfl⟩ := rx
  obtain ⟨t', rfl⟩ := ry
  have hb : z.length * n ≤ 10000000 := Nat.le_trans (Nat.mul_le_mul h1 h3) (by decide)
  refine SB.mul ⟨?_, fun _ _ => ?_, fun _ _ => ?_⟩ fun t' k => ⟨.str _, H, I.tok _, ⟨_, rfl⟩, q⟩
  · rw [Bool.or_eq_false_iff]
    exact ⟨decide_eq_false (by omega), decide_eq_false (by omega)⟩
  · have h5 : (92233720368547 : Int) ≤ (2 ^ 63 - 1) / (n : Int) := by
      refine (Int.le_ediv_iff_mul_le (by omega)).mpr ?_
      omega
    omega
  · show decide (z.length * ((n : Int)).toNat > sizeLine) = false
    rw [Int.toNat_natCast]
    exact decide_eq_false (Nat.not_lt.mpr (Nat.le_trans hb (by decide)))
end
/-! ## the text of repr is a text -/
theorem reprChar_ok (q c : Nat) (hc : c < 1114112) : ∀ d ∈ reprChar q c, d < 1114112 := by
  have hx : ∀ (n : Nat), ∀ d ∈ List.replicate (n - ((Nat.toDigits 16 c).map Char.toNat).length) 48 ++ (Nat.toDigits 16 c).map Char.toNat, d < 1114112 := fun n d hd => by
    rcases List.mem_append.mp hd with hd | hd
    · rw [(List.mem_replicate.mp hd).2]
      decide
    · obtain ⟨e, _, rfl⟩ := List.mem_map.mp hd
      have v := e.valid
      rcases v with v | ⟨_, v⟩
      · exact Nat.lt_trans v (by decide)
      · exact v
  unfold reprChar
  dsimp only
  repeat' split
  all_goals intro d hd
  all_goals first
    | (rcases List.mem_append.mp hd with hd | hd
       · simp at hd; omega
       · exact hx _ d hd)
    | (simp at hd; omega)
theorem fold_ok (q : Nat) : ∀ (l : List Nat) (acc : Array Nat), (∀ c ∈ l, c < 1114112) → (∀ c ∈ acc.toList, c < 1114112) → ∀ c ∈ (l.foldl (fun out c => out ++ (reprChar q c).toArray) acc).toList, c < 1114112
  | [], acc, _, h => h
  | c :: r, acc, hl, h => by
    rw [List.foldl_cons]
    refine fold_ok q r _ (fun d hd => hl d (List.mem_cons_of_mem _ hd)) fun d hd => ?_
    rw [Array.toList_append] at hd
    rcases List.mem_append.mp hd with hd | hd
    · exact h d hd
    · exact reprChar_ok q c (hl c List.mem_cons_self) d hd
theorem quote_ok (x : Str) : reprQuote x < 1114112 := by
  unfold reprQuote
  split <;> decide
theorem strOk_repr {x : Str} (h : ∀ c ∈ x.cps.toList, c < 128) : strOk (reprText x) = true := by
  show Array.all _ _ = true
  rw [← Array.all_toList]
  refine List.all_eq_true.mpr fun d hd => ?_
  unfold reprText at hd
  have hd' : d ∈ ((x.cps.foldl (fun out c => out ++ (reprChar (reprQuote x) c).toArray) #[reprQuote x]).push (reprQuote x)).toList := hd
  rw [Array.toList_push, ← Array.foldl_toList] at hd'
  refine decide_eq_true ?_
  rcases List.mem_append.mp hd' with hd' | hd'
  · refine fold_ok _ _ _ (fun c hc => Nat.lt_trans (h c hc) (by decide)) (fun c hc => ?_) d hd'
    rw [List.mem_singleton.mp (show c ∈ [reprQuote x] from hc)]
    exact quote_ok x
  · rw [List.mem_singleton.mp hd']
    exact quote_ok x
/-- what repr tells, and that it is a text -/
structure Rp (H : Hp) (x : V) (f : List Code → Str) : Prop where
  is : RepIs H x f
  ok : ∀ g, strOk (f g) = true
theorem Rp.mono {H H' : Hp} {x : V} {f : List Code → Str} (e : Same H H') (h : Rp H x f) : Rp H' x f := ⟨h.is.mono e, h.ok⟩
def Asc (z : Str) : Prop := ∀ c ∈ z.cps.toList, c < 128
instance (z : Str) : Decidable (Asc z) := inferInstanceAs (Decidable (∀ c ∈ z.cps.toList, c < 128))
theorem asc_len {z : Str} (h : Asc z) (hl : z.length ≤ 100000) : (reprText z).length ≤ 1000002 := by
  have := StrLaws.reprText_len z fun c hc => Nat.lt_trans (h c hc) (by decide)
  omega
theorem Rp.str {H : Hp} {z : Str} (h : Asc z) (hl : z.length ≤ 100000) : Rp H (.str z) fun _ => reprText z :=
  ⟨.str (Nat.le_trans (asc_len h hl) (by decide)), fun _ => strOk_repr h⟩
theorem Rp.non {H : Hp} : Rp H .non fun _ => "None" := ⟨.non, fun _ => by decide +kernel⟩
theorem Rp.bl {H : Hp} {b : Bool} : Rp H (.bl b) fun _ => if b then "True" else "False" := ⟨.bl, fun _ => by cases b <;> decide +kernel⟩
theorem Rp.int {H : Hp} {i : Int} (h : i.natAbs.log2 < 1920) (ok : strOk (toString i) = true) : Rp H (.int i) fun _ => toString i := ⟨.int h, fun _ => ok⟩
theorem Rp.tup {H : Hp} {a : Addr} (h : H a = some (.tup [])) : Rp H (.ref a) fun g => if runs (tupGuardF (.ref a)) g then "(...)" else tupleText [] :=
  ⟨.tup h, fun g => by
    cases runs (tupGuardF (.ref a)) g <;> decide +kernel⟩
theorem Rp.dct {H : Hp} {a : Addr} (h : H a = some (.dK [])) : Rp H (.ref a) fun g => if runs (dictGuardF (.ref a)) g then "{...}" else "{}" :=
  ⟨.dct h, fun g => by
    cases runs (dictGuardF (.ref a)) g <;> decide +kernel⟩
theorem Rp.lst {H : Hp} {a : Addr} {z : Str} (h : H a = some (.lst [.str z])) (hz : Asc z) (hl : z.length ≤ 100000) (ok : strOk (listText [reprText z]) = true) (hb : (listText [reprText z]).length ≤ sizeLine) :
    Rp H (.ref a) fun g => if runs (onL a) g then "[...]" else listText [reprText z] :=
  ⟨.lst h hb (Nat.le_trans (asc_len hz hl) (by decide)), fun g => by
    cases runs (onL a) g
    · exact ok
    · exact (by decide +kernel : strOk ("[...]" : Str) = true)⟩
/-! ## lists of texts, pairs of texts, compared -/
theorem dp_strs {K : PySem.W.Frag} {H : Hp} : ∀ l : List Str, DpAll K H (l.map V.str) (l.map PyData.str)
  | [] => .nil
  | z :: r => .cons (.str z) (dp_strs r)
theorem can_strs : ∀ l : List Str, (∀ z ∈ l, Asc z) → PyData.canLayAll0 (l.map PyData.str) = true
  | [], _ => by simp [PyData.canLayAll0]
  | z :: r, h => by
    have h1 : strOk z = true := by
      show Array.all _ _ = true
      rw [← Array.all_toList]
      exact List.all_eq_true.mpr fun d hd => decide_eq_true (Nat.lt_trans (h z List.mem_cons_self d hd) (by decide))
    rw [List.map_cons]
    simp [PyData.canLayAll0, PyData.canLay0, h1, can_strs r fun y hy => h y (List.mem_cons_of_mem _ hy)]
theorem dep_strs : ∀ l : List Str, PyData.depthAll (l.map PyData.str) = 0
  | [] => by simp [PyData.depthAll]
  | z :: r => by
    rw [List.map_cons]
    simp [PyData.depthAll, PyData.depth, dep_strs r]
theorem shaped_strs {l : List Str} (h : ∀ z ∈ l, Asc z) : SeqAt.shaped (.list (l.map PyData.str)) = true := by
  unfold SeqAt.shaped
  rw [Bool.and_eq_true]
  refine ⟨by rw [PyData.canLay0]; exact can_strs l h, decide_eq_true ?_⟩
  rw [PyData.depth, dep_strs]
  decide
theorem eqv_strs {l : List Str} (h : ∀ z ∈ l, Asc z) : PyData.eqv (.list (l.map PyData.str)) (.list (l.map PyData.str)) = true :=
  SeqAt.eqv_refl _ (SeqAt.canLay_of_shaped (shaped_strs h))
theorem shaped_pair {a b : Str} (ha : strOk a = true) (hb : strOk b = true) : SeqAt.shaped (.tuple [.str a, .str b]) = true := by
  unfold SeqAt.shaped
  rw [Bool.and_eq_true]
  refine ⟨by simp [PyData.canLay0, PyData.canLayAll0, ha, hb], decide_eq_true ?_⟩
  simp [PyData.depth, PyData.depthAll]
theorem eqv_pair {a b : Str} (ha : strOk a = true) (hb : strOk b = true) : PyData.eqv (.tuple [.str a, .str b]) (.tuple [.str a, .str b]) = true :=
  SeqAt.eqv_refl _ (SeqAt.canLay_of_shaped (shaped_pair ha hb))
theorem dp_pair {K : PySem.W.Frag} {H : Hp} {p : Addr} {a b : Str} (h : H p = some (.tup [.str a, .str b])) : Dp K H (.ref p) (.tuple [.str a, .str b]) :=
  .tup (SqT.of h) (.cons (.str a) (.cons (.str b) .nil))
end Ow

/-! ## own classes: len, == and a call of the instance; a maker that may raise -/
namespace Ow
open PySem PySem.Spec PyProof.Rows L2
section
variable {X : Cx} {CX : CXT} {k : Nat} {f C : Addr} {fd : FuncData} {ps : List Str} {sp : Sp} {E : XK} {pins : List (Addr × Obj)} {σ : L2.St} {H : Hp} {s : Shared}
/-- a def called by its value, deeper in a built-in -/
theorem code_at {A : Around} {Q : VK} {us : List Value} {vs : List V} (F : FnOk X.prog X.w X.K X.mg X.base CX k f fd ps sp) (fr : A.frames = X.A.frames) (hr : Room k A) (hb : Binds X.K fd ps []) (hx : PassesAt CX X σ E) (I : Inv X pins σ H s) (r : Vals vs us) (h : sp vs H Q E) :
    codeAny (model X.prog X.w) A (.call (.ref f) ⟨us, []⟩) (fun r s' => match r with | .ok (.ret v) => EP X pins σ Q v s' | .ok _ => False | .error e => X.xe e s') s := by
  have e0 : Env0 X.prog X.w X.K X.mg X.base A X.stack s H := by
    have e := I.env0
    exact ⟨by rw [fr]; exact e.frames, e.mod, e.bs, e.bsz, e.funs, e.frf, e.hok, e.bare⟩
  refine codeAny_mono (F.run A X.stack s H ⟨us, []⟩ us vs Q E hr e0 ?_ r h) fun z s' hq => ?_
  · have b := hb s us I.kIn (by rw [List.append_nil, ← r.length]; exact F.len _ _ _ _ h)
    rw [List.append_nil] at b
    exact b
  · cases z with
    | error e => exact hx pins H s e s' I hq
    | ok fl =>
      cases fl with
      | ret u => exact I.after hq
      | next => exact hq.elim
      | brk => exact hq.elim
      | cont => exact hq.elim
theorem run_at {A : Around} {Q : VK} {us : List Value} {vs : List V} (F : FnOk X.prog X.w X.K X.mg X.base CX k f fd ps sp) (fr : A.frames = X.A.frames) (hr : Room k A) (hb : Binds X.K fd ps []) (hx : PassesAt CX X σ E) (I : Inv X pins σ H s) (r : Vals vs us) (h : sp vs H Q E) :
    wpAny (model X.prog X.w) A (call (.ref f) us) (EP X pins σ Q) X.xe s := wpAny_call (code_at F fr hr hb hx I r h)
/-- len(x) of an instance of the class at C with the text's own __len__ -/
def rLenO (C : Addr) (sp : Sp) (E : XK) : List V → Hp → VK → Prop := fun xs H Q => ∃ (a dx : Addr) (fs : List (Str × V)), xs = [.ref a] ∧ H a = some (.ins C dx fs) ∧ sp [.ref a] H (fun v H' => ∃ n : Nat, v = .int (n : Int) ∧ n < 2 ^ 62 ∧ Q (.int (n : Int)) H') E
theorem call_lenO (F : FnOk X.prog X.w X.K X.mg X.base CX k f fd ps sp) (hr : Room (k + 1) X.A) (hs : PySem.W.findIn X.K (.ref C) "__len__" = some (some (.ref f))) (hf : PySem.W.isFn X.K (.ref f) = true) (hb : Binds X.K fd ps []) (hx : Passes CX X E) :
    CallR X (.builtin "len") (rLenO C sp E) := by
  intro pins s σ H xs us Q I r h
  obtain ⟨a, dx, fs, rfl, ea, h⟩ := h
  obtain ⟨u, rfl, rx⟩ := vals1 r
  cases rx
  obtain ⟨mA, J, _⟩ := ins_get I.hok ea
  obtain ⟨od, J, _⟩ := J.look
  obtain ⟨m, hF⟩ := I.fr
  refine PySem.W.len_K hF I.ok.mod.kin J hs hf (wpAny_mono (run_at F rfl hr.in1 hb (fun p H s e s' I => hx p σ H s e s' I) I (vs := [.ref a]) (.cons rfl .nil) h) (fun v s' hv => ?_) fun _ _ z => z)
  obtain ⟨x, H', I', rx, n, rfl, hn, q⟩ := hv
  obtain ⟨t, rfl⟩ := rx
  exact ⟨⟨by omega, by omega⟩, .int _, H', I'.tok _, ⟨_, rfl⟩, q⟩
/-- x == y, x an instance of the class at C with the text's own __eq__, y anything of a kind t that is no subclass of C -/
def rEqO (K : PySem.W.Frag) (C : Addr) (sp : Sp) (E : XK) : R2 := fun x y H Q => ∃ (a dx : Addr) (fs : List (Str × V)) (t : Value), x = .ref a ∧ H a = some (.ins C dx fs) ∧ TyX K H y t ∧ PySem.W.notFirst K C t = true ∧
  sp [x, y] H (fun v H' => ∃ b : Bool, v = .bl b ∧ Q (.bl b) H') E
theorem op_eqO (F : FnOk X.prog X.w X.K X.mg X.base CX k f fd ps sp) (hr : Room k X.A) (hs : PySem.W.findIn X.K (.ref C) "__eq__" = some (some (.ref f))) (hf : PySem.W.isFn X.K (.ref f) = true) (hb : Binds X.K fd ps []) (hx : Passes CX X E) :
    OpR X (compareOp .Eq) (rEqO X.K C sp E) := by
  intro pins s σ H x y v u Q I rx ry h
  obtain ⟨a, dx, fs, t, rfl, ea, ty, hn, h⟩ := h
  cases rx
  obtain ⟨mA, J, _⟩ := ins_get I.hok ea
  obtain ⟨od, J, _⟩ := J.look
  obtain ⟨m, hF⟩ := I.fr
  obtain ⟨P, kt, hP, _⟩ := kit_of I ry ty
  show wpAny (model X.prog X.w) X.A (richCompare .Eq (.ref a) u) (EP X pins σ Q) X.xe s
  refine PySem.W.cmp_K (op := .Eq) (tb := t) hr.units0 hF I.ok.mod.kin J (kt.ty _ _ I.kIn hP) hn hs hf (wpAny_mono (run_at F rfl hr hb (fun p H s e s' I => hx p σ H s e s' I) I (vs := [.ref a, y]) (.cons rfl (.cons ry .nil)) h) (fun w s' hw => ?_) fun _ _ z => z)
  obtain ⟨x, H', I', rx, b, rfl, q⟩ := hw
  cases rx
  exact ⟨.bl b, H', I', rfl, q⟩
/-- C(..), what leaves its __init__ told by the slots (for a try) -/
theorem run_makeS {Q : VK} {us : List Value} {vs : List V} (M : Mk X.K C f) (F : FnOk X.prog X.w X.K X.mg X.base CX k f fd ps sp) (hr : Room (k + 1) X.A) (hb : Binds X.K fd ps []) (hx : PassesAt CX X σ E) (I : Inv X pins σ H s) (r : Vals vs us)
    (h : ∀ x dx, H x = none → H dx = none → dx ≠ x → sp (.ref x :: vs) (upd (upd H dx (.own x)) x (.ins C dx [])) (fun v H2 => v = .non ∧ Q (.ref x) H2) E) :
    wpAny (model X.prog X.w) X.A (call (.ref C) us) (EP X pins σ Q) X.xe s := by
  have hq := h (s.heap.objs.size + 1) s.heap.objs.size (I.hok.fresh (Nat.le_succ _)) (I.hok.fresh (Nat.le_refl _)) (Nat.ne_of_lt (Nat.lt_succ_self _))
  have I2 := Inv.made (C := C) I
  have r2 : Vals (V.ref (s.heap.objs.size + 1) :: vs) (Value.ref (s.heap.objs.size + 1) :: us) := .cons rfl r
  have hl : (Value.ref (s.heap.objs.size + 1) :: us ++ []).length = ps.length := by
    rw [List.append_nil, ← r2.length]
    exact F.len _ _ _ _ hq
  have hbd := hb _ (Value.ref (s.heap.objs.size + 1) :: us) I2.kIn hl
  rw [List.append_nil] at hbd
  refine wpAny_call (make_map (f := f) I.kIn M.makes M.init (beq_iff_eq.mp M.fn) (codeAny_mono (F.run _ X.stack _ _ ⟨Value.ref (s.heap.objs.size + 1) :: us, []⟩ _ _ _ E (hr.make C us []) (I2.env0.make C us []) hbd r2 hq) fun z s' hz => ?_))
  cases z with
  | error e => exact hx pins _ _ e s' I2 hz
  | ok fl =>
    cases fl with
    | ret u =>
      obtain ⟨v, H', I3, rv, ev, q3⟩ := I2.after hz
      subst ev
      exact ⟨rv, ⟨V.ref (s.heap.objs.size + 1), H', I3, rfl, q3⟩⟩
    | next => exact hz.elim
    | brk => exact hz.elim
    | cont => exact hz.elim
def tMakeS (C : Addr) (sp : Sp) (E : L2.St → XK) (t : TA) : TE := fun σ H Q => t σ H fun vs H1 => ∀ x dx, H1 x = none → H1 dx = none → dx ≠ x →
  sp (.ref x :: vs) (upd (upd H1 dx (.own x)) x (.ins C dx [])) (fun v H2 => v = .non ∧ Q (.ref x) H2) (E σ)
theorem pe_makeS {E : L2.St → XK} {x : Str} {p pos : Pos} {e : Expr} {es : List Expr} {t : TA} (M : Mk X.K C f) (F : FnOk X.prog X.w X.K X.mg X.base CX k f fd ps sp) (hr : Room (k + 1) X.A) (hg : Gl X x) (hm : X.mg x = some (.ref C)) (hb : Binds X.K fd ps []) (hx : ∀ σ, PassesAt CX X σ (E σ))
    (ha : PA X (e :: es) t) (hdb : (x == ("__debug__" : Str)) = false := by decide) (he : starEach (e :: es) X.env = (false, eval e X.env) :: starEach es X.env := by rfl) (hpl : (backTo pos (starEach es X.env)).any (·.1) = false := by rfl) :
    PE X (.Call (.Name x p) (e :: es) [] pos) (tMakeS C sp E t) := by
  refine ⟨fun pins s σ H Q I h => ?_⟩
  refine wpAny_Call_Name_kw (ld_glob I hg hm ?_ hdb)
  refine PySem.W.callWith_K (h₀ := X.base) I.ok.mod.kin M.kp (thn (ha.run pos pins s σ H _ I h) fun us s1 ⟨vs, H1, I1, r, q⟩ => ⟨I1.kIn, ?_⟩) he hpl
  exact run_makeS M F hr hb (hx σ) I1 r q
/-- o.m(..), what leaves the method told by the slots -/
def tMethS (C : Addr) (m : Str) (sp : Sp) (E : L2.St → XK) (ta : TE) (t : TA) : TE := fun σ H Q => ta σ H fun x H1 => ∃ a dx fs, x = .ref a ∧ H1 a = some (.ins C dx fs) ∧ fs.lookup m = none ∧ t σ H1 fun vs H2 => sp (x :: vs) H2 Q (E σ)
theorem pe_methX {E : L2.St → XK} {o e : Expr} {es : List Expr} {m : Str} {apos pos : Pos} {ta : TE} {t : TA} {pl : Sem Bool} (he : PE X o ta) (c : Cls X.K C) (hm : Meth X.K C m f) (F : FnOk X.prog X.w X.K X.mg X.base CX k f fd ps sp) (hr : Room k X.A) (hb : Binds X.K fd ps []) (hx : ∀ σ, PassesAt CX X σ (E σ)) (ha : PA X (e :: es) t)
    (hst : starEach (e :: es) X.env = (false, eval e X.env) :: starEach es X.env := by rfl) (hpl : (backTo pos (starEach es X.env)).any (·.1) = false := by rfl)
    (ht : eval (.Call (.Attribute o m apos) (e :: es) [] pos) X.env = (do
      let ov ← eval o X.env
      standAt apos.atName
      let (f, first) ← holding [ov] (getMethod ov m pl)
      callWith pos f first (backTo pos (starEach (e :: es) X.env)) (backToKw pos (keywordEach [] X.env))) := by rfl) :
    PE X (.Call (.Attribute o m apos) (e :: es) [] pos) (tMethS C m sp E ta t) := by
  refine ⟨fun pins s σ H Q I h => ?_⟩
  refine PySem.W.methodCall_KW (pl := pl) (thn (he.run pins s σ H _ I h) fun u s1 ⟨x, H1, I1, rx, a, dx, fs, ex, ea, l, q⟩ => ?_) ht
  subst ex
  obtain rfl : u = Value.ref a := rx
  refine getmeth_ok I1 ea c hm l ?_
  refine PySem.W.callWith_K (first := [.ref a]) (h₀ := X.base) I.ok.mod.kin hm.kp (thn (ha.run pos pins s1 σ H1 _ I1 q) fun us s2 ⟨vs, H2, I2, r, q2⟩ => ⟨I2.kIn, ?_⟩) hst hpl
  exact run_at (us := .ref a :: us) (vs := .ref a :: vs) F rfl hr hb (hx σ) I2 (.cons rfl r) q2
/-- x(..), x a local name that holds an instance of the class at C with the text's own __call__ -/
def tCallO (C : Addr) (sp : Sp) (E : L2.St → XK) (tn : TE) (t : TA) : TE := fun σ H Q => tn σ H fun x H1 => ∃ a, x = .ref a ∧ t σ H1 fun vs H2 => (∃ dx fs, H2 a = some (.ins C dx fs)) ∧ sp (x :: vs) H2 Q (E σ)
theorem plain_call {M : Model} {A : Around} {E : Value → Shared → Prop} {s : Shared} {K : PySem.W.Frag} {env : Env} {pos : Pos} {x C : Addr} {Q : Value → Shared → Prop} {e : Expr} {rest : List Expr}
    (h : wpAny M A (spliced (backTo pos (starEach (e :: rest) env))) (fun vs s₁ => (∃ ox od, K.In s₁.heap ∧ PySem.W.InstAt s₁.heap x ox C od ∧ ox.data = .plain) ∧ wpAny M A (call (.ref x) vs) Q E s₁) E s)
    (he : starEach (e :: rest) env = (false, eval e env) :: starEach rest env) (hplain : (backTo pos (starEach rest env)).any (·.1) = false) :
    wpAny M A (callWith pos (.ref x) [] (backTo pos (starEach (e :: rest) env)) []) Q E s := by
  rw [he] at h ⊢
  have h0 : ((backTo pos ((false, eval e env) :: starEach rest env)).any (·.1) || ([] : List (Option Str × Sem Value)).any (·.1.isNone)) = false := by
    show ((false || (backTo pos (starEach rest env)).any (·.1)) || false) = false
    rw [hplain]
    rfl
  have h1 : wpAny M A (evalArgs (.ref x) true (backTo pos ((false, eval e env) :: starEach rest env)) []) (fun a s₁ => (∃ ox od, K.In s₁.heap ∧ PySem.W.InstAt s₁.heap x ox C od ∧ ox.data = .plain) ∧ wpAny M A (call (.ref x) ([] ++ a.pos) a.kw) Q E s₁) E s := Calls.evalArgs_plain h
  unfold callWith
  refine wpAny_bind (wpAny_holding (wpAny_mono h1 (fun a s₁ h₁ => wpAny_bind (wpAny_standAt ?_)) fun _ _ y => y))
  obtain ⟨⟨ox, od, kin, I, hd⟩, hc⟩ := h₁
  simp only [h0]
  refine wpAny_bind ((PySem.W.kco_keeper (M := M) I hd).here ?_)
  have tail : ∀ {t : Sem Value}, wpAny M A t Q E s₁ → wpAny M A (t >>= fun r => holding [r] point >>= fun _ => pure r) Q E s₁ :=
    fun ht => wpAny_bind (wpAny_mono ht (fun r s₂ hr => wpAny_bind (wpAny_holding (wpAny_point (wpAny_pure hr)))) fun _ _ y => y)
  exact tail (wpAny_operateT hc)
theorem pe_callO {E : L2.St → XK} {x : Str} {p pos : Pos} {e : Expr} {es : List Expr} {tn : TE} {t : TA} (hn : PE X (.Name x p) tn) (hs : PySem.W.findIn X.K (.ref C) "__call__" = some (some (.ref f))) (hf : PySem.W.isFn X.K (.ref f) = true) (hfn : PySem.W.fnIn X.K f = true)
    (F : FnOk X.prog X.w X.K X.mg X.base CX k f fd ps sp) (hr : Room k X.A) (hb : Binds X.K fd ps []) (hx : ∀ σ, PassesAt CX X σ (E σ))
    (ha : PA X (e :: es) t) (he : starEach (e :: es) X.env = (false, eval e X.env) :: starEach es X.env := by rfl) (hpl : (backTo pos (starEach es X.env)).any (·.1) = false := by rfl) :
    PE X (.Call (.Name x p) (e :: es) [] pos) (tCallO C sp E tn t) := by
  refine ⟨fun pins s σ H Q I h => ?_⟩
  refine wpAny_Call_Name_kw (thn (hn.run pins s σ H _ I h) fun v s1 ⟨y, H1, I1, rv, a, ey, q⟩ => ?_)
  subst ey
  obtain rfl : v = Value.ref a := rv
  show wpAny _ _ (callWith pos (.ref a) [] (backTo pos (starEach (e :: es) X.env)) []) _ _ s1
  refine plain_call (K := X.K) (C := C) (thn (ha.run pos pins s1 σ H1 _ I1 q) fun us s2 ⟨vs, H2, I2, r, ⟨dx, fs, ea⟩, q2⟩ => ?_) he hpl
  obtain ⟨mA, J, _⟩ := ins_get I2.hok ea
  obtain ⟨od, J, _⟩ := J.look
  refine ⟨⟨_, _, I2.kIn, J, rfl⟩, wpAny_call (PySem.W.kco_code I2.kIn J rfl hs hf hfn ?_)⟩
  exact code_at (us := .ref a :: us) (vs := .ref a :: vs) F rfl hr hb (hx σ) I2 (.cons rfl r) q2
end
end Ow

namespace PySem
namespace LowP
open PySem.W PySem.Calls PyProof.Rows PySem.HandSPX
/-! ### the text of __init__ -/
def iA (p1 p2 : Pos) : Arguments := { posonlyargs := [], args := [{ arg := "self", annotation := none, pos := p1 }, { arg := "part", annotation := none, pos := p2 }], vararg := none, kwonlyargs := [], kw_defaults := [], kwarg := none, defaults := [] }
def iB (q1 q2 q3 q4 : Pos) : List Stmt := [.Assign [.Attribute (.Name "self" q1) "part" q2] (.Name "part" q3) q4]
def iS : Scope := { kind := .function, names := [(PySem.Str.ofString "self", .local), (PySem.Str.ofString "part", .local)], isGenerator := false, isCoroutine := false, more := [] }
/-- what the written part says of Low, at C, and of its __init__, at fI -/
structure LowTxt (K : Frag) (mg : Str → Option Value) (x : Str) (C fI : Addr) : Prop where
  gC : mg x = some (.ref C)
  cls : ∃ nm q N bs bm sn sub ab col dd k0 k1 k2 k3 k5, K.lookup C = some (excClassObj nm q C N bs bm true sn sub ab col dd k0 k1 k2 k3 k5 "ValueError.__new__") ∧ refsVE bm = true
  sa : findIn K (.ref C) "__setattr__" = some (some (.builtin "object.__setattr__"))
  ga : findIn K (.ref C) "__getattribute__" = some (some (.builtin "BaseException.__getattribute__"))
  gg : findIn K (.ref C) "__getattr__" = some none
  noN : findIn K (.ref C) "part" = some none
  iC : findIn K (.ref C) "__init__" = some (some (.ref fI))
  tC : typeIn K (.ref fI) = some (.type "function")
  kC : keepIn K (.ref C) = true
  exC : subIn K (.ref C) (.type "BaseException") = some true
  tyC : typeIn K (.ref C) = some (.type "type")
  hdC : hasDictIn K C = true
  te : exmOne K (.ref C) (.ref C) = some true
  fn : ∃ (oc : Value) (od : Option Addr) (doc pm : Value) (an : Option Addr) (cdv ct : Value) (osl : Array (Option Value)) (p1 p2 q1 q2 q3 q4 : Pos),
    K.lookup fI = some ⟨oc, od, .func (fnOf "__init__" "BadStore.__init__" (iA p1 p2) (iB q1 q2 q3 q4) iS .none .none doc pm an cdv ct), osl⟩ ∧ codeIn K cdv "BadStore.__init__" = true
theorem one_size (v : Value) : [v].length ≤ sizeLine := by
  rw [sizeLine_eq]
  exact (by decide : 1 ≤ 16777216)
theorem kept_but {K : Frag} {h h' : Heap} {x : Addr} (X : K.In h) (hx : K.lookup x = none) (k : ∀ b o, b ≠ x → h.get? b = some o → h'.get? b = some o) : K.In h' := fun a o e =>
  k a o (fun z => by rw [z, hx] at e; cases e) (X a o e)
theorem ldC {M : Model} {s : Shared} {name : Str} {scope : Scope} {L a : Addr} {cd : Value} {m : Str → Option Value} {x : Str} {pos : Pos} {v : Value} {Q : Value → Shared → Prop} {A : Around} {E : Value → Shared → Prop} (hn : s.heap.Ns L m) (hv : m x = some v) (h : Q v s)
    (hk : scope.kind = .function := by rfl) (hl : (envOfC name scope L a cd).kindOf x = some .local := by rfl) (hd : (x == ("__debug__" : Str)) = false := by decide) :
    wpAny M A (eval (.Name x pos) (envOfC name scope L a cd)) Q E s := wpAny_Name (wpAny_loadName_local hk hl hn hv h) hd
/-- what __init__ leaves of a fresh exception at x -/
structure InitEnd (h h' : Heap) (x C dx t1 : Addr) (v : Value) : Prop where
  keep : ∀ b o, b ≠ x → h.get? b = some o → h'.get? b = some o
  obj : h'.get? x = some { cls := .ref C, dict := some dx, data := .fields #[.ref t1, .none, .none, .none, .bool false, .none] }
  dbig : h.objs.size ≤ dx
  dne : dx ≠ x
  ns : h'.Ns1 dx (fun y => if y = "part" then some v else none)
/-- a made Low -/
structure OwnMade (h h' : Heap) (e C d : Addr) (v : Value) : Prop where
  keep : ∀ b o, h.get? b = some o → h'.get? b = some o
  new : h.objs.size ≤ e
  obj : ∃ oe vs, h'.get? e = some oe ∧ oe.cls = .ref C ∧ oe.dict = some d ∧ oe.data = .fields vs ∧ vs[1]? = some .none
  dbig : h.objs.size ≤ d
  dne : d ≠ e
  ns : h'.Ns1 d (fun y => if y = "part" then some v else none)
section
variable {prog : Program} {w : World} {A : Around} {E : Value → Shared → Prop} {R : Result → Shared → Prop} {s : Shared} {K : Frag} {mg : Str → Option Value} {C fI : Addr} {x : Str}
theorem low_init (T : LowTxt K mg x C fI) {x t0 : Addr} {v : Value} (X : K.In s.heap) (hlim : s.heap.NoLimit) (hx : s.heap.get? x = some (excO C t0)) (hnx : K.lookup x = none) (hroom : A.depth < recursionLimit)
    (hq : ∀ h' tk dx, InitEnd s.heap h' x C dx t0 v → R (.ok (.ret .none)) { s with heap := h', toks := tk }) :
    codeAny (model prog w) A (.call (.ref fI) ⟨[.ref x, v], []⟩) R s := by
  obtain ⟨oc, od, doc, pm, an, cdv, ct, osl, p1, p2, q1, q2, q3, q4, ho, hcd⟩ := T.fn
  obtain ⟨nm, q, N, bs, bm, sn, sub, ab, col, dd, k0, k1, k2, k3, k5, hC, hbm⟩ := T.cls
  have hcl : clsIn K C = some { name := nm, bases := bs, mro := .ref C :: bm, ns := N, qualname := q, hasDict := true, slotNames := sn, subclasses := sub, abstract := ab, collection := col, hasDel := false } := by unfold clsIn; rw [hC] <;> rfl
  refine Att.call_fn (binds := [("self", .ref x), ("part", v)]) X hlim ho hcd hroom (BindsTo.of_eq (by first | rfl | with_unfolding_all rfl)) (by first | rfl | decide | with_unfolding_all rfl) (fun s₁ IC => ?_) rfl rfl rfl
  obtain ⟨h₁, tk₁, rfl⟩ := IC.toInCall.same
  have k : ∀ b o, s.heap.get? b = some o → h₁.get? b = some o := IC.toInCall.keep
  have hn := IC.toInCall.ns
  have hxL : s.heap.objs.size ≠ x := Nat.ne_of_gt (Heap.lt_size hx)
  have X₁ : K.In h₁ := X.keeps k
  have hx₁ := k _ _ hx
  -- self.by = by
  show wpAny _ _ (execs _ _) _ _ _
  refine wpAny_execs_cons (plainObj_wpAny_Assign_Attribute ?_)
  refine ldC (v := v) hn (by first | rfl | with_unfolding_all rfl | kernel_rfl) (ldC (v := .ref x) hn (by first | rfl | with_unfolding_all rfl | kernel_rfl) ?_)
  refine set_plain X₁ (ox := excO C t0) (od := none) ⟨hx₁, rfl, rfl, trivial⟩ T.sa ?_
  refine exc_osa X₁ hx₁ hcl (show refsVE (.ref C :: bm) = true from hbm) rfl T.noN (fun h₃ tk₃ dx k₃ dn dne hx₃ hn₃ => ?_)
  show wpAny _ _ (execs _ _) _ _ _
  have z : s.heap.objs.size < h₁.objs.size := hn.lt
  exact wpAny_execs_nil (hq h₃ tk₃ dx ⟨fun b o hb e => k₃ b o hb (k b o e), hx₃, Nat.le_of_lt (Nat.lt_of_lt_of_le z dn), dne, hn₃⟩)
theorem low_made (T : LowTxt K mg x C fI) {v : Value} (X : K.In s.heap) (hlim : s.heap.NoLimit) (hroom : A.depth + 1 < recursionLimit)
    (hq : ∀ h' tk e d, OwnMade s.heap h' e C d v → R (.ok (.ret (.ref e))) { s with heap := h', toks := tk }) :
    codeAny (model prog w) A (.call (.ref C) ⟨[v], []⟩) R s := by
  obtain ⟨nm, q, N, bs, bm, sn, sub, ab, col, dd, k0, k1, k2, k3, k5, hC, hbm⟩ := T.cls
  obtain ⟨hp, g, dr, tk, os⟩ := s
  have k : ∀ b o, hp.get? b = some o → ((hp.push (kdv_tup [v])).push (excO C hp.objs.size)).get? b = some o := fun b o e => Heap.get?_push_of_some _ (Heap.get?_push_of_some _ e)
  have hget : ((hp.push (kdv_tup [v])).push (excO C hp.objs.size)).get? (hp.objs.size + 1) = some (excO C hp.objs.size) := by heap_get
  have hnx : K.lookup (hp.objs.size + 1) = none := by
    cases e : K.lookup (hp.objs.size + 1) with
    | none => rfl
    | some o =>
      have z : hp.get? (hp.objs.size + 1) = some o := X _ _ e
      exact absurd (Nat.lt_of_succ_lt (Heap.lt_size z)) (Nat.lt_irrefl _)
  refine call_own F.excBase_ValueError (fun X => refsVE_contains X bm hbm) (X _ _ hC) (looks_findIn X T.iC) (fun self => bind_fn X self T.tC) (one_size v) ?_
  refine low_init (s := ⟨(hp.push (kdv_tup [v])).push (excO C hp.objs.size), g, dr, tk, os⟩) T (X.keeps k) (hlim.keeps k) hget hnx ?_ fun h' tk' dx ⟨k', hx, dn, dne, hns⟩ => ?_
  · show A.depth + 1 < recursionLimit
    exact hroom
  · have old : ∀ b o, hp.get? b = some o → h'.get? b = some o := fun b o e => k' b o (Nat.ne_of_lt (Nat.lt_succ_of_lt (Heap.lt_size e))) (k b o e)
    have z : hp.objs.size + 1 + 1 ≤ dx := by
      first
        | (simpa only [Heap.size_push] using dn)
        | exact dn
        | (have q := dn; rw [Heap.size_push, Heap.size_push] at q; exact q)
    exact ⟨rfl, hq h' tk' (hp.objs.size + 1) dx ⟨old, Nat.le_succ _, ⟨_, _, hx, rfl, rfl, rfl, rfl⟩, Nat.le_trans (Nat.le_trans (Nat.le_succ _) (Nat.le_succ _)) z, dne, hns⟩⟩
end
end LowP
end PySem
namespace L2
open PySem PySem.Spec PyProof.Rows
theorem relO_thingP {v : V} {v' : Value} (r : RelV v v') (f : Str) : RelO (List.lookup f [(("part" : Str), v)]) (if f = "part" then some v' else none) := by
  by_cases hw : f = "part"
  · subst hw
    rw [if_pos rfl]
    have q : List.lookup ("part" : Str) [(("part" : Str), v)] = some v := by simp [List.lookup]
    rw [q]
    exact r
  · rw [if_neg hw]
    have qw : (f == ("part" : Str)) = false := by simpa using hw
    have q2 : List.lookup f [(("part" : Str), v)] = none := by simp [List.lookup, qw]
    rw [q2]
    trivial
section
variable {X : Cx} {C fI : Addr}
/-- Low(e) -/
def tMkThP (C : Addr) (ta : TA) : St → Hp → XK → Prop := fun σ H Q => ta σ H fun vs H1 => ∃ v, vs = [v] ∧ ∀ d, H1 d = none → Q (.ref C) (some d) (upd H1 d (.xd [(("part" : Str), v)]))
theorem pmk_thingP {a : Expr} {ta : TA} {p pos : Pos} {k : Nat} (T : PySem.LowP.LowTxt X.K X.mg x C fI) (hr : Room k X.A) (ha : PA X [a] ta) (hg : Gl X x := by rfl) (hdb : (x == ("__debug__" : Str)) = false := by decide)
    (he : starEach (a :: []) X.env = (false, eval a X.env) :: starEach [] X.env := by rfl) (hpl : (backTo pos (starEach [] X.env)).any (·.1) = false := by rfl) :
    PMk X (.Call (.Name x p) [a] [] pos) (tMkThP C ta) := by
  intro pins s σ H Q I h
  refine wpAny_Call_Name_kw (ld_glob I hg T.gC ?_ hdb)
  refine PySem.W.callWith_K (h₀ := X.base) I.ok.mod.kin T.kC (thn (ha.run pos pins s σ H _ I h) fun us s1 hh => ?_) he hpl
  obtain ⟨vs, H1, I1, r1, v, ev, q1⟩ := hh
  subst ev
  refine ⟨I1.kIn, ?_⟩
  cases r1 with
  | cons rv rn =>
    rename_i v' us'
    cases rn
    show wpAny _ _ (call (.ref C) [v']) _ _ _
    have hlim := I1.nolimit
    obtain ⟨hp, g, dr, tk, os⟩ := s1
    refine wpAny_call (PySem.LowP.low_made T I1.kIn hlim (by have := hr.dp; omega) fun h' tk' e d M => ?_)
    show MkP X pins σ Q (.ref e) ⟨h', g, dr, tk', os⟩
    obtain ⟨oe, fv, hoe, hc, hd, hdat, h1⟩ := M.obj
    have hns := M.ns
    obtain ⟨G', g1, g2⟩ := restrict h' fun b => decide (b ≠ e)
    have gk : ∀ b, b ≠ e → G'.get? b = h'.get? b := fun b hb => g1 b (decide_eq_true hb)
    have ge : G'.get? e = none := g2 e (by simp)
    have old : ∀ b o, hp.get? b = some o → G'.get? b = some o := fun b o q => (gk b (Nat.ne_of_lt (Nat.lt_of_lt_of_le (Heap.lt_size q) M.new))).trans (M.keep b o q)
    have ob : ObjOk X.prog X.w (upd H1 d (.xd [(("part" : Str), v)])) G' d (.xd [(("part" : Str), v)]) :=
      ⟨_, hns.at (fun o q => (gk d M.dne).trans q), fun f => relO_thingP rv f⟩
    have J : Inv X pins σ (upd H1 d (.xd [(("part" : Str), v)])) ⟨G', g, dr, tk', os⟩ := I1.laid (t' := tk') old M.dbig ob
    refine ⟨e, oe, fv, ⟨G', g, dr, tk', os⟩, _, .ref C, some d, rfl, J, fun b o q => ?_, ge, hoe, ⟨hc, hd⟩, hdat, h1, ?_, rfl, I1.bare, raises_own T.exC T.tyC, q1 d (I1.hok.fresh M.dbig)⟩
    · by_cases hb : b = e
      · have q' : G'.get? b = some o := q
        rw [hb, ge] at q'; cases q'
      · exact (gk b hb).symm.trans q
    · rw [upd_ne (Ne.symm M.dne)]
      exact I1.hok.fresh M.new
/-- raise Low(e) -/
def tRaiseThP (C : Addr) (W : WX) (ta : TA) : TS := fun _ σ H => tMkThP C ta σ H fun cls d H' => W cls d σ H'
theorem ps_raiseThP {a : Expr} {ta : TA} {W : WX} {p pos pos2 : Pos} {k : Nat} (hc : X.calm = true) (T : PySem.LowP.LowTxt X.K X.mg x C fI) (hr : Room k X.A) (tk : Takes X W) (ha : PA X [a] ta) (hg : Gl X x := by rfl) (hdb : (x == ("__debug__" : Str)) = false := by decide)
    (he : starEach (a :: []) X.env = (false, eval a X.env) :: starEach [] X.env := by rfl) (hpl : (backTo pos (starEach [] X.env)).any (·.1) = false := by rfl) :
    PS X (.Raise (some (.Call (.Name x p) [a] [] pos)) none pos2) (tRaiseThP C W ta) := ps_raise hc tk (pmk_thingP T hr ha hg hdb he hpl)
/-- low.by, low the exception that the suite holds (at a; its class cls, its dict d) -/
def tThingP (C : Addr) (a : Addr) (cls : Value) (d : Option Addr) (te : TE) : TE := fun σ H Q => te σ H fun x H1 => x = .ref a ∧ cls = .ref C ∧ ∃ (dd : Addr) (v : V), d = some dd ∧ H1 dd = some (.xd [(("part" : Str), v)]) ∧ Q v H1
theorem pe_thingP {a : Addr} {oe : Obj} {cls : Value} {d : Option Addr} {pn : List (Addr × Obj)} {e : Expr} {te : TE} {pos : Pos} (T : PySem.LowP.LowTxt X.K X.mg x C fI) (hz : Zc cls d oe) (hf : ∃ vs, oe.data = .fields vs) (he : PE (X.suite a ((a, oe) :: pn)) e te)
    (hb : attributeBase e "part" X.env (eval e X.env) = eval e X.env := by rfl) :
    PE (X.suite a ((a, oe) :: pn)) (.Attribute e "part" pos) (tThingP C a cls d te) := by
  refine ⟨fun pins s σ H Q I h => ?_⟩
  refine attr_of hb (thn (he.run pins s σ H _ I h) fun u s1 hh => ?_)
  obtain ⟨x, H1, I1, rx, ex, ec, dd, v, ed, ea, q⟩ := hh
  subst ex
  obtain rfl : u = Value.ref a := rx
  subst ec
  subst ed
  obtain ⟨ha, _⟩ := I1.pin (a, oe) (List.mem_append_left _ List.mem_cons_self)
  obtain ⟨vs, hd⟩ := hf
  have hx : ObjOk X.prog X.w H1 s1.heap dd (.xd [(("part" : Str), v)]) := I1.hok dd _ ea
  obtain ⟨mA, hns, hr⟩ := hx
  obtain ⟨od, ho, hl⟩ := lookIn_ns hns
  have l : List.lookup ("part" : Str) [(("part" : Str), v)] = some v := by simp [List.lookup]
  obtain ⟨u, hu, ru⟩ := RelO.some_of (v := v) (o := mA "part") (by rw [← l]; exact hr "part")
  have J : PySem.W.InstAt s1.heap a oe C (some od) := ⟨ha, hz.1, by unfold PySem.W.notCls; rw [hd] <;> rfl, by rw [hz.2]; exact ho⟩
  exact HandSPX.exc_get I1.kIn J T.ga T.gg T.exC (PySem.W.findObj_own T.hdC T.noN rfl (by rw [hl, hu])) (handed_of ru) ⟨v, H1, I1.tok _, ru, q⟩
end
end L2


namespace Ow
open PySem PySem.Spec PyProof.Rows L2
section
variable {X : Cx} {tg : Expr}
/-- for over a list or a tuple -/
def iSeq (K : PySem.W.Frag) (tl : TE) : TI := fun σ H R => tl σ H fun x H1 => ∃ a, x = .ref a ∧ (((∃ xs, SqL K H1 a xs) ∧ R (Itl K a) H1) ∨ ((∃ xs, SqT K H1 a xs) ∧ R (Itt K a) H1))
theorem pi_seq {l : Expr} {tl : TE} (hl : PE X l tl) : PI X tg l (iSeq X.K tl) := by
  refine ⟨fun pins s σ H R I h => thn (hl.run pins s σ H _ I h) fun v s1 ⟨x, H1, I1, r1, a, e, q⟩ => ?_⟩
  subst e
  cases r1
  have fp : ∀ b ∈ [s1.heap.objs.size], FpOk X pins H1 b := fun b hb => by
    rw [List.mem_singleton.mp hb]
    exact I1.fpOk (Nat.le_refl _) (I1.hok.fresh (Nat.le_refl _))
  rcases q with ⟨⟨xs, hq⟩, q⟩ | ⟨⟨xs, hq⟩, q⟩
  · obtain ⟨its, rv, p, hz⟩ := I1.list hq
    exact wpAny_pyIter_list p.isList ⟨s1.heap.objs.size, [s1.heap.objs.size], _, _, H1, rfl, I1.kept (t' := s1.toks) fun b o e => Heap.get?_push_of_some _ e, turn_list a _, ⟨_, Heap.get?_push_size _ rfl, rfl, rfl⟩, fp, q⟩
  · obtain ⟨its, rv, p, hz⟩ := I1.tuple hq
    exact wpAny_pyIter_tuple (show s1.heap.IsTuple a its.toArray from p) ⟨s1.heap.objs.size, [s1.heap.objs.size], _, _, H1, rfl, I1.kept (t' := s1.toks) fun b o e => Heap.get?_push_of_some _ e, turn_tuple a _, ⟨_, Heap.get?_push_size _ rfl, rfl, rfl⟩, fp, q⟩
def rTupOf (K : PySem.W.Frag) : List V → Hp → VK → Prop := fun xs H Q => ∃ p ys, xs = [.ref p] ∧ ((SqL K H p ys ∧ ∀ l, H l = none → Q (.ref l) (upd H l (.tup ys))) ∨ (SqT K H p ys ∧ Q (.ref p) H))
theorem cr_tupOf : CallR X (.type "tuple") (rTupOf X.K) := call_tuple_of
end
/-- the scope of a comprehension; the i-th statement's value; a call's first argument -/
def lcSc : Expr → Scope
  | .ListComp _ _ sc _ => sc
  | _ => { kind := .function, names := [], isGenerator := false, isCoroutine := false }
def valAt (b : List Stmt) (i : Nat) : Expr := match b.getD i (.Pass ⟨0, 0, 0, 0⟩) with
  | .Assign _ v _ => v
  | .Return (some v) _ => v
  | _ => .Constant .none 0 ⟨0, 0, 0, 0⟩
def arg0 : Expr → Expr
  | .Call _ (e :: _) _ _ => e
  | e => e
def eltOf : Expr → Expr
  | .ListComp e _ _ _ => e
  | e => e
end Ow

/-! ## x in an instance with the text's own __contains__; C(..), C a local name; enumerate of a tuple -/
namespace Ow
open PySem PySem.Spec PyProof.Rows L2
section
variable {X : Cx} {CX : CXT} {k : Nat} {f C : Addr} {fd : FuncData} {ps : List Str} {sp : Sp} {E : XK} {pins : List (Addr × Obj)} {σ : L2.St} {H : Hp} {s : Shared}
def rInO (C : Addr) (sp : Sp) (E : XK) : R2 := fun x y H Q => ∃ (a dx : Addr) (fs : List (Str × V)), y = .ref a ∧ H a = some (.ins C dx fs) ∧
  sp [y, x] H (fun v H' => ∃ b : Bool, v = .bl b ∧ Q (.bl b) H') E
theorem op_inO (F : FnOk X.prog X.w X.K X.mg X.base CX k f fd ps sp) (hr : Room k X.A) (hs : PySem.W.findIn X.K (.ref C) "__contains__" = some (some (.ref f))) (hf : PySem.W.isFn X.K (.ref f) = true) (hb : Binds X.K fd ps []) (hx : Passes CX X E) :
    OpR X (compareOp .In) (rInO C sp E) := by
  intro pins s σ H x y v u Q I rx ry h
  obtain ⟨a, dx, fs, rfl, ea, h⟩ := h
  cases ry
  obtain ⟨mA, J, _⟩ := ins_get I.hok ea
  obtain ⟨od, J, _⟩ := J.look
  obtain ⟨m, hF⟩ := I.fr
  refine PySem.W.in_K hF I.ok.mod.kin J hs hf (wpAny_mono (run_at F rfl hr hb (fun p H s e s' I => hx p σ H s e s' I) I (vs := [.ref a, x]) (.cons rfl (.cons rx .nil)) h) (fun w s' hw => ?_) fun _ _ z => z)
  obtain ⟨z, H', I', rz, b, rfl, q⟩ := hw
  cases rz
  exact wpAny_truthy_bool ⟨.bl b, H', I', rfl, q⟩
/-- C(..), C held by a local name -/
def tMakeL (C : Addr) (sp : Sp) (E : L2.St → XK) (tn : TE) (t : TA) : TE := fun σ H Q => tn σ H fun y H0 => y = .ref C ∧ tMakeS C sp E t σ H0 Q
theorem pe_makeL {E : L2.St → XK} {x : Str} {p pos : Pos} {e : Expr} {es : List Expr} {tn : TE} {t : TA} (hn : PE X (.Name x p) tn) (M : Mk X.K C f) (F : FnOk X.prog X.w X.K X.mg X.base CX k f fd ps sp) (hr : Room (k + 1) X.A) (hb : Binds X.K fd ps []) (hx : ∀ σ, PassesAt CX X σ (E σ))
    (ha : PA X (e :: es) t) (he : starEach (e :: es) X.env = (false, eval e X.env) :: starEach es X.env := by rfl) (hpl : (backTo pos (starEach es X.env)).any (·.1) = false := by rfl) :
    PE X (.Call (.Name x p) (e :: es) [] pos) (tMakeL C sp E tn t) := by
  refine ⟨fun pins s σ H Q I h => ?_⟩
  refine wpAny_Call_Name_kw (thn (hn.run pins s σ H _ I h) fun v s0 ⟨y, H0, I0, rv, ey, q0⟩ => ?_)
  subst ey
  obtain rfl : v = Value.ref C := rv
  refine PySem.W.callWith_K (h₀ := X.base) I0.ok.mod.kin M.kp (thn (ha.run pos pins s0 σ H0 _ I0 q0) fun us s1 ⟨vs, H1, I1, r, q⟩ => ⟨I1.kIn, ?_⟩) he hpl
  exact run_makeS M F hr hb (hx σ) I1 r q
end
/-! ### enumerate of a tuple -/
section
variable {prog : Program} {w : World} {A : Around}
theorem draws_tup {it a : Addr} {items : Array Value} (hne : a ≠ it) (hh : A.handled = none) :
    Draws prog w A it [it, a] items.size (fun i x => items[i]? = some x) (fun i h => h.IsTupleIter it a i ∧ h.IsTuple a items) where
  live := fun i h st => let ⟨⟨o, ho, _⟩, _⟩ := st; ⟨o, ho⟩
  frame := fun i h h' st kp => ⟨st.1.at fun o q => kp it (by simp) o q, st.2.at fun o q => kp a (by simp) o q⟩
  item := fun i s Q E hi st hQ => RZ.nextOf_tuple_item st.1 st.2 (x := items[i]) (by simp [hi]) fun h' st' sb =>
    hQ _ h' s.toks (by simp [hi]) ⟨st', st.2.at fun o q => (sb.2 a hne).trans q⟩ sb
  done := fun s Q E st hE => RZ.nextOf_tuple_end hh st.1 st.2 (by simp) hE
end
set_option maxHeartbeats 4000000 in
theorem enum_newT (l : Addr) (items : Array Value) (n : Nat) (dct : Option Addr) (sl : Array (Option Value)) :
    Meets (Builtin.«enumerate.__new__» ⟨[.type "enumerate", .ref l], []⟩) (fun _ R s => s.heap.get? l = some ⟨.type "tuple", dct, .seq items n, sl⟩ ∧
      R (.ok (.ret (.ref (s.heap.push { cls := .type "tuple_iterator", data := .fields #[.ref l, .int 0 0] }).objs.size)))
        { s with heap := (s.heap.push { cls := .type "tuple_iterator", data := .fields #[.ref l, .int 0 0] }).push { cls := .type "enumerate", data := .fields #[.none, .bool false, .ref s.heap.objs.size, rawInt 0, .none, .none] } }) :=
  .of_wp fun prog w A R s ⟨hl, h⟩ => by
    have hT : s.heap.IsTuple l items := ⟨_, hl, rfl, n, rfl⟩
    obtain ⟨hp, g, d, tk, os⟩ := s
    have hsub := sub_enumerate
    wp_walk
    refine wpAny_stack_any fun st => wpAny_pure ?_
    split
    · rename_i c _ _ _ _ _
      cases (c == Value.type "enumerate") <;> (wp_walk using wpAny_loadPart' hl, wpAny_pyIter_tuple hT; exact ⟨_, rfl, h⟩)
    · wp_walk using wpAny_loadPart' hl, wpAny_pyIter_tuple hT; exact ⟨_, rfl, h⟩
end Ow

namespace Ow
open PySem PySem.Spec PyProof.Rows L2
section
variable {prog : Program} {w : World} {A : Around} {E : Value → Shared → Prop} {s : Shared}
theorem call_enumT {l : Addr} {items : Array Value} {Q : Value → Shared → Prop} (hL : s.heap.IsTuple l items)
    (h : ∀ h', IsEnum h' (s.heap.objs.size + 1) s.heap.objs.size 0 .none → h'.IsTupleIter s.heap.objs.size l 0 → (∀ b o, s.heap.get? b = some o → h'.get? b = some o) → Q (.ref (s.heap.objs.size + 1)) { s with heap := h' }) :
    wpAny (model prog w) A (call (.type "enumerate") [.ref l]) Q E s := by
  obtain ⟨⟨c, dct, dt, sl⟩, hl, hc, n, hd⟩ := hL
  obtain rfl : c = .type "tuple" := hc
  obtain rfl : dt = .seq items n := hd
  refine callType_new F.called_enumerate (by decide) (F.typeCall_enumerate_1 _) (F.newCall_enumerate_1 _) (fun ob => F.args_object_init_2 ob _) F.entry_enumerate_new (enum_newT l items n dct sl) ⟨hl, ?_⟩
  show _ ∧ _
  have hz : ∀ o : Obj, (s.heap.push o).objs.size = s.heap.objs.size + 1 := fun o => Heap.size_push ..
  rw [hz]
  generalize hp : (s.heap.push { cls := .type "tuple_iterator", data := .fields #[.ref l, .int 0 0] }) = g
  have gz : g.objs.size = s.heap.objs.size + 1 := by rw [← hp]; exact hz _
  have gi : g.IsTupleIter s.heap.objs.size l 0 := by rw [← hp]; exact ⟨_, Heap.get?_push_size _ rfl, rfl, rfl⟩
  have gk : ∀ b o, s.heap.get? b = some o → g.get? b = some o := fun b o x => by rw [← hp]; exact Heap.get?_push_of_some _ x
  have he : ∀ o : Obj, o.isFreed = false → (g.push o).get? (s.heap.objs.size + 1) = some o := fun o z => by rw [← gz]; exact Heap.get?_push_size _ z
  exact ⟨⟨_, he _ rfl, rfl⟩, h _ (he _ rfl) (gi.at fun o q => Heap.get?_push_of_some _ q) fun b o x => Heap.get?_push_of_some _ (gk b o x)⟩
end
/-- the tuple at a, each item in a new pair -/
def IteT (K : PySem.W.Frag) (a : Addr) : It :=
  ⟨fun i H => ∃ (xs : List V) (x : V), SqT K H a xs ∧ xs[i]? = some x, fun i H v H' => ∃ T x, v = .ref T ∧ H T = none ∧ H' = upd H T (.tup [.int (i : Nat), x]) ∧ ∀ xs, SqT K H a xs → xs[i]? = some x, fun i H => ∃ xs : List V, SqT K H a xs ∧ xs.length ≤ i⟩
theorem turn_enumT {P : Program} {w : World} {K : PySem.W.Frag} {elts : List Expr} {kk : Nat} {tpos : Pos} (a e it : Addr) (hai : a ≠ it) (hae : a ≠ e) :
    Turn P w K (.Tuple elts kk tpos) (IteT K a) [e, it] e (fun i h => (∃ old, IsEnum h e it ((i : Nat) : Int) old) ∧ h.IsTupleIter it a i ∧ e ≠ it) where
  mem := List.mem_cons_self
  obj := fun i h st b hb => by
    obtain ⟨⟨old, he⟩, ⟨o, ho, hc, hd⟩, _⟩ := st
    rcases List.mem_cons.mp hb with z | z
    · subst z
      exact ⟨_, he, fun v q => nomatch q⟩
    · obtain rfl : b = it := by simpa using z
      exact ⟨o, ho, fun v q => by rw [hd] at q; cases q⟩
  keep := fun i h h' st k => ⟨⟨st.1.choose, k e List.mem_cons_self _ st.1.choose_spec⟩, st.2.1.at fun o q => k it (by simp) o q, st.2.2⟩
  item := by
    intro X hP hw hK hc i pins s σ H E I hf st hg
    subst hP hw hK
    obtain ⟨⟨old, he⟩, hit, hne⟩ := st
    obtain ⟨xs, x, hq, hx⟩ := hg
    obtain ⟨its, rv, p, hz⟩ := I.tuple hq
    obtain ⟨u, hu, ru⟩ := rv.get hx
    have el : e < s.heap.objs.size := Heap.lt_size he
    have il : it < s.heap.objs.size := let ⟨_, q, _⟩ := hit; Heap.lt_size q
    have pT : s.heap.IsTuple a its.toArray := p
    have ui : its.toArray[i]? = some u := by simpa using hu
    have hlt : i < its.toArray.size := (Array.getElem?_eq_some_iff.mp ui).1
    refine wpAny_pyNext_enum_itemD (draws_tup (items := its.toArray) hai (I.ok.hd hc)) he ⟨hit, pT⟩ hlt hne (by simp [hne, Ne.symm hae]) fun y h' tk hy ho st' hT hsz hk => ?_
    obtain rfl : y = u := Option.some.inj (hy.symm.trans ui)
    refine ⟨_, rfl, wpAny_letOwnedTupleGo_enum (s := { s with heap := h', toks := tk + 1 }) ho fun h2 he2 sb => ?_⟩
    have hT2 : h2.get? s.heap.objs.size = some { cls := .type "tuple", data := .seq #[.int i tk, y] } := (sb.2 _ (Nat.ne_of_gt el)).trans hT
    have new : ObjOk X.prog X.w (upd H s.heap.objs.size (.tup [.int (i : Nat), x])) h2 s.heap.objs.size (.tup [.int (i : Nat), x]) :=
      ⟨(by show 2 ≤ sizeLine; decide), [.int i tk, y], .cons ⟨_, rfl⟩ (.cons ru .nil), ⟨_, hT2, rfl, _, rfl⟩⟩
    have I1 : Inv X pins σ (upd H s.heap.objs.size (.tup [.int (i : Nat), x])) { s with heap := h2, toks := tk + 1 } :=
      I.turnedNew (ch := [e, it]) (fun b ob hb q => (sb.2 b fun z => hb (by simp [z])).trans (hk b ob (fun z => hb (by simp [z])) (fun z => hb (by simp [z])) q)) hf (Nat.le_refl _) new
    refine ⟨.ref s.heap.objs.size, _, I1, rfl, ⟨_, x, rfl, I.hok.fresh (Nat.le_refl _), rfl, fun ys hy => by rw [I.tuple_inj hy hq]; exact hx⟩, ⟨⟨y, ?_⟩, st'.1.at fun o q => (sb.2 it (Ne.symm hne)).trans q, hne⟩, fun b hb => ?_⟩
    · rw [show ((i + 1 : Nat) : Int) = (i : Int) + 1 by omega]
      exact he2
    · have lt : b < s.heap.objs.size := by
        rcases List.mem_cons.mp hb with z | z
        · exact z ▸ el
        · obtain rfl : b = it := by simpa using z
          exact il
      rw [upd_ne (Nat.ne_of_lt lt)]
      exact (hf b hb).1
  done := by
    intro X hP hw hK hc i pins s σ H E I hf st hg
    subst hP hw hK
    obtain ⟨⟨old, he⟩, hit, hne⟩ := st
    obtain ⟨xs, hq, hx⟩ := hg
    obtain ⟨its, rv, p, hz⟩ := I.tuple hq
    obtain ⟨f0, f1, f2, f3, f4, f5⟩ := hf it (by simp)
    have pT : s.heap.IsTuple a its.toArray := p
    have hle : its.toArray.size ≤ i := by
      have := rv.length
      simp only [List.size_toArray]
      omega
    have D : Draws X.prog X.w X.A.in1 it [it, a] i (fun _ _ => False) (fun j h => j = i ∧ h.IsTupleIter it a i ∧ h.IsTuple a its.toArray) :=
      ⟨fun j h st => let ⟨_, ⟨o, ho, _⟩, _⟩ := st; ⟨o, ho⟩, fun j h h' st kp => ⟨st.1, st.2.1.at fun o q => kp it (by simp) o q, st.2.2.at fun o q => kp a (by simp) o q⟩,
        fun j s Q E hi st _ => absurd st.1 (Nat.ne_of_lt hi), fun s Q E st hE => RZ.nextOf_tuple_end (I.ok.hd hc) st.2.1 st.2.2 (Array.getElem?_eq_none hle) hE⟩
    exact wpAny_pyNext_enum_endD D he ⟨rfl, hit, pT⟩ fun h' eb => ⟨rfl, I.turned (t' := s.toks) (fun b o hb q => eb b o hb q) f0 f1 f3 f4 f5⟩
  self := fun A i s Q E st h => let ⟨⟨_, he⟩, _⟩ := st; wpAny_pyIter_enum he h
def iEnumA (K : PySem.W.Frag) (ta : TA) : TI := fun σ H R => ta σ H fun vs H1 => ∃ a xs, vs = [.ref a] ∧ ((SqL K H1 a xs ∧ R (Ite K a) H1) ∨ (SqT K H1 a xs ∧ R (IteT K a) H1))
theorem pi_enumA {X : Cx} {e : Expr} {ta : TA} {p pos tpos : Pos} {elts : List Expr} {kk : Nat} (hg : Gl X "enumerate") (hm : X.mg "enumerate" = none) (ha : PA X [e] ta) (hs : starEach [e] X.env = [(false, eval e X.env)] := by rfl) :
    PI X (.Tuple elts kk tpos) (.Call (.Name "enumerate" p) [e] [] pos) (iEnumA X.K ta) := by
  refine ⟨fun pins s σ H R I h => ?_⟩
  refine Call_ (ld_blt I hg hm boot_enumerate (PyProof.Rows.callWith_type1 (thn (ha.run pos pins s σ H _ I h) fun us s1 ⟨vs, H1, I1, r1, q1⟩ => ?_) hs rfl))
  obtain ⟨a, xs, ex, q⟩ := q1
  subst ex
  cases r1 with
  | cons r rr =>
    cases rr
    cases r
    have fp : ∀ b ∈ [s1.heap.objs.size + 1, s1.heap.objs.size], FpOk X pins H1 b := fun b hb => by
      have hle : s1.heap.objs.size ≤ b := by
        rcases List.mem_cons.mp hb with z | z
        · rw [z]; exact Nat.le_succ _
        · rw [List.mem_singleton.mp z]; exact Nat.le_refl _
      exact I1.fpOk hle (I1.hok.fresh hle)
    rcases q with ⟨hq, q⟩ | ⟨hq, q⟩
    · obtain ⟨its, rv, p', hz⟩ := I1.list hq
      refine call_enumerate_list p'.isList fun h' he hit _ hk => wpAny_pyIter_enum he ?_
      exact ⟨s1.heap.objs.size + 1, [s1.heap.objs.size + 1, s1.heap.objs.size], _, _, H1, rfl, I1.kept (t' := s1.toks) hk, turn_enum a (s1.heap.objs.size + 1) s1.heap.objs.size, ⟨⟨.none, he⟩, hit, Nat.succ_ne_self _⟩, fp, q⟩
    · obtain ⟨its, rv, p', hz⟩ := I1.tuple hq
      obtain ⟨oa, hoa, _⟩ := id p'
      have hal : a < s1.heap.objs.size := Heap.lt_size hoa
      refine call_enumT (show s1.heap.IsTuple a its.toArray from p') fun h' he hit hk => wpAny_pyIter_enum he ?_
      exact ⟨s1.heap.objs.size + 1, [s1.heap.objs.size + 1, s1.heap.objs.size], _, _, H1, rfl, I1.kept (t' := s1.toks) hk, turn_enumT a (s1.heap.objs.size + 1) s1.heap.objs.size (Nat.ne_of_lt hal) (Nat.ne_of_lt (Nat.lt_succ_of_lt hal)), ⟨⟨.none, he⟩, hit, Nat.succ_ne_self _⟩, fp, q⟩
/-- a loop over enumerate of a list or a tuple that stays -/
theorem for_enumL {K : PySem.W.Frag} {a : Addr} {xs : List V} {g : TG} {tb : TS} {D : Ends} {σ : L2.St} {H : Hp} (Pv : Nat → L2.St → Hp → Prop) (h0 : Pv 0 σ H) (hl : ∀ i σ H, Pv i σ H → SqL K H a xs)
    (hs : ∀ i x T σ H, xs[i]? = some x → Pv i σ H → H T = none → g (.ref T) σ (upd H T (.tup [.int (i : Nat), x])) fun σ2 H2 => tb { D with nx := Pv (i + 1), ct := Pv (i + 1), bk := D.nx } σ2 H2) (hd : ∀ σ H, Pv xs.length σ H → D.nx σ H) :
    ∃ W : Nat → Nat → L2.St → Hp → Prop, (∃ m, W 0 m σ H) ∧ ∀ i m σ H, W i m σ H →
      ((Ite K a).stop i H ∧ D.nx σ H) ∨ ((Ite K a).go i H ∧ ∃ N : L2.St → Hp → Prop, (∀ σ' H', N σ' H' → ∃ m', m' < m ∧ W (i + 1) m' σ' H') ∧ ∀ x H', (Ite K a).yld i H x H' → g x σ H' fun σ2 H2 => tb { D with nx := N, ct := N, bk := D.nx } σ2 H2) := by
  refine ⟨fun i m σ H => m = xs.length - i ∧ i ≤ xs.length ∧ Pv i σ H, ⟨_, rfl, Nat.zero_le _, h0⟩, ?_⟩
  rintro i m σ H ⟨rfl, hi, p⟩
  have q := hl i σ H p
  by_cases lt : i < xs.length
  · refine .inr ⟨⟨xs, xs[i], q, by simp [lt]⟩, Pv (i + 1), fun σ' H' p' => ⟨xs.length - (i + 1), by omega, rfl, lt, p'⟩, fun v H' y => ?_⟩
    obtain ⟨T, x, rfl, hT, rfl, y⟩ := y
    exact hs i x T σ H (y xs q) p hT
  · obtain rfl : i = xs.length := by omega
    exact .inl ⟨⟨xs, q, Nat.le_refl _⟩, hd σ H p⟩
theorem for_enumT {K : PySem.W.Frag} {a : Addr} {xs : List V} {g : TG} {tb : TS} {D : Ends} {σ : L2.St} {H : Hp} (Pv : Nat → L2.St → Hp → Prop) (h0 : Pv 0 σ H) (hl : ∀ i σ H, Pv i σ H → SqT K H a xs)
    (hs : ∀ i x T σ H, xs[i]? = some x → Pv i σ H → H T = none → g (.ref T) σ (upd H T (.tup [.int (i : Nat), x])) fun σ2 H2 => tb { D with nx := Pv (i + 1), ct := Pv (i + 1), bk := D.nx } σ2 H2) (hd : ∀ σ H, Pv xs.length σ H → D.nx σ H) :
    ∃ W : Nat → Nat → L2.St → Hp → Prop, (∃ m, W 0 m σ H) ∧ ∀ i m σ H, W i m σ H →
      ((IteT K a).stop i H ∧ D.nx σ H) ∨ ((IteT K a).go i H ∧ ∃ N : L2.St → Hp → Prop, (∀ σ' H', N σ' H' → ∃ m', m' < m ∧ W (i + 1) m' σ' H') ∧ ∀ x H', (IteT K a).yld i H x H' → g x σ H' fun σ2 H2 => tb { D with nx := N, ct := N, bk := D.nx } σ2 H2) := by
  refine ⟨fun i m σ H => m = xs.length - i ∧ i ≤ xs.length ∧ Pv i σ H, ⟨_, rfl, Nat.zero_le _, h0⟩, ?_⟩
  rintro i m σ H ⟨rfl, hi, p⟩
  have q := hl i σ H p
  by_cases lt : i < xs.length
  · refine .inr ⟨⟨xs, xs[i], q, by simp [lt]⟩, Pv (i + 1), fun σ' H' p' => ⟨xs.length - (i + 1), by omega, rfl, lt, p'⟩, fun v H' y => ?_⟩
    obtain ⟨T, x, rfl, hT, rfl, y⟩ := y
    exact hs i x T σ H (y xs q) p hT
  · obtain rfl : i = xs.length := by omega
    exact .inl ⟨⟨xs, q, Nat.le_refl _⟩, hd σ H p⟩
end Ow

/-! ## a tuple times 1 -/
namespace Ow
open PySem PySem.Spec PyProof.Rows L2
theorem tuple_mul1 (l : Addr) (items : Array Value) (n : Nat) (dd : Option Addr) (sl : Array (Option Value)) (u : Tok) (c1 : (items.isEmpty || (1 : Int) == 1) = true) :
    Meets (Builtin.«tuple.__mul__» ⟨[.ref l, .int 1 u], []⟩) (fun _ R s => s.heap.get? l = some { cls := .type "tuple", dict := dd, data := .seq items n, slots := sl } ∧ R (.ok (.ret (Value.ref l))) s) :=
  .of_wp fun prog w A R s h => by
    obtain ⟨hp, g, d, tk, os⟩ := s; have hl := h.1; have hR := h.2
    have f1 := AutoSeq1.idx_int
    wp_walk using wpAny_loadPart' hl
    repeat (first | (refine wpAny_ite_true (decide_eq_true (by first | exact c1 | rfl)) ?_; wp_walk using wpAny_loadPart' hl) | (refine wpAny_ite_false (decide_eq_false (by decide)) ?_; wp_walk using wpAny_loadPart' hl))
    exact ⟨_, rfl, hR⟩
def rRep1 (K : PySem.W.Frag) : R2 := fun x y H Q => ∃ l xs, x = .ref l ∧ y = .int 1 ∧ SqT K H l xs ∧ Q (.ref l) H
theorem op_rep1 {X : Cx} : OpR X (binaryOp .Mult) (rRep1 X.K) := by
  intro pins s σ H x y v u Q I rx ry h
  obtain ⟨l, xs, rfl, rfl, hT, q⟩ := h
  cases rx; obtain ⟨t, rfl⟩ := ry
  obtain ⟨its, r, ⟨⟨cls, dd, data, sl⟩, ho, hc, n, hd⟩, hs⟩ := I.tuple hT
  obtain rfl : cls = .type "tuple" := hc
  obtain rfl : data = .seq its.toArray n := hd
  have tm := tuple_mul1 l its.toArray n dd sl t (by rw [show ((1 : Int) == 1) = true from rfl, Bool.or_true])
  refine wpAny_binaryOp_repeat_ref (T := "tuple") (U := "int") (by decide) ⟨_, ho, rfl⟩ (fun s' => typeIs_int s' 1 t) noFill_tuple_mul F.fills_int_mul F.slot_int_rmul repeat_tuple F.slot_int_index.lookup ?_
  refine call_meets F.slot_int_rmul (typeIs_int s 1 t) F.entry_int_rmul (F.args_int_rmul_2 _ _) (int_rmul_tuple 1 t l its.toArray n dd sl) ⟨ho, rfl, ⟨_, ho, rfl⟩, ?_⟩
  exact call_meets F.slot_tuple_mul ⟨_, ho, rfl⟩ F.entry_tuple_mul (F.args_tuple_mul_2 _ _) tm ⟨ho, ⟨.ref l, H, I, rfl, q⟩⟩
/-- a tuple times a number from 1 on -/
def rRepN (K : PySem.W.Frag) : R2 := fun x y H Q => ∃ l n xs, x = .ref l ∧ y = .int ((n : Nat) : Int) ∧ SqT K H l xs ∧ xs ≠ [] ∧ 1 ≤ n ∧ n ≤ 1000 ∧ xs.length ≤ 1000 ∧ (n = 1 → Q (.ref l) H) ∧ ∀ p, H p = none → Q (.ref p) (upd H p (.tup (List.replicate n xs).flatten))
theorem op_repN {X : Cx} : OpR X (binaryOp .Mult) (rRepN X.K) := by
  intro pins s σ H x y v u Q I rx ry h
  obtain ⟨l, n, xs, ex, ey, hT, ne, h1, h2, hz, q1, q⟩ := h
  by_cases e : n = 1
  · exact op_rep1 pins s σ H x y v u Q I rx ry ⟨l, xs, ex, by rw [ey, e]; rfl, hT, q1 e⟩
  · exact op_repT pins s σ H x y v u Q I rx ry ⟨l, n, xs, ex, ey, hT, ne, by omega, by omega, hz, q⟩
end Ow

/-! ## repr of a list of one int, of a pair of texts -/
namespace Ow
open PySem PySem.Spec PyProof.Rows L2
/-- what repr tells of x, by the guards: more things -/
inductive RepI2 : Hp → V → (List Code → Str) → Prop
  | base {H : Hp} {x : V} {f : List Code → Str} (h : RepIs H x f) : RepI2 H x f
  | lsti {H : Hp} {a : Addr} {i : Int} (h : H a = some (.lst [.int i])) (hi : i.natAbs.log2 < 1920) (hz : (listText [toString i]).length ≤ sizeLine) : RepI2 H (.ref a) fun g => if runs (onL a) g then "[...]" else listText [toString i]
  | pair {H : Hp} {a : Addr} {y z : Str} (h : H a = some (.tup [.str y, .str z])) (h1 : (reprText y).length ≤ sizeLine) (h2 : (reprText z).length ≤ sizeLine) (hz : (tupleText [reprText y, reprText z]).length ≤ sizeLine) :
      RepI2 H (.ref a) fun g => if runs (tupGuardF (.ref a)) g then "(...)" else tupleText [reprText y, reprText z]
theorem RepI2.mono {H H' : Hp} {x : V} {f : List Code → Str} (e : Same H H') (h : RepI2 H x f) : RepI2 H' x f := by
  cases h with
  | base h => exact .base (h.mono e)
  | lsti h h1 h2 => exact .lsti (e _ _ h) h1 h2
  | pair h h1 h2 h3 => exact .pair (e _ _ h) h1 h2 h3
def rRep2 (g : List Code) : List V → Hp → VK → Prop := fun xs H Q => ∃ (x : V) (f : List Code → Str), xs = [x] ∧ RepI2 H x f ∧ Q (.str (f g)) H
theorem call_rep2 {X : Cx} {g : List Code} (hg : X.A.guards = some g) (hu : X.A.units + 64 < cLine) : CallR X (.builtin "repr") (rRep2 g) := by
  intro pins s σ H xs us Q I r h
  obtain ⟨x, f, rfl, ri, q⟩ := h
  cases ri with
  | base ri => exact call_rep hg hu pins s σ H _ us Q I r ⟨x, f, rfl, ri, q⟩
  | lsti e hi hz =>
    obtain ⟨u, rfl, t⟩ := vals1 r
    rename_i a i
    cases t
    replace q : Q (.str (if runs (onL a) g then "[...]" else listText [toString i])) H := q
    obtain ⟨its, r', pl, _⟩ := I.list (SqL.of e)
    obtain ⟨v, rfl, t, rfl⟩ := vals1 r'
    obtain ⟨o, ho, hc, n, hd⟩ := pl.isList
    refine call_repr_slot (T := "list") (idr := "list.__repr__") (by omega) ⟨o, ho, hc⟩ F.slot_list_repr.toG ?_
    cases hr : runs (onL a) g with
    | true =>
      rw [hr] at q
      exact rep_list_on hg hr ho hc hd ⟨_, _, rfl, .str _, H, I.tok _, ⟨_, rfl⟩, q⟩
    | false =>
      rw [hr] at q
      refine call_list_repr ⟨o, ho, hc⟩ hg (fun v rest kw hm => runs_no hr _ hm) ho hd (ts := [toString i]) (by rfl) (fun j y hy => ?_) (fun h' u tk hk => ⟨_, _, rfl, .str _, H, I.kept (t' := tk) hk, ⟨_, rfl⟩, q⟩) hz
      cases j with
      | zero =>
        obtain rfl : Value.int i t = y := Option.some.inj hy
        exact ⟨_, rfl, ReprIs.int t hi⟩
      | succ j => simp at hy
  | pair e h1 h2 hz =>
    obtain ⟨u, rfl, t⟩ := vals1 r
    rename_i a y z
    cases t
    replace q : Q (.str (if runs (tupGuardF (.ref a)) g then "(...)" else tupleText [reprText y, reprText z])) H := q
    obtain ⟨its, r', ⟨o, ho, hc, n, hd⟩, _⟩ := I.tuple (SqT.of e)
    cases r' with
    | cons r1 r' =>
      cases r' with
      | cons r2 r' =>
        cases r'
        obtain ⟨t1, rfl⟩ := r1
        obtain ⟨t2, rfl⟩ := r2
        refine call_repr_slot (T := "tuple") (idr := "tuple.__repr__") (by omega) ⟨o, ho, hc⟩ F.slot_tuple_repr ?_
        cases hr : runs (tupGuardF (.ref a)) g with
        | true =>
          rw [hr] at q
          exact rep_tup_on hg hr ho hc hd ⟨_, _, rfl, .str _, H, I.tok _, ⟨_, rfl⟩, q⟩
        | false =>
          rw [hr] at q
          exact call_tuple_repr ⟨o, ho, hc⟩ hg (runs_no hr) ho hd (ts := [reprText y, reprText z]) (.cons (ReprIs.str y t1 h1) (.cons (ReprIs.str z t2 h2) .nil)) (fun u tk => ⟨_, _, rfl, .str _, H, I.tok _, ⟨_, rfl⟩, q⟩) hz
end Ow

namespace As
open PySem PySem.Spec PyProof.Rows L2 Ow
def tp (i : Nat) : Stmt := PySem.Challenge.pw_afterwise_k01_store_made.main.body.getD i (.Pass ⟨0, 0, 0, 0⟩)
abbrev s_WrongThing_init : Stmt := inClass (tp 2) 0
abbrev s_WrongItem_init : Stmt := inClass (tp 3) 0
abbrev s_BadStore_init : Stmt := inClass (tp 7) 0
abbrev s_Unlike_init : Stmt := inClass (tp 8) 0
abbrev s_TooMany_init : Stmt := inClass (tp 9) 0
abbrev s_is_integer : Stmt := tp 11
abbrev s_is_tuple : Stmt := tp 12
abbrev s_is_below : Stmt := tp 13
abbrev s_is_tuple_of : Stmt := tp 14
abbrev s_are_integers : Stmt := tp 15
abbrev s_is_asks : Stmt := tp 19
abbrev s_check_asks : Stmt := tp 21
abbrev s_check_ask : Stmt := tp 22
abbrev s_check_state : Stmt := tp 23
abbrev s_check_like_asks : Stmt := tp 24
abbrev s_Store_init : Stmt := inClass (tp 27) 0
abbrev s_Store_price : Stmt := inClass (tp 27) 1
abbrev s_Store_len : Stmt := inClass (tp 27) 2
abbrev s_Store_eq : Stmt := inClass (tp 27) 3
abbrev s_Store_add : Stmt := inClass (tp 27) 4
abbrev s_Store_invert : Stmt := inClass (tp 27) 5
abbrev s_are_tables : Stmt := tp 28
abbrev s_is_table : Stmt := tp 29
abbrev s_sums : Stmt := tp 30
abbrev s_summed_tables : Stmt := tp 31
abbrev s__law_cell : Stmt := tp 33
abbrev s__law_source : Stmt := tp 34
abbrev s__law_draw : Stmt := tp 35
abbrev s__law_is_int : Stmt := tp 36
abbrev s__law_exact : Stmt := tp 37
abbrev s__law_deep : Stmt := tp 38
abbrev s__law_asks : Stmt := tp 39
abbrev s__law_prices : Stmt := tp 40
abbrev s__law_any_table : Stmt := tp 41
abbrev s__law_change : Stmt := tp 42
abbrev s__law_changes : Stmt := tp 43
abbrev s__law_served : Stmt := tp 44
abbrev s__law_world : Stmt := tp 45
abbrev s__law_raised : Stmt := tp 46
abbrev s__law_moved : Stmt := tp 47
abbrev s__law_lists : Stmt := tp 48
abbrev s__law_store_is : Stmt := tp 49
abbrev s__law_part : Stmt := tp 50
abbrev s__law_bad_asks : Stmt := tp 51
abbrev s__law_bad_line : Stmt := tp 52
abbrev s__law_bad_costs : Stmt := tp 53
abbrev s__law_bad_ends : Stmt := tp 54
abbrev s__law_refused : Stmt := tp 55
abbrev s__law_price_error : Stmt := tp 56
abbrev s__law_price_refused : Stmt := tp 57
abbrev s__law_other : Stmt := tp 58
abbrev s_law : Stmt := tp 59
structure Ad where
  (f_WrongThing_init f_WrongItem_init f_BadStore_init f_Unlike_init f_TooMany_init f_is_integer f_is_tuple f_is_below f_is_tuple_of f_are_integers f_is_asks f_check_asks f_check_ask f_check_state f_check_like_asks f_Store_init f_Store_price f_Store_len f_Store_eq f_Store_add f_Store_invert f_are_tables f_is_table f_sums f_summed_tables f__law_cell f__law_source f__law_draw f__law_is_int f__law_exact f__law_deep f__law_asks f__law_prices f__law_any_table f__law_change f__law_changes f__law_served f__law_world f__law_raised f__law_moved f__law_lists f__law_store_is f__law_part f__law_bad_asks f__law_bad_line f__law_bad_costs f__law_bad_ends f__law_refused f__law_price_error f__law_price_refused f__law_other f_law : Addr)
  (c_AfterError c_WrongThing c_WrongItem c_BadAsks c_BadAsk c_BadState c_BadStore c_Unlike c_TooMany c_Store : Addr)
  (t_LETTERS t_MOST_ASKS t_MOST_STATES : Tok)
structure Tx (K : PySem.W.Frag) (mg : Str → Option Value) (A : Ad) : Prop where
  nNotImplemented : mg "NotImplemented" = none
  nValueError : mg "ValueError" = none
  nabs : mg "abs" = none
  nall : mg "all" = none
  nbool : mg "bool" = none
  nint : mg "int" = none
  nisinstance : mg "isinstance" = none
  nlen : mg "len" = none
  nlist : mg "list" = none
  nmax : mg "max" = none
  nrange : mg "range" = none
  nrepr : mg "repr" = none
  nstr : mg "str" = none
  nsum : mg "sum" = none
  ntuple : mg "tuple" = none
  nzip : mg "zip" = none
  mLETTERS : mg "LETTERS" = some (.str "abcdefgh" A.t_LETTERS)
  mMOST_ASKS : mg "MOST_ASKS" = some (.int 4 A.t_MOST_ASKS)
  mMOST_STATES : mg "MOST_STATES" = some (.int 1000 A.t_MOST_STATES)
  mis_integer : mg "is_integer" = some (.ref A.f_is_integer)
  mis_tuple : mg "is_tuple" = some (.ref A.f_is_tuple)
  mis_below : mg "is_below" = some (.ref A.f_is_below)
  mis_tuple_of : mg "is_tuple_of" = some (.ref A.f_is_tuple_of)
  mare_integers : mg "are_integers" = some (.ref A.f_are_integers)
  mis_asks : mg "is_asks" = some (.ref A.f_is_asks)
  mcheck_asks : mg "check_asks" = some (.ref A.f_check_asks)
  mcheck_ask : mg "check_ask" = some (.ref A.f_check_ask)
  mcheck_state : mg "check_state" = some (.ref A.f_check_state)
  mcheck_like_asks : mg "check_like_asks" = some (.ref A.f_check_like_asks)
  mare_tables : mg "are_tables" = some (.ref A.f_are_tables)
  mis_table : mg "is_table" = some (.ref A.f_is_table)
  msums : mg "sums" = some (.ref A.f_sums)
  msummed_tables : mg "summed_tables" = some (.ref A.f_summed_tables)
  m_law_cell : mg "_law_cell" = some (.ref A.f__law_cell)
  m_law_source : mg "_law_source" = some (.ref A.f__law_source)
  m_law_draw : mg "_law_draw" = some (.ref A.f__law_draw)
  m_law_is_int : mg "_law_is_int" = some (.ref A.f__law_is_int)
  m_law_exact : mg "_law_exact" = some (.ref A.f__law_exact)
  m_law_deep : mg "_law_deep" = some (.ref A.f__law_deep)
  m_law_asks : mg "_law_asks" = some (.ref A.f__law_asks)
  m_law_prices : mg "_law_prices" = some (.ref A.f__law_prices)
  m_law_any_table : mg "_law_any_table" = some (.ref A.f__law_any_table)
  m_law_change : mg "_law_change" = some (.ref A.f__law_change)
  m_law_changes : mg "_law_changes" = some (.ref A.f__law_changes)
  m_law_served : mg "_law_served" = some (.ref A.f__law_served)
  m_law_world : mg "_law_world" = some (.ref A.f__law_world)
  m_law_raised : mg "_law_raised" = some (.ref A.f__law_raised)
  m_law_moved : mg "_law_moved" = some (.ref A.f__law_moved)
  m_law_lists : mg "_law_lists" = some (.ref A.f__law_lists)
  m_law_store_is : mg "_law_store_is" = some (.ref A.f__law_store_is)
  m_law_part : mg "_law_part" = some (.ref A.f__law_part)
  m_law_bad_asks : mg "_law_bad_asks" = some (.ref A.f__law_bad_asks)
  m_law_bad_line : mg "_law_bad_line" = some (.ref A.f__law_bad_line)
  m_law_bad_costs : mg "_law_bad_costs" = some (.ref A.f__law_bad_costs)
  m_law_bad_ends : mg "_law_bad_ends" = some (.ref A.f__law_bad_ends)
  m_law_refused : mg "_law_refused" = some (.ref A.f__law_refused)
  m_law_price_error : mg "_law_price_error" = some (.ref A.f__law_price_error)
  m_law_price_refused : mg "_law_price_refused" = some (.ref A.f__law_price_refused)
  m_law_other : mg "_law_other" = some (.ref A.f__law_other)
  mlaw : mg "law" = some (.ref A.f_law)
  mAfterError : mg "AfterError" = some (.ref A.c_AfterError)
  mWrongThing : mg "WrongThing" = some (.ref A.c_WrongThing)
  mWrongItem : mg "WrongItem" = some (.ref A.c_WrongItem)
  mBadAsks : mg "BadAsks" = some (.ref A.c_BadAsks)
  mBadAsk : mg "BadAsk" = some (.ref A.c_BadAsk)
  mBadState : mg "BadState" = some (.ref A.c_BadState)
  mBadStore : mg "BadStore" = some (.ref A.c_BadStore)
  mUnlike : mg "Unlike" = some (.ref A.c_Unlike)
  mTooMany : mg "TooMany" = some (.ref A.c_TooMany)
  mStore : mg "Store" = some (.ref A.c_Store)
end As

namespace As
open PySem PySem.Spec PyProof.Rows L2 Ow
section
variable {P : Program} {w : World} {K : PySem.W.Frag} {mg : Str → Option Value} {base : Heap} {A : Ad}
/-! ## a cell of the script -/
abbrev N__law_cell : List Str := ["_law_script", "_law_k"]
theorem sc__law_cell : FnScope N__law_cell ["_law_script", "_law_k"] (defScope s__law_cell) := ⟨rfl, rfl, rfl, by decide +kernel, rfl, by decide +kernel, by decide +kernel⟩
theorem ok_cell {fd : FuncData} (F : Fun K "_law_cell" "_law_cell" s__law_cell A.f__law_cell fd) (T : Tx K mg A) : FnOk P w K mg base CX0 1 A.f__law_cell fd ["_law_script", "_law_k"] (Ow.spCell K) := by
  have nd := sc__law_cell.nd
  refine F.ok sc__law_cell (fun vs H Q E h => ?_) (fun cdv A' outer s H vs Q E hr h => ?_)
  · obtain ⟨l, ns, k, rfl, _⟩ := h
    rfl
  · obtain ⟨l, ns, k, rfl, hS, q⟩ := h
    refine ⟨_, (pss_cons (ps_if (pt_cmpR op_lt (pv 1) (pe_callB call_len (by rfl) T.nlen (by decide +kernel) (pa_cons (pv 0) pa_nil)) (nomark _)) (pss_one (ps_ret (pe_ix ix_list (pv 0) (pv 1) (fun _ _ => rfl)))) pss_nil)
  (pss_one (ps_ret (pe_op op_add (pe_op op_mul pe_int (pe_op op_add (pv 1) pe_int)) (pe_op op_mul pe_int (pe_op op_modN (pe_callTy call_int1 (by rfl) T.nint (by decide +kernel) (pa_cons (pe_callB (cr_sum rfl) (by rfl) T.nsum (by decide +kernel) (pa_cons (pe_slice sl_list (pv 0) po_none (po_some pe_int)) pa_nil)) pa_nil)) pe_int)))))), ?_⟩
    refine ⟨_, rfl, _, rfl, V.ref l, _, rfl, .inl ⟨_, hS, rfl⟩, _, _, rfl, rfl, _, rfl, ite2 (fun c => ?_) (fun c => ?_)⟩
    · have hk : k < ns.length := by
        have z := of_decide_eq_true c
        rw [List.length_map] at z
        omega
      refine ⟨_, rfl, _, rfl, l, _, _, .int ns[k], rfl, rfl, hS, atI_nat ?_, q _ H (Same.refl H)⟩
      rw [List.getElem?_map, List.getElem?_eq_getElem hk]
      rfl
    · refine ⟨_, rfl, _, _, rfl, rfl, _, _, rfl, rfl, .inl ⟨by decide, by decide⟩, _, rfl, 1, rfl, l, _, rfl, hS, fun p hp => ?_⟩
      refine ⟨p, _, rfl, SqL.of (by rw [upd_same, cut_first]), .inl ⟨_, rfl, ?_⟩⟩
      exact ⟨_, _, rfl, rfl, (by show (1000003 : Int) ≠ 0; decide), _, _, rfl, rfl, .inl ⟨by decide, by decide⟩, _, _, rfl, rfl, q _ _ (same_new hp)⟩
/-! ## a draw -/
abbrev N__law_draw : List Str := ["_law_source_here", "_law_many", "_law_digit", "_law_mixed"]
theorem sc__law_draw : FnScope N__law_draw ["_law_source_here", "_law_many"] (defScope s__law_draw) := ⟨rfl, rfl, rfl, by decide +kernel, rfl, by decide +kernel, by decide +kernel⟩
theorem ok_draw {fd : FuncData} (F : Fun K "_law_draw" "_law_draw" s__law_draw A.f__law_draw fd) (T : Tx K mg A) : FnOk P w K mg base CX0 1 A.f__law_draw fd ["_law_source_here", "_law_many"] spDraw := by
  have nd := sc__law_draw.nd
  refine F.ok sc__law_draw (fun vs H Q E h => ?_) (fun cdv A' outer s H vs Q E hr h => ?_)
  · obtain ⟨l, m, rfl, _⟩ := h
    rfl
  · obtain ⟨p, m, rfl, ⟨a, b, c, hp, ha, hb, hb'⟩, hm, hm', q⟩ := h
    have hm0 : m ≠ 0 := by omega
    refine ⟨_, (pss_cons (ps_if (pt_cmpR op_gt (pe_ix ix_list (pv 0) pe_int (fun _ _ => rfl)) pe_int (nomark _)) (pss_cons (ps_set (i := 2) nd rfl (by first | exact Or.inl rfl | exact Or.inr rfl) (pe_op op_modN (pe_callTy call_int1 (by rfl) T.nint (by decide +kernel) (pa_cons (pe_ix ix_list (pv 0) pe_int (fun _ _ => rfl)) pa_nil)) (pv 1)))
  (pss_cons (ps_asg (pe_op op_fdivN (pe_ix ix_list (pv 0) pe_int (fun _ _ => rfl)) (pv 1)) (pg_sub (pv 0) pe_int set_list))
  (pss_one (ps_ret (pv 2))))) pss_nil)
  (pss_cons (ps_asg (pe_op op_add (pe_ix ix_list (pv 0) pe_int (fun _ _ => rfl)) pe_int) (pg_sub (pv 0) pe_int set_list))
  (pss_cons (ps_asg (pe_op op_modN (pe_callTy call_int1 (by rfl) T.nint (by decide +kernel) (pa_cons (pe_op op_add (pe_op op_add (pe_op op_mul (pe_ix ix_list (pv 0) pe_int (fun _ _ => rfl)) pe_int) (pe_op op_mul (pe_ix ix_list (pv 0) pe_int (fun _ _ => rfl)) pe_int)) pe_int) pa_nil)) pe_int) (pg_sub (pv 0) pe_int set_list))
  (pss_cons (ps_set (i := 3) nd rfl (by first | exact Or.inl rfl | exact Or.inr rfl) (pe_op op_modN (pe_callTy call_int1 (by rfl) T.nint (by decide +kernel) (pa_cons (pe_op op_add (pe_op op_mul (pe_ix ix_list (pv 0) pe_int (fun _ _ => rfl)) (pe_op op_add (pe_ix ix_list (pv 0) pe_int (fun _ _ => rfl)) pe_int)) (pe_op op_mul (pe_ix ix_list (pv 0) pe_int (fun _ _ => rfl)) pe_int)) pa_nil)) pe_int))
  (pss_one (ps_ret (pe_op op_modN (pe_callTy call_int1 (by rfl) T.nint (by decide +kernel) (pa_cons (pe_op op_fdivN (pv 3) pe_int) pa_nil)) (pv 1)))))))), ?_⟩
    refine ⟨_, rfl, p, _, 0, .int a, rfl, rfl, SqL.of hp, atI_nat (j := 0) rfl, _, _, rfl, rfl, _, rfl, ite2 (fun k => ?_) (fun k => ?_)⟩
    · refine ⟨_, rfl, p, _, 0, .int a, rfl, rfl, SqL.of hp, atI_nat (j := 0) rfl, .inl ⟨_, rfl, ?_⟩⟩
      refine ⟨_, rfl, _, _, rfl, rfl, hm0, ?_⟩
      refine ⟨_, rfl, p, _, 0, .int a, rfl, rfl, SqL.of hp, atI_nat (j := 0) rfl, _, rfl, _, _, rfl, rfl, ⟨hm0, by omega⟩, ?_⟩
      refine ⟨_, rfl, p, _, 0, 0, rfl, rfl, hp, rfl, ?_⟩
      refine ⟨_, rfl, q _ _ (Int.fmod_nonneg_of_pos _ hm) (Int.fmod_lt_of_pos _ hm) ⟨a.fdiv m, b, c, upd_same, Int.fdiv_nonneg ha (by omega), hb, hb'⟩ But.upd⟩
    · refine ⟨_, rfl, p, _, 2, .int c, rfl, rfl, SqL.of hp, atI_nat (j := 2) rfl, _, _, rfl, rfl, _, rfl, p, _, 2, 2, rfl, rfl, hp, rfl, ?_⟩
      have h1 : upd H p (.lst [.int a, .int b, .int (c + 1)]) p = some (.lst [.int a, .int b, .int (c + 1)]) := upd_same
      refine ⟨_, rfl, p, _, 1, .int b, rfl, rfl, SqL.of h1, atI_nat (j := 1) rfl, _, _, rfl, rfl, .inr ⟨by decide, by decide⟩, _, rfl, p, _, 2, .int (c + 1), rfl, rfl, SqL.of h1, atI_nat (j := 2) rfl, _, _, rfl, rfl, .inr ⟨by decide, by decide⟩, ?_⟩
      refine ⟨_, _, rfl, rfl, _, _, rfl, rfl, .inl ⟨_, rfl, _, _, rfl, rfl, (by show (2147483647 : Int) ≠ 0; decide), _, rfl, p, _, 1, 1, rfl, rfl, h1, rfl, ?_⟩⟩
      have hb2 : 0 ≤ (b * 48271 + (c + 1) * 69621 + 11).fmod 2147483647 := Int.fmod_nonneg_of_pos _ (by decide)
      have hb3 : (b * 48271 + (c + 1) * 69621 + 11).fmod 2147483647 < 2147483647 := Int.fmod_lt_of_pos _ (by decide)
      have h2 : upd (upd H p (.lst [.int a, .int b, .int (c + 1)])) p (.lst [.int a, .int ((b * 48271 + (c + 1) * 69621 + 11).fmod 2147483647), .int (c + 1)]) p = some (.lst [.int a, .int ((b * 48271 + (c + 1) * 69621 + 11).fmod 2147483647), .int (c + 1)]) := upd_same
      refine ⟨_, rfl, p, _, 1, .int ((b * 48271 + (c + 1) * 69621 + 11).fmod 2147483647), rfl, rfl, SqL.of h2, atI_nat (j := 1) rfl, _, rfl, p, _, 1, .int ((b * 48271 + (c + 1) * 69621 + 11).fmod 2147483647), rfl, rfl, SqL.of h2, atI_nat (j := 1) rfl, _, _, rfl, rfl, _, _, rfl, rfl, .inl ⟨Int.lt_of_lt_of_le (by decide) hb2, Int.lt_trans hb3 (by decide)⟩, ?_⟩
      refine ⟨_, rfl, p, _, 2, .int (c + 1), rfl, rfl, SqL.of h2, atI_nat (j := 2) rfl, _, _, rfl, rfl, .inr ⟨by decide, by decide⟩, _, _, rfl, rfl, .inl ⟨_, rfl, _, _, rfl, rfl, (by show (2147483629 : Int) ≠ 0; decide), ?_⟩⟩
      refine ⟨_, rfl, _, _, rfl, rfl, ⟨by decide, by decide⟩, .inl ⟨_, rfl, _, rfl, _, _, rfl, rfl, hm0, ?_⟩⟩
      exact q _ _ (Int.fmod_nonneg_of_pos _ hm) (Int.fmod_lt_of_pos _ hm) ⟨a, _, c + 1, h2, ha, hb2, hb3⟩ (But.upd.trans But.upd)
/-! ## a source -/
abbrev N__law_source : List Str := ["_law_script", "_law_k", "_law_cell_here", "_law_number", "_law_mixed"]
theorem sc__law_source : FnScope N__law_source ["_law_script", "_law_k"] (defScope s__law_source) := ⟨rfl, rfl, rfl, by decide +kernel, rfl, by decide +kernel, by decide +kernel⟩
theorem ok_source {fd : FuncData} (F : Fun K "_law_source" "_law_source" s__law_source A.f__law_source fd) (T : Tx K mg A) (KCell : Kp P w K mg base CX0 1 A.f__law_cell ["_law_script", "_law_k"] (Ow.spCell K)) :
    FnOk P w K mg base CX0 2 A.f__law_source fd ["_law_script", "_law_k"] (spSrc K) := by
  obtain ⟨fdC, G__law_cell, b__law_cell, k__law_cell⟩ := KCell
  have nd := sc__law_source.nd
  refine F.ok sc__law_source (fun vs H Q E h => ?_) (fun cdv A' outer s H vs Q E hr h => ?_)
  · obtain ⟨l, ns, k, rfl, _⟩ := h
    rfl
  · obtain ⟨l, ns, k, rfl, hS, q⟩ := h
    refine ⟨_, (pss_cons (ps_set (i := 2) nd rfl (by first | exact Or.inl rfl | exact Or.inr rfl) (pe_call G__law_cell (hr.mono (by omega)) rfl T.m_law_cell k__law_cell b__law_cell .nil pass0 (pa_cons (pv 0) (pa_cons (pv 1) pa_nil))))
  (pss_cons (ps_set (i := 3) nd rfl (by first | exact Or.inl rfl | exact Or.inr rfl) (pe_callB call_abs (by rfl) T.nabs (by decide +kernel) (pa_cons (pv 2) pa_nil)))
  (pss_cons (ps_if (pt_cmpR op_ne (pe_op op_shr (pv 3) pe_int) pe_int (nomark _)) (pss_one (ps_set (i := 3) nd rfl (by first | exact Or.inl rfl | exact Or.inr rfl) (pe_op op_modN (pe_callTy call_int1 (by rfl) T.nint (by decide +kernel) (pa_cons (pv 3) pa_nil)) (pe_op op_pow pe_int pe_int)))) pss_nil)
  (pss_cons (ps_set (i := 4) nd rfl (by first | exact Or.inl rfl | exact Or.inr rfl) (pe_op op_modN (pe_callTy call_int1 (by rfl) T.nint (by decide +kernel) (pa_cons (pe_op op_add (pe_op op_add (pe_op op_add (pe_op op_mul (pe_op op_modN (pe_callTy call_int1 (by rfl) T.nint (by decide +kernel) (pa_cons (pv 3) pa_nil)) pe_int) pe_int) (pe_op op_mul pe_int (pv 1))) pe_int) (pe_callTy call_int1 (by rfl) T.nint (by decide +kernel) (pa_cons (pe_cmpR op_lt (pv 2) pe_int (nomark _)) pa_nil))) pa_nil)) pe_int))
  (pss_cons (ps_if (pt_cmpR op_ge (pv 3) (pe_op op_pow pe_int pe_int) (nomark _)) (pss_one (ps_ret (pe_lst (pa_cons (pv 3) (pa_cons (pv 4) (pa_cons pe_int pa_nil)))))) pss_nil)
  (pss_one (ps_ret (pe_lst (pa_cons pe_int (pa_cons (pv 4) (pa_cons pe_int pa_nil))))))))))), ?_⟩
    refine ⟨_, rfl, _, rfl, l, ns, k, rfl, hS, fun z H1 s1 => ?_⟩
    refine ⟨_, rfl, z, rfl, ?_⟩
    have h0 : 0 ≤ (if z < 0 then -z else z) := by split <;> omega
    generalize (if z < 0 then -z else z) = n at h0 ⊢
    refine ⟨_, rfl, _, _, rfl, rfl, (by show (0 : Int) ≤ 36000; decide), rfl, _, rfl, ite2 (fun c => ?_) (fun c => ?_)⟩
    · refine ⟨_, rfl, .inl ⟨_, rfl, _, _, rfl, rfl, ⟨by decide, by decide, by decide⟩, _, _, rfl, rfl, (by show ((10 : Int) ^ (60 : Int).toNat) ≠ 0; decide), ?_⟩⟩
      have h1 : 0 ≤ n.fmod ((10 : Int) ^ (60 : Int).toNat) := Int.fmod_nonneg_of_pos _ (by decide)
      refine ⟨_, rfl, .inl ⟨_, rfl, _, _, rfl, rfl, (by show (2147483629 : Int) ≠ 0; decide), _, _, rfl, rfl, .inr ⟨by decide, by decide⟩, _, rfl, _, _, rfl, rfl, .inl ⟨by decide, by decide⟩, _, _, rfl, rfl, _, _, rfl, rfl, ?_⟩⟩
      refine ⟨_, rfl, _, _, rfl, rfl, .inr ⟨_, rfl, _, _, rfl, rfl, .inl ⟨_, rfl, _, _, rfl, rfl, (by show (2147483647 : Int) ≠ 0; decide), ?_⟩⟩⟩
      refine ⟨_, rfl, _, _, rfl, rfl, ⟨by decide, by decide, by decide⟩, _, _, rfl, rfl, _, rfl, ite2 (fun c => ?_) (fun c => ?_)⟩
      · refine ⟨_, rfl, _, rfl, (by show 3 ≤ sizeLine; decide), fun p hp => ?_⟩
        exact q p _ (s1.trans (same_new hp)) (s1.free hp) ⟨_, _, _, upd_same, h1, Int.fmod_nonneg_of_pos _ (by decide), Int.fmod_lt_of_pos _ (by decide)⟩
      · refine ⟨_, rfl, (by show 3 ≤ sizeLine; decide), fun p hp => ?_⟩
        exact q p _ (s1.trans (same_new hp)) (s1.free hp) ⟨_, _, _, upd_same, by decide, Int.fmod_nonneg_of_pos _ (by decide), Int.fmod_lt_of_pos _ (by decide)⟩
    · refine ⟨_, rfl, .inl ⟨_, rfl, _, _, rfl, rfl, (by show (2147483629 : Int) ≠ 0; decide), _, _, rfl, rfl, .inr ⟨by decide, by decide⟩, _, rfl, _, _, rfl, rfl, .inl ⟨by decide, by decide⟩, _, _, rfl, rfl, _, _, rfl, rfl, ?_⟩⟩
      refine ⟨_, rfl, _, _, rfl, rfl, .inr ⟨_, rfl, _, _, rfl, rfl, .inl ⟨_, rfl, _, _, rfl, rfl, (by show (2147483647 : Int) ≠ 0; decide), ?_⟩⟩⟩
      refine ⟨_, rfl, _, _, rfl, rfl, ⟨by decide, by decide, by decide⟩, _, _, rfl, rfl, _, rfl, ite2 (fun c => ?_) (fun c => ?_)⟩
      · refine ⟨_, rfl, _, rfl, (by show 3 ≤ sizeLine; decide), fun p hp => ?_⟩
        exact q p _ (s1.trans (same_new hp)) (s1.free hp) ⟨_, _, _, upd_same, h0, Int.fmod_nonneg_of_pos _ (by decide), Int.fmod_lt_of_pos _ (by decide)⟩
      · refine ⟨_, rfl, (by show 3 ≤ sizeLine; decide), fun p hp => ?_⟩
        exact q p _ (s1.trans (same_new hp)) (s1.free hp) ⟨_, _, _, upd_same, by decide, Int.fmod_nonneg_of_pos _ (by decide), Int.fmod_lt_of_pos _ (by decide)⟩
/-! ## the asks -/
abbrev N__law_asks : List Str := ["_law_source_here"]
theorem sc__law_asks : FnScope N__law_asks ["_law_source_here"] (defScope s__law_asks) := ⟨rfl, rfl, rfl, by decide +kernel, rfl, by decide +kernel, by decide +kernel⟩
theorem ok_lasks {fd : FuncData} (F : Fun K "_law_asks" "_law_asks" s__law_asks A.f__law_asks fd) (T : Tx K mg A) (KDraw : Kp P w K mg base CX0 1 A.f__law_draw ["_law_source_here", "_law_many"] spDraw) :
    FnOk P w K mg base CX0 2 A.f__law_asks fd ["_law_source_here"] spLAsks := by
  obtain ⟨fdD, G__law_draw, b__law_draw, k__law_draw⟩ := KDraw
  have nd := sc__law_asks.nd
  refine F.ok sc__law_asks (fun vs H Q E h => ?_) (fun cdv A' outer s H vs Q E hr h => ?_)
  · obtain ⟨p, rfl, _⟩ := h
    rfl
  · obtain ⟨p, rfl, hp, q⟩ := h
    refine ⟨_, (pss_one (ps_ret (pe_ix ix_list (pe_lst (pa_cons pe_str (pa_cons pe_str (pa_cons pe_str (pa_cons pe_str (pa_cons pe_str (pa_cons pe_str (pa_cons pe_str (pa_cons pe_str pa_nil))))))))) (pe_call G__law_draw (hr.mono (by omega)) rfl T.m_law_draw k__law_draw b__law_draw .nil pass0 (pa_cons (pv 0) (pa_cons pe_int pa_nil))) (fun _ _ => rfl)))), ?_⟩
    refine ⟨(by show 8 ≤ sizeLine; decide), fun l hl => ?_⟩
    have hs := same_new (o := .lst [.str "ab", .str "ab", .str "bf", .str "acd", .str "ah", .str "a", .str "ab", .str "ce"]) hl
    have hlp : l ≠ p := by
      obtain ⟨o, ho⟩ := hp.some
      exact (ne_of_none ho hl).symm
    refine ⟨_, rfl, p, 8, rfl, hp.same hs, by decide, by decide, fun d H1 d0 d1 g1 b1 => ?_⟩
    obtain ⟨j, rfl⟩ : ∃ j : Nat, d = (j : Int) := ⟨d.toNat, by omega⟩
    have hj : j < menuA.length := by
      show j < 8
      omega
    refine ⟨l, _, _, .str menuA[j], rfl, rfl, SqL.of (b1 l _ upd_same hlp), atI_nat ?_, q _ H1 (List.getElem_mem hj) g1 ((But.of hs).trans b1)⟩
    show (menuA.map V.str)[j]? = some (V.str menuA[j])
    rw [List.getElem?_map, List.getElem?_eq_getElem hj]
    rfl
end
end As

namespace Ow
open PySem PySem.Spec PyProof.Rows L2
/-! ## data of ints, texts and tuples -/
mutual
inductive Dt (H : Hp) : V → PyData → Prop
  | non : Dt H .non .none
  | bl (b : Bool) : Dt H (.bl b) (.bool b)
  | int (i : Int) : Dt H (.int i) (.int i)
  | str (z : Str) : Dt H (.str z) (.str z)
  | tup {a : Addr} {xs : List V} {ds : List PyData} (h : H a = some (.tup xs)) (r : DtAll H xs ds) : Dt H (.ref a) (.tuple ds)
inductive DtAll (H : Hp) : List V → List PyData → Prop
  | nil : DtAll H [] []
  | cons {x : V} {xs : List V} {d : PyData} {ds : List PyData} (h : Dt H x d) (r : DtAll H xs ds) : DtAll H (x :: xs) (d :: ds)
end
mutual
theorem Dt.mono {H H' : Hp} (e : Same H H') : ∀ {x : V} {d : PyData}, Dt H x d → Dt H' x d
  | _, _, .non => .non
  | _, _, .bl b => .bl b
  | _, _, .int i => .int i
  | _, _, .str z => .str z
  | _, _, .tup h r => .tup (e _ _ h) (DtAll.mono e r)
theorem DtAll.mono {H H' : Hp} (e : Same H H') : ∀ {xs : List V} {ds : List PyData}, DtAll H xs ds → DtAll H' xs ds
  | _, _, .nil => .nil
  | _, _, .cons h r => .cons (Dt.mono e h) (DtAll.mono e r)
end
theorem DtAll.len {H : Hp} : ∀ {xs : List V} {ds : List PyData}, DtAll H xs ds → xs.length = ds.length
  | _, _, .nil => rfl
  | _, _, .cons _ r => by rw [List.length_cons, List.length_cons, DtAll.len r]
theorem DtAll.get {H : Hp} : ∀ {xs : List V} {ds : List PyData}, DtAll H xs ds → ∀ {i : Nat} {x : V}, xs[i]? = some x → ∃ d, ds[i]? = some d ∧ Dt H x d
  | _, _, .nil, _, _, h => by simp at h
  | _, _, .cons (d := d) h r, 0, x, e => ⟨d, rfl, by
    have e' := Option.some.inj e
    rw [← e']
    exact h⟩
  | _, _, .cons h r, i + 1, x, e => DtAll.get r (i := i) e
theorem depth_le : ∀ {ds : List PyData} {i : Nat} {d : PyData}, ds[i]? = some d → d.depth ≤ PyData.depthAll ds
  | [], _, _, h => by simp at h
  | x :: xs, 0, d, h => by
    have e := Option.some.inj h
    subst e
    rw [PyData.depthAll]
    exact Nat.le_max_left _ _
  | x :: xs, i + 1, d, h => by
    rw [PyData.depthAll]
    exact Nat.le_trans (depth_le (ds := xs) (i := i) h) (Nat.le_max_right _ _)
def spInt : Sp := fun vs H Q _ => (∃ i : Int, vs = [.int i] ∧ Q (.bl true) H) ∨ ∃ b : Bool, vs = [.bl b] ∧ Q (.bl false) H
/-- the same data told and due, at most n deep -/
def spExD (n : Nat) : Sp := fun vs H Q _ => ∃ (x y : V) (d : PyData), vs = [x, y] ∧ Dt H x d ∧ Dt H y d ∧ d.depth ≤ n ∧ ∀ H', Same H H' → Q (.bl true) H'
end Ow
namespace As
open PySem PySem.Spec PyProof.Rows L2 Ow
section
variable {P : Program} {w : World} {K : PySem.W.Frag} {mg : Str → Option Value} {base : Heap} {A : Ad}
abbrev N__law_is_int : List Str := ["_law_thing"]
theorem sc__law_is_int : FnScope N__law_is_int ["_law_thing"] (defScope s__law_is_int) := ⟨rfl, rfl, rfl, by decide +kernel, rfl, by decide +kernel, by decide +kernel⟩
theorem ok_lint {fd : FuncData} (F : Fun K "_law_is_int" "_law_is_int" s__law_is_int A.f__law_is_int fd) (T : Tx K mg A) : FnOk P w K mg base CX0 1 A.f__law_is_int fd ["_law_thing"] spInt := by
  have nd := sc__law_is_int.nd
  refine F.ok sc__law_is_int (fun vs H Q E h => ?_) (fun cdv A' outer s H vs Q E hr h => ?_)
  · rcases h with ⟨i, rfl, _⟩ | ⟨b, rfl, _⟩ <;> rfl
  · refine ⟨_, (pss_one (ps_ret (pe_and (pe_callB call_isi (by rfl) T.nisinstance (by decide +kernel) (pa_cons (pv 0) (pa_cons (pe_bltn (v := .ty "int") (by rfl) T.nint (by decide +kernel) rfl) pa_nil))) (pe_one (pe_not (pe_callB call_isi (by rfl) T.nisinstance (by decide +kernel) (pa_cons (pv 0) (pa_cons (pe_bltn (v := .ty "bool") (by rfl) T.nbool (by decide +kernel) rfl) pa_nil)))))))), ?_⟩
    rcases h with ⟨i, rfl, q⟩ | ⟨b, rfl, q⟩
    · refine ⟨_, rfl, _, _, _, _, true, rfl, .ty _, .base (.int _), kit_ty (by decide +kernel), _, rfl, iteT ?_⟩
      exact ⟨_, rfl, _, _, _, _, false, rfl, .ty _, .base (.int _), kit_ty (by decide +kernel), _, rfl, q⟩
    · refine ⟨_, rfl, _, _, _, _, true, rfl, .ty _, .base (.bl _), kit_ty (by decide +kernel), _, rfl, iteT ?_⟩
      exact ⟨_, rfl, _, _, _, _, true, rfl, .ty _, .base (.bl _), kit_ty (by decide +kernel), _, rfl, q⟩
abbrev N__law_exact : List Str := ["_law_told", "_law_due", "_law_one", "_law_other_here"]
theorem sc__law_exact : FnScope N__law_exact ["_law_told", "_law_due"] (defScope s__law_exact) := ⟨rfl, rfl, rfl, by decide +kernel, rfl, by decide +kernel, by decide +kernel⟩
theorem ok_never {x qual : Str} {st : Stmt} {f : Addr} {fd : FuncData} {N ps : List Str} {k : Nat} (F : Fun K x qual st f fd) (S : FnScope N ps (defScope st)) : FnOk P w K mg base CX0 (k + 1) f fd ps (fun _ _ _ _ => False) :=
  F.ok S (fun _ _ _ _ h => h.elim) (fun _ _ _ _ _ _ _ _ _ h => h.elim)
/-- one step: what is less deep is judged by the def itself -/
theorem ok_exStep {fd : FuncData} {n k : Nat} {sp2 : Sp} (hk : 1 ≤ k) (F : Fun K "_law_exact" "_law_exact" s__law_exact A.f__law_exact fd) (T : Tx K mg A) (KInt : Kp P w K mg base CX0 1 A.f__law_is_int ["_law_thing"] spInt)
    (KExact : Kp P w K mg base CX0 k A.f__law_exact ["_law_told", "_law_due"] sp2) (hs : ∀ m vs H Q E, m + 1 = n → spExD m vs H Q E → sp2 vs H Q E) : FnOk P w K mg base CX0 (k + 1) A.f__law_exact fd ["_law_told", "_law_due"] (spExD n) := by
  obtain ⟨fdI, G__law_is_int, b__law_is_int, k__law_is_int⟩ := KInt
  obtain ⟨fdE, G__law_exact, b__law_exact, k__law_exact⟩ := KExact
  have nd := sc__law_exact.nd
  refine F.ok sc__law_exact (fun vs H Q E h => ?_) (fun cdv A' outer s H vs Q E hr h => ?_)
  · obtain ⟨x, y, d, rfl, _⟩ := h
    rfl
  · obtain ⟨x, y, d, rfl, hx, hy, hn, q⟩ := h
    refine ⟨_, (pss_cons (ps_if (pt_val (pe_callB call_isi (by rfl) T.nisinstance (by decide +kernel) (pa_cons (pv 1) (pa_cons (pe_bltn (v := .ty "tuple") (by rfl) T.ntuple (by decide +kernel) rfl) pa_nil)))) (pss_cons (ps_if (PW.pt (pw_or (pt_not (pt_val (pe_callB call_isi (by rfl) T.nisinstance (by decide +kernel) (pa_cons (pv 0) (pa_cons (pe_bltn (v := .ty "tuple") (by rfl) T.ntuple (by decide +kernel) rfl) pa_nil))))) (pw_or1 (pt_cmpR op_ne (pe_callB call_len (by rfl) T.nlen (by decide +kernel) (pa_cons (pv 0) pa_nil)) (pe_callB call_len (by rfl) T.nlen (by decide +kernel) (pa_cons (pv 1) pa_nil)) (nomark _))))) (pss_one (ps_ret pe_bl)) pss_nil)
  (pss_cons (ps_for PassesOwn.never rfl (RZ.pi_zipA (by rfl) T.nzip (pa_cons (pv 0) (pa_cons (pv 1) pa_nil))) (pg_tup (by rfl) (pgs_cons (pg_name (i := 2) nd rfl (by first | exact Or.inl rfl | exact Or.inr rfl)) (pgs_cons (pg_name (i := 3) nd rfl (by first | exact Or.inl rfl | exact Or.inr rfl)) pgs_nil))) (pss_one (ps_if (pt_not (pt_val (pe_call G__law_exact (hr.mono (by omega)) rfl T.m_law_exact k__law_exact b__law_exact .nil pass0 (pa_cons (pv 2) (pa_cons (pv 3) pa_nil))))) (pss_one (ps_ret pe_bl)) pss_nil)))
  (pss_one (ps_ret pe_bl)))) pss_nil)
  (pss_cons (ps_if (pt_cmpR op_isN (pv 1) pe_non (nomark _)) (pss_one (ps_ret (pe_cmpR op_isN (pv 0) pe_non (nomark _)))) pss_nil)
  (pss_cons (ps_if (pt_cmpR op_isB1 (pv 1) pe_bl (nomark _)) (pss_one (ps_ret (pe_cmpR op_isB1 (pv 0) pe_bl (nomark _)))) pss_nil)
  (pss_cons (ps_if (pt_cmpR op_isB1 (pv 1) pe_bl (nomark _)) (pss_one (ps_ret (pe_cmpR op_isB1 (pv 0) pe_bl (nomark _)))) pss_nil)
  (pss_cons (ps_if (pt_val (pe_callB call_isi (by rfl) T.nisinstance (by decide +kernel) (pa_cons (pv 1) (pa_cons (pe_bltn (v := .ty "str") (by rfl) T.nstr (by decide +kernel) rfl) pa_nil)))) (pss_one (ps_ret (pe_and (pe_callB call_isi (by rfl) T.nisinstance (by decide +kernel) (pa_cons (pv 0) (pa_cons (pe_bltn (v := .ty "str") (by rfl) T.nstr (by decide +kernel) rfl) pa_nil))) (pe_one (pe_cmpR op_eq (pv 0) (pv 1) (nomark _)))))) pss_nil)
  (pss_one (ps_ret (pe_and (pe_call G__law_is_int (hr.mono (by omega)) rfl T.m_law_is_int k__law_is_int b__law_is_int .nil pass0 (pa_cons (pv 0) pa_nil)) (pe_one (pe_cmpR op_eq (pv 0) (pv 1) (nomark _))))))))))), ?_⟩
    cases hy with
    | non =>
      cases hx
      refine ⟨_, rfl, _, _, _, _, false, rfl, .ty _, .base .non, kit_ty (by decide +kernel), _, rfl, iteF ?_⟩
      refine ⟨_, rfl, rfl, _, rfl, iteY rfl ?_⟩
      refine ⟨_, rfl, rfl, ?_⟩
      show Q (.bl (decide (V.non = V.non))) H
      rw [decide_eq_true rfl]
      exact q H (Same.refl H)
    | bl b =>
      cases hx
      refine ⟨_, rfl, _, _, _, _, false, rfl, .ty _, .base (.bl _), kit_ty (by decide +kernel), _, rfl, iteF ?_⟩
      refine ⟨_, rfl, rfl, _, rfl, iteN (fun z => nomatch z) ?_⟩
      cases b with
      | true =>
        refine ⟨_, rfl, _, rfl, trivial, _, rfl, iteY rfl ?_⟩
        refine ⟨_, rfl, _, rfl, trivial, ?_⟩
        show Q (.bl (decide (V.bl true = V.bl true))) H
        rw [decide_eq_true rfl]
        exact q H (Same.refl H)
      | false =>
        refine ⟨_, rfl, _, rfl, trivial, _, rfl, iteN (fun z => nomatch z) ?_⟩
        refine ⟨_, rfl, _, rfl, trivial, _, rfl, iteY rfl ?_⟩
        refine ⟨_, rfl, _, rfl, trivial, ?_⟩
        show Q (.bl (decide (V.bl false = V.bl false))) H
        rw [decide_eq_true rfl]
        exact q H (Same.refl H)
    | int i =>
      cases hx
      refine ⟨_, rfl, _, _, _, _, false, rfl, .ty _, .base (.int _), kit_ty (by decide +kernel), _, rfl, iteF ?_⟩
      refine ⟨_, rfl, rfl, _, rfl, iteN (fun z => nomatch z) ?_⟩
      refine ⟨_, rfl, _, rfl, trivial, _, rfl, iteN (fun z => nomatch z) ?_⟩
      refine ⟨_, rfl, _, rfl, trivial, _, rfl, iteN (fun z => nomatch z) ?_⟩
      refine ⟨_, rfl, _, _, _, _, false, rfl, .ty _, .base (.int _), kit_ty (by decide +kernel), _, rfl, iteF ?_⟩
      refine ⟨_, rfl, .inl ⟨i, rfl, _, rfl, iteT ?_⟩⟩
      refine ⟨_, rfl, _, rfl, rfl, ?_⟩
      show Q (.bl (decide (V.int i = V.int i))) H
      rw [decide_eq_true rfl]
      exact q H (Same.refl H)
    | str a =>
      cases hx
      refine ⟨_, rfl, _, _, _, _, false, rfl, .ty _, .base (.str _), kit_ty (by decide +kernel), _, rfl, iteF ?_⟩
      refine ⟨_, rfl, rfl, _, rfl, iteN (fun z => nomatch z) ?_⟩
      refine ⟨_, rfl, _, rfl, trivial, _, rfl, iteN (fun z => nomatch z) ?_⟩
      refine ⟨_, rfl, _, rfl, trivial, _, rfl, iteN (fun z => nomatch z) ?_⟩
      refine ⟨_, rfl, _, _, _, _, true, rfl, .ty _, .base (.str _), kit_ty (by decide +kernel), _, rfl, iteT ?_⟩
      refine ⟨_, rfl, _, _, _, _, true, rfl, .ty _, .base (.str _), kit_ty (by decide +kernel), _, rfl, iteT ?_⟩
      refine ⟨_, rfl, _, rfl, rfl, ?_⟩
      show Q (.bl (decide (V.str a = V.str a))) H
      rw [decide_eq_true rfl]
      exact q H (Same.refl H)
    | @tup r ys ds hr2 ry =>
      cases hx with
      | @tup p xs _ hp rx =>
        obtain ⟨m, rfl⟩ : ∃ m, m + 1 = n := ⟨n - 1, by rw [PyData.depth] at hn; omega⟩
        have hd : PyData.depthAll ds ≤ m := by
          rw [PyData.depth] at hn
          omega
        have el : xs.length = ys.length := rx.len.trans ry.len.symm
        refine ⟨_, rfl, _, _, _, _, true, rfl, .ty _, .base (.tup hr2), kit_ty (by decide +kernel), _, rfl, iteT ?_⟩
        refine ⟨_, rfl, _, _, _, _, true, rfl, .ty _, .base (.tup hp), kit_ty (by decide +kernel), _, rfl, iteF ?_⟩
        refine ⟨_, rfl, V.ref p, _, rfl, .inr ⟨_, SqT.of hp, rfl⟩, _, rfl, V.ref r, _, rfl, .inr ⟨_, SqT.of hr2, rfl⟩, rfl, _, rfl, iteNS (by rw [el]) ?_⟩
        refine ⟨_, rfl, _, rfl, p, r, _, _, rfl, .inr ⟨SqT.of hp, SqT.of hr2, RZ.for_zipT el (fun _ σ H' => ∃ o2 o3, σ = [some (.ref p), some (.ref r), o2, o3] ∧ Same H H') ⟨none, none, rfl, Same.refl H⟩ (fun i σ H' ⟨_, _, _, sm⟩ => ⟨SqT.of (sm _ _ hp), SqT.of (sm _ _ hr2)⟩) ?_ ?_⟩⟩
        · rintro i x y U σ H' hx hy ⟨o2, o3, rfl, sm⟩ hU
          obtain ⟨d1, e1, t1⟩ := rx.get hx
          obtain ⟨d2, e2, t2⟩ := ry.get hy
          obtain rfl : d1 = d2 := Option.some.inj (e1.symm.trans e2)
          have s2 := sm.trans (same_new (o := .tup [x, y]) hU)
          refine ⟨U, _, rfl, SqT.of upd_same, rfl, _, _, rfl, _, _, rfl, rfl, ?_⟩
          refine ⟨_, rfl, _, rfl, hs m _ _ _ _ rfl ⟨x, y, d1, rfl, t1.mono s2, t2.mono s2, Nat.le_trans (depth_le e1) hd, fun H2 s3 => ⟨_, rfl, iteF ?_⟩⟩⟩
          exact ⟨_, _, rfl, s2.trans s3⟩
        · rintro σ H' ⟨o2, o3, rfl, sm⟩
          exact q H' sm
theorem ok_ex {fd : FuncData} (F : Fun K "_law_exact" "_law_exact" s__law_exact A.f__law_exact fd) (T : Tx K mg A) (KInt : Kp P w K mg base CX0 1 A.f__law_is_int ["_law_thing"] spInt) (b : Binds K fd ["_law_told", "_law_due"] []) :
    ∀ n, FnOk P w K mg base CX0 (n + 2) A.f__law_exact fd ["_law_told", "_law_due"] (spExD n)
  | 0 => ok_exStep (Nat.le_refl 1) F T KInt ⟨fd, ok_never (k := 0) F sc__law_exact, b, F.kp⟩ fun m _ _ _ _ e => absurd e (by omega)
  | n + 1 => ok_exStep (by omega) F T KInt ⟨fd, ok_ex F T KInt b n, b, F.kp⟩ fun m _ _ _ _ e h => by
    obtain rfl : m = n := by omega
    exact h
end
end As

namespace Ow
open PySem PySem.Spec PyProof.Rows L2
/-! ## things as they may be passed: data with lists, and an empty dict -/
mutual
inductive Th (H : Hp) : V → PyData → Prop
  | non : Th H .non .none
  | bl (b : Bool) : Th H (.bl b) (.bool b)
  | int (i : Int) : Th H (.int i) (.int i)
  | str {z : Str} (h : z.length ≤ sizeLine) : Th H (.str z) (.str z)
  | lst {a : Addr} {xs : List V} {ds : List PyData} (h : H a = some (.lst xs)) (hz : xs.length ≤ sizeLine) (r : ThAll H xs ds) : Th H (.ref a) (.list ds)
  | tup {a : Addr} {xs : List V} {ds : List PyData} (h : H a = some (.tup xs)) (hz : xs.length ≤ sizeLine) (r : ThAll H xs ds) : Th H (.ref a) (.tuple ds)
  | dct {a : Addr} (h : H a = some (.dK [])) : Th H (.ref a) (.dict [])
inductive ThAll (H : Hp) : List V → List PyData → Prop
  | nil : ThAll H [] []
  | cons {x : V} {xs : List V} {d : PyData} {ds : List PyData} (h : Th H x d) (r : ThAll H xs ds) : ThAll H (x :: xs) (d :: ds)
end
mutual
theorem Th.mono {H H' : Hp} (e : Same H H') : ∀ {x : V} {d : PyData}, Th H x d → Th H' x d
  | _, _, .non => .non
  | _, _, .bl b => .bl b
  | _, _, .int i => .int i
  | _, _, .str h => .str h
  | _, _, .lst h z r => .lst (e _ _ h) z (ThAll.mono e r)
  | _, _, .tup h z r => .tup (e _ _ h) z (ThAll.mono e r)
  | _, _, .dct h => .dct (e _ _ h)
theorem ThAll.mono {H H' : Hp} (e : Same H H') : ∀ {xs : List V} {ds : List PyData}, ThAll H xs ds → ThAll H' xs ds
  | _, _, .nil => .nil
  | _, _, .cons h r => .cons (Th.mono e h) (ThAll.mono e r)
end
theorem ThAll.len {H : Hp} : ∀ {xs : List V} {ds : List PyData}, ThAll H xs ds → xs.length = ds.length
  | _, _, .nil => rfl
  | _, _, .cons _ r => by rw [List.length_cons, List.length_cons, ThAll.len r]
theorem ThAll.get {H : Hp} : ∀ {xs : List V} {ds : List PyData}, ThAll H xs ds → ∀ {i : Nat} {x : V}, xs[i]? = some x → ∃ d, ds[i]? = some d ∧ Th H x d
  | _, _, .nil, _, _, h => by simp at h
  | _, _, .cons (d := d) h r, 0, x, e => ⟨d, rfl, by
    have e' := Option.some.inj e
    rw [← e']
    exact h⟩
  | _, _, .cons h r, i + 1, x, e => ThAll.get r (i := i) e
def nameD : PyData → String
  | .none => "NoneType"
  | .bool _ => "bool"
  | .int _ => "int"
  | .str _ => "str"
  | .list _ => "list"
  | .tuple _ => "tuple"
  | .dict _ => "dict"
theorem Th.ty {K : PySem.W.Frag} {H : Hp} {x : V} {d : PyData} (h : Th H x d) : TyX K H x (.type (nameD d)) := by
  cases h with
  | non => exact .base .non
  | bl b => exact .base (.bl b)
  | int i => exact .base (.int i)
  | str h => exact .base (.str _)
  | lst h z r => exact .base (.lst h)
  | tup h z r => exact .base (.tup h)
  | dct h => exact .base (.dK h)
def isIntD : PyData → Bool
  | .int _ => true
  | _ => false
def isTupD : PyData → Bool
  | .list _ => true
  | .tuple _ => true
  | _ => false
def itemsD : PyData → List PyData
  | .list ds => ds
  | .tuple ds => ds
  | _ => []
def belowD (n : Int) : PyData → Bool
  | .int i => decide (0 ≤ i) && decide (i < n)
  | _ => false
def tupOfD (d : PyData) (n : Int) : Bool := isTupD d && decide (((itemsD d).length : Int) = n)
def intsD (d : PyData) (n : Int) : Bool := tupOfD d n && (itemsD d).all isIntD
theorem kit_int : ∀ d : PyData, kitB (nameD d) "int" = some (match d with | .int _ => true | .bool _ => true | _ => false)
  | .none => (by decide +kernel : kitB "NoneType" "int" = some false)
  | .bool _ => (by decide +kernel : kitB "bool" "int" = some true)
  | .int _ => (by decide +kernel : kitB "int" "int" = some true)
  | .str _ => (by decide +kernel : kitB "str" "int" = some false)
  | .list _ => (by decide +kernel : kitB "list" "int" = some false)
  | .tuple _ => (by decide +kernel : kitB "tuple" "int" = some false)
  | .dict _ => (by decide +kernel : kitB "dict" "int" = some false)
theorem kit_bool : ∀ d : PyData, kitB (nameD d) "bool" = some (match d with | .bool _ => true | _ => false)
  | .none => (by decide +kernel : kitB "NoneType" "bool" = some false)
  | .bool _ => (by decide +kernel : kitB "bool" "bool" = some true)
  | .int _ => (by decide +kernel : kitB "int" "bool" = some false)
  | .str _ => (by decide +kernel : kitB "str" "bool" = some false)
  | .list _ => (by decide +kernel : kitB "list" "bool" = some false)
  | .tuple _ => (by decide +kernel : kitB "tuple" "bool" = some false)
  | .dict _ => (by decide +kernel : kitB "dict" "bool" = some false)
theorem kit_tups {K : PySem.W.Frag} : ∀ d : PyData, PySem.W.kitAny K (.type (nameD d)) [.type "list", .type "tuple"] = some (isTupD d)
  | .none => kitAny_cons (b := false) (kit_ty (by decide +kernel : kitB "NoneType" "list" = some false)) (fun _ => kitAny_cons (b := false) (kit_ty (by decide +kernel : kitB "NoneType" "tuple" = some false)) (fun _ => rfl) nofun) nofun
  | .bool _ => kitAny_cons (b := false) (kit_ty (by decide +kernel : kitB "bool" "list" = some false)) (fun _ => kitAny_cons (b := false) (kit_ty (by decide +kernel : kitB "bool" "tuple" = some false)) (fun _ => rfl) nofun) nofun
  | .int _ => kitAny_cons (b := false) (kit_ty (by decide +kernel : kitB "int" "list" = some false)) (fun _ => kitAny_cons (b := false) (kit_ty (by decide +kernel : kitB "int" "tuple" = some false)) (fun _ => rfl) nofun) nofun
  | .str _ => kitAny_cons (b := false) (kit_ty (by decide +kernel : kitB "str" "list" = some false)) (fun _ => kitAny_cons (b := false) (kit_ty (by decide +kernel : kitB "str" "tuple" = some false)) (fun _ => rfl) nofun) nofun
  | .list _ => kitAny_cons (b := true) (kit_ty (by decide +kernel : kitB "list" "list" = some true)) nofun (fun _ => rfl)
  | .tuple _ => kitAny_cons (b := false) (kit_ty (by decide +kernel : kitB "tuple" "list" = some false)) (fun _ => kitAny_cons (b := true) (kit_ty (by decide +kernel : kitB "tuple" "tuple" = some true)) nofun (fun _ => rfl)) nofun
  | .dict _ => kitAny_cons (b := false) (kit_ty (by decide +kernel : kitB "dict" "list" = some false)) (fun _ => kitAny_cons (b := false) (kit_ty (by decide +kernel : kitB "dict" "tuple" = some false)) (fun _ => rfl) nofun) nofun
theorem Th.seq {K : PySem.W.Frag} {H : Hp} {x : V} {d : PyData} (h : Th H x d) (t : isTupD d = true) : ∃ a xs, x = .ref a ∧ (SqL K H a xs ∨ SqT K H a xs) ∧ xs.length ≤ sizeLine ∧ ThAll H xs (itemsD d) := by
  cases h with
  | lst h z r => exact ⟨_, _, rfl, .inl (SqL.of h), z, r⟩
  | tup h z r => exact ⟨_, _, rfl, .inr (SqT.of h), z, r⟩
  | _ => cases t
def spIsInt : Sp := fun vs H Q _ => ∃ (x : V) (d : PyData), vs = [x] ∧ Th H x d ∧ Q (.bl (isIntD d)) H
def spIsTup : Sp := fun vs H Q _ => ∃ (x : V) (d : PyData), vs = [x] ∧ Th H x d ∧ ∀ H', Same H H' → Q (.bl (isTupD d)) H'
def spBelow : Sp := fun vs H Q _ => ∃ (x : V) (d : PyData) (n : Int), vs = [x, .int n] ∧ Th H x d ∧ Q (.bl (belowD n d)) H
def spTupOf : Sp := fun vs H Q _ => ∃ (x : V) (d : PyData) (n : Int), vs = [x, .int n] ∧ Th H x d ∧ ∀ H', Same H H' → Q (.bl (tupOfD d n)) H'
def spInts : Sp := fun vs H Q _ => ∃ (x : V) (d : PyData) (n : Int), vs = [x, .int n] ∧ Th H x d ∧ ∀ H', Same H H' → Q (.bl (intsD d n)) H'
end Ow
namespace As
open PySem PySem.Spec PyProof.Rows L2 Ow
section
variable {P : Program} {w : World} {K : PySem.W.Frag} {mg : Str → Option Value} {base : Heap} {A : Ad}
abbrev N_is_integer : List Str := ["thing"]
theorem sc_is_integer : FnScope N_is_integer ["thing"] (defScope s_is_integer) := ⟨rfl, rfl, rfl, by decide +kernel, rfl, by decide +kernel, by decide +kernel⟩
theorem ok_isint {fd : FuncData} (F : Fun K "is_integer" "is_integer" s_is_integer A.f_is_integer fd) (T : Tx K mg A) : FnOk P w K mg base CX0 1 A.f_is_integer fd ["thing"] spIsInt := by
  have nd := sc_is_integer.nd
  refine F.ok sc_is_integer (fun vs H Q E h => ?_) (fun cdv A' outer s H vs Q E hr h => ?_)
  · obtain ⟨x, d, rfl, _⟩ := h
    rfl
  · obtain ⟨x, d, rfl, hx, q⟩ := h
    refine ⟨_, (pss_one (ps_ret (pe_and (pe_callB call_isi (by rfl) T.nisinstance (by decide +kernel) (pa_cons (pv 0) (pa_cons (pe_bltn (v := .ty "int") (by rfl) T.nint (by decide +kernel) rfl) pa_nil))) (pe_one (pe_not (pe_callB call_isi (by rfl) T.nisinstance (by decide +kernel) (pa_cons (pv 0) (pa_cons (pe_bltn (v := .ty "bool") (by rfl) T.nbool (by decide +kernel) rfl) pa_nil)))))))), ?_⟩
    refine ⟨_, rfl, _, _, _, _, _, rfl, .ty _, hx.ty, kit_ty (kit_int d), ?_⟩
    refine ⟨_, rfl, ?_⟩
    cases d
    all_goals first
      | exact iteF q
      | (refine iteT ⟨_, rfl, _, _, _, _, _, rfl, .ty _, hx.ty, kit_ty (kit_bool _), _, rfl, ?_⟩
         exact q)
abbrev N_is_tuple : List Str := ["thing"]
theorem sc_is_tuple : FnScope N_is_tuple ["thing"] (defScope s_is_tuple) := ⟨rfl, rfl, rfl, by decide +kernel, rfl, by decide +kernel, by decide +kernel⟩
theorem ok_istup {fd : FuncData} (F : Fun K "is_tuple" "is_tuple" s_is_tuple A.f_is_tuple fd) (T : Tx K mg A) : FnOk P w K mg base CX0 1 A.f_is_tuple fd ["thing"] spIsTup := by
  have nd := sc_is_tuple.nd
  refine F.ok sc_is_tuple (fun vs H Q E h => ?_) (fun cdv A' outer s H vs Q E hr h => ?_)
  · obtain ⟨x, d, rfl, _⟩ := h
    rfl
  · obtain ⟨x, d, rfl, hx, q⟩ := h
    refine ⟨_, (pss_one (ps_ret (pe_callB call_isiT (by rfl) T.nisinstance (by decide +kernel) (pa_cons (pv 0) (pa_cons (pe_tup (pa_cons (pe_bltn (v := .ty "list") (by rfl) T.nlist (by decide +kernel) rfl) (pa_cons (pe_bltn (v := .ty "tuple") (by rfl) T.ntuple (by decide +kernel) rfl) pa_nil))) pa_nil))))), ?_⟩
    refine ⟨_, rfl, (by show 2 ≤ sizeLine; decide), fun p hp => ?_⟩
    exact ⟨_, p, _, _, _, _, rfl, upd_same, .cons (.ty _) (.cons (.ty _) .nil), (hx.mono (same_new hp)).ty, kit_tups d, q _ (same_new hp)⟩
abbrev N_is_below : List Str := ["thing", "count"]
theorem sc_is_below : FnScope N_is_below ["thing", "count"] (defScope s_is_below) := ⟨rfl, rfl, rfl, by decide +kernel, rfl, by decide +kernel, by decide +kernel⟩
theorem ok_below {fd : FuncData} (F : Fun K "is_below" "is_below" s_is_below A.f_is_below fd) (T : Tx K mg A) (KI : Kp P w K mg base CX0 1 A.f_is_integer ["thing"] spIsInt) : FnOk P w K mg base CX0 2 A.f_is_below fd ["thing", "count"] spBelow := by
  obtain ⟨fdI, G_is_integer, b_is_integer, k_is_integer⟩ := KI
  have nd := sc_is_below.nd
  refine F.ok sc_is_below (fun vs H Q E h => ?_) (fun cdv A' outer s H vs Q E hr h => ?_)
  · obtain ⟨x, d, n, rfl, _⟩ := h
    rfl
  · obtain ⟨x, d, n, rfl, hx, q⟩ := h
    refine ⟨_, (pss_one (ps_ret (pe_and (pe_call G_is_integer (hr.mono (by omega)) rfl T.mis_integer k_is_integer b_is_integer .nil pass0 (pa_cons (pv 0) pa_nil)) (pe_one (pe_chain op_le op_lt pe_int (pv 0) (pv 1)))))), ?_⟩
    refine ⟨_, rfl, x, d, rfl, hx, _, rfl, ?_⟩
    cases hx with
    | int i =>
      refine iteT ?_
      refine ⟨_, rfl, _, _, rfl, rfl, _, rfl, ?_⟩
      by_cases c : 0 ≤ i
      · refine iteY c ⟨_, rfl, _, _, rfl, rfl, ?_⟩
        have e : belowD n (.int i) = decide (i < n) := by
          show (decide (0 ≤ i) && decide (i < n)) = _
          rw [decide_eq_true c, Bool.true_and]
        rw [e] at q
        exact q
      · refine iteN c ?_
        have e : belowD n (.int i) = false := by
          show (decide (0 ≤ i) && decide (i < n)) = _
          rw [decide_eq_false c, Bool.false_and]
        rw [e] at q
        exact q
    | _ => exact iteF q
abbrev N_is_tuple_of : List Str := ["thing", "count"]
theorem sc_is_tuple_of : FnScope N_is_tuple_of ["thing", "count"] (defScope s_is_tuple_of) := ⟨rfl, rfl, rfl, by decide +kernel, rfl, by decide +kernel, by decide +kernel⟩
theorem ok_tupof {fd : FuncData} (F : Fun K "is_tuple_of" "is_tuple_of" s_is_tuple_of A.f_is_tuple_of fd) (T : Tx K mg A) (KT : Kp P w K mg base CX0 1 A.f_is_tuple ["thing"] spIsTup) : FnOk P w K mg base CX0 2 A.f_is_tuple_of fd ["thing", "count"] spTupOf := by
  obtain ⟨fdI, G_is_tuple, b_is_tuple, k_is_tuple⟩ := KT
  have nd := sc_is_tuple_of.nd
  refine F.ok sc_is_tuple_of (fun vs H Q E h => ?_) (fun cdv A' outer s H vs Q E hr h => ?_)
  · obtain ⟨x, d, n, rfl, _⟩ := h
    rfl
  · obtain ⟨x, d, n, rfl, hx, q⟩ := h
    refine ⟨_, (pss_one (ps_ret (pe_and (pe_call G_is_tuple (hr.mono (by omega)) rfl T.mis_tuple k_is_tuple b_is_tuple .nil pass0 (pa_cons (pv 0) pa_nil)) (pe_one (pe_cmpR op_eq (pe_callB call_len (by rfl) T.nlen (by decide +kernel) (pa_cons (pv 0) pa_nil)) (pv 1) (nomark _)))))), ?_⟩
    refine ⟨_, rfl, x, d, rfl, hx, fun H1 s1 => ⟨_, rfl, ?_⟩⟩
    unfold tupOfD at q
    cases t : isTupD d with
    | false =>
      rw [t] at q
      exact iteF (q H1 s1)
    | true =>
      rw [t, Bool.true_and] at q
      obtain ⟨a, xs, rfl, hs, _, r⟩ := (hx.mono s1).seq (K := K) t
      refine iteT ⟨_, rfl, V.ref a, xs.length, rfl, ?_, ?_⟩
      · rcases hs with hs | hs
        · exact .inl ⟨_, hs, rfl⟩
        · exact .inr ⟨_, hs, rfl⟩
      refine ⟨_, rfl, rfl, ?_⟩
      have e : decide (V.int (xs.length : Int) = V.int n) = decide (((itemsD d).length : Int) = n) := by
        rw [← r.len]
        exact decide_eq_decide.mpr ⟨fun z => V.int.inj z, fun z => congrArg V.int z⟩
      show Q (.bl (decide (V.int (xs.length : Int) = V.int n))) H1
      rw [e]
      exact q H1 s1
end
end As

namespace As
open PySem PySem.Spec PyProof.Rows L2 Ow
section
variable {P : Program} {w : World} {K : PySem.W.Frag} {mg : Str → Option Value} {base : Heap} {A : Ad}
theorem take_get {α : Type} : ∀ {l : List α} {i : Nat} {x : α}, l[i]? = some x → l.take (i + 1) = l.take i ++ [x]
  | [], i, x, h => by simp at h
  | a :: l, 0, x, h => by
    have e : a = x := Option.some.inj h
    subst e
    rfl
  | a :: l, i + 1, x, h => by
    show a :: l.take (i + 1) = a :: l.take i ++ [x]
    rw [take_get (l := l) (i := i) h]
    rfl
/-- those that are no ints -/
def oddD (ds : List PyData) : List PyData := ds.filter fun d => !isIntD d
theorem odd_none {ds : List PyData} : (oddD ds).isEmpty = ds.all isIntD := by
  unfold oddD
  induction ds with
  | nil => rfl
  | cons d r ih =>
    rw [List.filter_cons, List.all_cons]
    cases h : isIntD d with
    | true => simpa using ih
    | false => rfl
abbrev N_are_integers : List Str := ["thing", "count", "item"]
theorem sc_are_integers : FnScope N_are_integers ["thing", "count"] (defScope s_are_integers) := ⟨rfl, rfl, rfl, by decide +kernel, rfl, by decide +kernel, by decide +kernel⟩
theorem ok_ints {fd : FuncData} (F : Fun K "are_integers" "are_integers" s_are_integers A.f_are_integers fd) (T : Tx K mg A) (KT : Kp P w K mg base CX0 2 A.f_is_tuple_of ["thing", "count"] spTupOf) : FnOk P w K mg base CX0 3 A.f_are_integers fd ["thing", "count"] spInts := by
  obtain ⟨fdI, G_is_tuple_of, b_is_tuple_of, k_is_tuple_of⟩ := KT
  have nd := sc_are_integers.nd
  refine F.ok sc_are_integers (fun vs H Q E h => ?_) (fun cdv A' outer s H vs Q E hr h => ?_)
  · obtain ⟨x, d, n, rfl, _⟩ := h
    rfl
  · obtain ⟨x, d, n, rfl, hx, q⟩ := h
    have eq1 : tupOfD d n = false → intsD d n = false := fun e => by unfold intsD; rw [e]; rfl
    by_cases tup : ∃ l items, x = .ref l ∧ H l = some (.tup items)
    · refine ⟨_, (pss_one (ps_ret (pe_and (pe_call G_is_tuple_of (hr.mono (by omega)) rfl T.mis_tuple_of k_is_tuple_of b_is_tuple_of .nil pass0 (pa_cons (pv 0) (pa_cons (pv 1) pa_nil))) (pe_one (pe_notT (pe_lc (own := [("item", 2)]) (g := gName 2) rfl nd (pi_tup (pv 0)) (blkOk_by (own := [("item", 2)]) (N := N_are_integers) (sc := defScope s_are_integers) (by decide +kernel)) (fun _ _ _ _ _ => (pg_name (i := 2) nd rfl (by first | exact Or.inl rfl | exact Or.inr rfl))) (fun _ _ _ _ _ => (pts_one (PW.pt (pw_or (pt_not (pt_val (pe_callB (show CallR _ _ (rIsi K) from call_isi) (by rfl) T.nisinstance (by decide +kernel) (pa_cons (pv 2) (pa_cons (pe_bltn (v := .ty "int") (by rfl) T.nint (by decide +kernel) rfl) pa_nil))))) (pw_or1 (pt_val (pe_callB (show CallR _ _ (rIsi K) from call_isi) (by rfl) T.nisinstance (by decide +kernel) (pa_cons (pv 2) (pa_cons (pe_bltn (v := .ty "bool") (by rfl) T.nbool (by decide +kernel) rfl) pa_nil))))))))) (fun _ _ _ _ _ => (pv 2)))))))), ?_⟩
      refine ⟨_, rfl, _, rfl, x, d, n, rfl, hx, fun H1 s1 => ⟨_, rfl, ?_⟩⟩
      cases t : tupOfD d n with
      | false =>
        have q1 := q H1 s1
        rw [eq1 t] at q1
        exact iteF q1
      | true =>
        refine iteT ?_
        have t1 : isTupD d = true := by
          unfold tupOfD at t
          exact (Bool.and_eq_true_iff.mp t).1
        cases hx with
        | @tup l xs ds hl hz r =>
          refine ⟨_, rfl, l, rfl, ⟨_, SqT.of (s1 _ _ hl)⟩, fun D hD => ?_⟩
          refine lc_tup (K := K) (xs := xs) (fun i H' => ∃ acc : List V, H' D = some (.lst acc) ∧ acc.length ≤ i ∧ acc.isEmpty = (ds.take i).all isIntD ∧ Same H1 H') ⟨[], upd_same, Nat.le_refl _, rfl, same_new hD⟩ (fun i H' _ ⟨_, _, _, _, sm⟩ => SqT.of (sm _ _ (s1 _ _ hl))) ?_ ?_
          · rintro i x H2 hx ⟨acc, h2, la, ea, sm⟩
            obtain ⟨d, ed, td⟩ := r.get hx
            have td2 := td.mono (s1.trans sm)
            have hi : i < xs.length := (List.getElem?_eq_some_iff.mp hx).1
            have em : (ds.take (i + 1)).all isIntD = ((ds.take i).all isIntD && isIntD d) := by
              rw [take_get ed, List.all_append, List.all_cons, List.all_nil, Bool.and_true]
            have keep : isIntD d = true → ∃ acc : List V, H2 D = some (.lst acc) ∧ acc.length ≤ i + 1 ∧ acc.isEmpty = (ds.take (i + 1)).all isIntD ∧ Same H1 H2 := fun e =>
              ⟨acc, h2, by omega, by rw [em, e, Bool.and_true, ea], sm⟩
            have put : isIntD d = false → ∃ acc : List V, H2 D = some (.lst acc) ∧ acc.length < sizeLine ∧ ∃ acc2 : List V, upd H2 D (.lst (acc ++ [x])) D = some (.lst acc2) ∧ acc2.length ≤ i + 1 ∧ acc2.isEmpty = (ds.take (i + 1)).all isIntD ∧ Same H1 (upd H2 D (.lst (acc ++ [x]))) := fun e =>
              ⟨acc, h2, by omega, acc ++ [x], upd_same, by rw [List.length_append, List.length_singleton]; omega, by rw [em, e, Bool.and_false]; cases acc <;> rfl, fun b o hb => by
                rw [upd_ne (ne_of_none hb hD)]
                exact sm b o hb⟩
            refine ⟨rfl, ?_⟩
            refine ⟨_, rfl, x, _, _, _, _, rfl, .ty _, td2.ty, kit_ty (kit_int d), _, rfl, ?_⟩
            cases d with
            | int j => exact iteF ⟨_, rfl, x, _, _, _, _, rfl, .ty _, td2.ty, kit_ty (kit_bool _), _, rfl, iteF (keep rfl)⟩
            | bool j => exact iteF ⟨_, rfl, x, _, _, _, _, rfl, .ty _, td2.ty, kit_ty (kit_bool _), _, rfl, iteT ⟨_, rfl, put rfl⟩⟩
            | none => exact iteT (iteT ⟨_, rfl, put rfl⟩)
            | str j => exact iteT (iteT ⟨_, rfl, put rfl⟩)
            | list j => exact iteT (iteT ⟨_, rfl, put rfl⟩)
            | tuple j => exact iteT (iteT ⟨_, rfl, put rfl⟩)
            | dict j => exact iteT (iteT ⟨_, rfl, put rfl⟩)
          · rintro H2 ⟨acc, h2, la, ea, sm⟩
            have et : (ds.take xs.length).all isIntD = ds.all isIntD := by rw [r.len, List.take_length]
            have q2 := q H2 (s1.trans sm)
            unfold intsD at q2
            rw [t, Bool.true_and] at q2
            refine ⟨!acc.isEmpty, .inl ⟨acc, SqL.of h2, rfl⟩, ?_⟩
            show Q (.bl (!!acc.isEmpty)) H2
            rw [Bool.not_not, ea, et]
            exact q2
        | lst h =>
          obtain ⟨l2, items, e, e2⟩ := tup
          cases e
          rw [h] at e2
          cases e2
        | _ => cases t1
    · refine ⟨_, (pss_one (ps_ret (pe_and (pe_call G_is_tuple_of (hr.mono (by omega)) rfl T.mis_tuple_of k_is_tuple_of b_is_tuple_of .nil pass0 (pa_cons (pv 0) (pa_cons (pv 1) pa_nil))) (pe_one (pe_notT (pe_lc (own := [("item", 2)]) (g := gName 2) rfl nd (pi_list (pv 0)) (blkOk_by (own := [("item", 2)]) (N := N_are_integers) (sc := defScope s_are_integers) (by decide +kernel)) (fun _ _ _ _ _ => (pg_name (i := 2) nd rfl (by first | exact Or.inl rfl | exact Or.inr rfl))) (fun _ _ _ _ _ => (pts_one (PW.pt (pw_or (pt_not (pt_val (pe_callB (show CallR _ _ (rIsi K) from call_isi) (by rfl) T.nisinstance (by decide +kernel) (pa_cons (pv 2) (pa_cons (pe_bltn (v := .ty "int") (by rfl) T.nint (by decide +kernel) rfl) pa_nil))))) (pw_or1 (pt_val (pe_callB (show CallR _ _ (rIsi K) from call_isi) (by rfl) T.nisinstance (by decide +kernel) (pa_cons (pv 2) (pa_cons (pe_bltn (v := .ty "bool") (by rfl) T.nbool (by decide +kernel) rfl) pa_nil))))))))) (fun _ _ _ _ _ => (pv 2)))))))), ?_⟩
      refine ⟨_, rfl, _, rfl, x, d, n, rfl, hx, fun H1 s1 => ⟨_, rfl, ?_⟩⟩
      cases t : tupOfD d n with
      | false =>
        have q1 := q H1 s1
        rw [eq1 t] at q1
        exact iteF q1
      | true =>
        refine iteT ?_
        have t1 : isTupD d = true := by
          unfold tupOfD at t
          exact (Bool.and_eq_true_iff.mp t).1
        cases hx with
        | @lst l xs ds hl hz r =>
          refine ⟨_, rfl, l, rfl, ⟨_, SqL.of (s1 _ _ hl)⟩, fun D hD => ?_⟩
          refine lc_list (K := K) (xs := xs) (fun i H' => ∃ acc : List V, H' D = some (.lst acc) ∧ acc.length ≤ i ∧ acc.isEmpty = (ds.take i).all isIntD ∧ Same H1 H') ⟨[], upd_same, Nat.le_refl _, rfl, same_new hD⟩ (fun i H' _ ⟨_, _, _, _, sm⟩ => SqL.of (sm _ _ (s1 _ _ hl))) ?_ ?_
          · rintro i x H2 hx ⟨acc, h2, la, ea, sm⟩
            obtain ⟨d, ed, td⟩ := r.get hx
            have td2 := td.mono (s1.trans sm)
            have hi : i < xs.length := (List.getElem?_eq_some_iff.mp hx).1
            have em : (ds.take (i + 1)).all isIntD = ((ds.take i).all isIntD && isIntD d) := by
              rw [take_get ed, List.all_append, List.all_cons, List.all_nil, Bool.and_true]
            have keep : isIntD d = true → ∃ acc : List V, H2 D = some (.lst acc) ∧ acc.length ≤ i + 1 ∧ acc.isEmpty = (ds.take (i + 1)).all isIntD ∧ Same H1 H2 := fun e =>
              ⟨acc, h2, by omega, by rw [em, e, Bool.and_true, ea], sm⟩
            have put : isIntD d = false → ∃ acc : List V, H2 D = some (.lst acc) ∧ acc.length < sizeLine ∧ ∃ acc2 : List V, upd H2 D (.lst (acc ++ [x])) D = some (.lst acc2) ∧ acc2.length ≤ i + 1 ∧ acc2.isEmpty = (ds.take (i + 1)).all isIntD ∧ Same H1 (upd H2 D (.lst (acc ++ [x]))) := fun e =>
              ⟨acc, h2, by omega, acc ++ [x], upd_same, by rw [List.length_append, List.length_singleton]; omega, by rw [em, e, Bool.and_false]; cases acc <;> rfl, fun b o hb => by
                rw [upd_ne (ne_of_none hb hD)]
                exact sm b o hb⟩
            refine ⟨rfl, ?_⟩
            refine ⟨_, rfl, x, _, _, _, _, rfl, .ty _, td2.ty, kit_ty (kit_int d), _, rfl, ?_⟩
            cases d with
            | int j => exact iteF ⟨_, rfl, x, _, _, _, _, rfl, .ty _, td2.ty, kit_ty (kit_bool _), _, rfl, iteF (keep rfl)⟩
            | bool j => exact iteF ⟨_, rfl, x, _, _, _, _, rfl, .ty _, td2.ty, kit_ty (kit_bool _), _, rfl, iteT ⟨_, rfl, put rfl⟩⟩
            | none => exact iteT (iteT ⟨_, rfl, put rfl⟩)
            | str j => exact iteT (iteT ⟨_, rfl, put rfl⟩)
            | list j => exact iteT (iteT ⟨_, rfl, put rfl⟩)
            | tuple j => exact iteT (iteT ⟨_, rfl, put rfl⟩)
            | dict j => exact iteT (iteT ⟨_, rfl, put rfl⟩)
          · rintro H2 ⟨acc, h2, la, ea, sm⟩
            have et : (ds.take xs.length).all isIntD = ds.all isIntD := by rw [r.len, List.take_length]
            have q2 := q H2 (s1.trans sm)
            unfold intsD at q2
            rw [t, Bool.true_and] at q2
            refine ⟨!acc.isEmpty, .inl ⟨acc, SqL.of h2, rfl⟩, ?_⟩
            show Q (.bl (!!acc.isEmpty)) H2
            rw [Bool.not_not, ea, et]
            exact q2
        | tup h => exact absurd ⟨_, _, rfl, h⟩ tup
        | _ => cases t1
end
end As

namespace Ow
open PySem PySem.Spec PyProof.Rows L2
def tableD (d : PyData) (n : Int) : Bool := tupOfD d n && (itemsD d).all fun r => intsD r n
def tablesD (d : PyData) (a n : Int) : Bool := tupOfD d a && (itemsD d).all fun r => tableD r n
def spTable : Sp := fun vs H Q _ => ∃ (x : V) (d : PyData) (n : Int), vs = [x, .int n] ∧ Th H x d ∧ ∀ H', Same H H' → Q (.bl (tableD d n)) H'
def spTables : Sp := fun vs H Q _ => ∃ (x : V) (d : PyData) (a n : Int), vs = [x, .int a, .int n] ∧ Th H x d ∧ ∀ H', Same H H' → Q (.bl (tablesD d a n)) H'
end Ow
namespace As
open PySem PySem.Spec PyProof.Rows L2 Ow
section
variable {P : Program} {w : World} {K : PySem.W.Frag} {mg : Str → Option Value} {base : Heap} {A : Ad}
abbrev N_is_table : List Str := ["thing", "states", "row"]
theorem sc_is_table : FnScope N_is_table ["thing", "states"] (defScope s_is_table) := ⟨rfl, rfl, rfl, by decide +kernel, rfl, by decide +kernel, by decide +kernel⟩
theorem ok_is_table {fd : FuncData} (F : Fun K "is_table" "is_table" s_is_table A.f_is_table fd) (T : Tx K mg A) (KT : Kp P w K mg base CX0 2 A.f_is_tuple_of ["thing", "count"] spTupOf) (KI : Kp P w K mg base CX0 3 A.f_are_integers ["thing", "count"] spInts) : FnOk P w K mg base CX0 4 A.f_is_table fd ["thing", "states"] spTable := by
  obtain ⟨fdI, G_is_tuple_of, b_is_tuple_of, k_is_tuple_of⟩ := KT
  obtain ⟨fdJ, G_are_integers, b_are_integers, k_are_integers⟩ := KI
  have nd := sc_is_table.nd
  refine F.ok sc_is_table (fun vs H Q E h => ?_) (fun cdv A' outer s H vs Q E hr h => ?_)
  · obtain ⟨x, d, n, rfl, _⟩ := h
    rfl
  · obtain ⟨x, d, n, rfl, hx, q⟩ := h
    have eq1 : tupOfD d n = false → tableD d n = false := fun e => by unfold tableD; rw [e]; rfl
    by_cases tup : ∃ l items, x = .ref l ∧ H l = some (.tup items)
    · refine ⟨_, (pss_one (ps_ret (pe_and (pe_call G_is_tuple_of (hr.mono (by omega)) rfl T.mis_tuple_of k_is_tuple_of b_is_tuple_of .nil pass0 (pa_cons (pv 0) (pa_cons (pv 1) pa_nil))) (pe_one (pe_callB (cr_all rfl) (by rfl) T.nall (by decide +kernel) (pa_cons (pe_lc (own := [("row", 2)]) (g := gName 2) (tt := tYes) rfl nd (pi_tup (pv 0)) (blkOk_by (own := [("row", 2)]) (N := N_is_table) (sc := defScope s_is_table) (by decide +kernel)) (fun _ _ _ _ _ => (pg_name (i := 2) nd rfl (by first | exact Or.inl rfl | exact Or.inr rfl))) (fun _ _ _ _ _ => pts_nil) (fun _ _ _ _ _ => (pe_call G_are_integers (hr.mono (by omega)) rfl T.mare_integers k_are_integers b_are_integers .nil pass0 (pa_cons (pv 2) (pa_cons (pv 1) pa_nil))))) pa_nil)))))), ?_⟩
      refine ⟨_, rfl, _, rfl, x, d, n, rfl, hx, fun H1 s1 => ⟨_, rfl, ?_⟩⟩
      cases t : tupOfD d n with
      | false =>
        have q1 := q H1 s1
        rw [eq1 t] at q1
        exact iteF q1
      | true =>
        refine iteT ?_
        have t1 : isTupD d = true := by
          unfold tupOfD at t
          exact (Bool.and_eq_true_iff.mp t).1
        cases hx with
        | @tup l xs ds hl hz r =>
          refine ⟨_, rfl, l, rfl, ⟨_, SqT.of (s1 _ _ hl)⟩, fun D hD => ?_⟩
          refine lc_tup (K := K) (xs := xs) (fun i H' => H' D = some (.lst (((ds.take i).map fun d => intsD d n).map V.bl)) ∧ Same H1 H') ⟨upd_same, same_new hD⟩ (fun i H' _ ⟨_, sm⟩ => SqT.of (sm _ _ (s1 _ _ hl))) ?_ ?_
          · rintro i x H2 hx ⟨h2, sm⟩
            obtain ⟨d, ed, td⟩ := r.get hx
            have hi : i < xs.length := (List.getElem?_eq_some_iff.mp hx).1
            refine ⟨rfl, yes_go ?_⟩
            refine ⟨_, rfl, _, rfl, x, d, n, rfl, td.mono (s1.trans sm), fun H3 s3 => ⟨_, s3 _ _ h2, ?_, ?_, ?_⟩⟩
            · rw [List.length_map, List.length_map, List.length_take]
              omega
            · rw [upd_same, take_get ed, List.map_append, List.map_append]
              rfl
            · intro b o hb
              rw [upd_ne (ne_of_none hb hD)]
              exact s3 _ _ (sm b o hb)
          · rintro H2 ⟨h2, sm⟩
            rw [r.len, List.take_length] at h2
            refine ⟨D, _, rfl, SqL.of h2, ?_⟩
            have q2 := q H2 (s1.trans sm)
            unfold tableD at q2
            rw [t, Bool.true_and] at q2
            rw [List.all_map]
            exact q2
        | lst h =>
          obtain ⟨l2, items, e, e2⟩ := tup
          cases e
          rw [h] at e2
          cases e2
        | _ => cases t1
    · refine ⟨_, (pss_one (ps_ret (pe_and (pe_call G_is_tuple_of (hr.mono (by omega)) rfl T.mis_tuple_of k_is_tuple_of b_is_tuple_of .nil pass0 (pa_cons (pv 0) (pa_cons (pv 1) pa_nil))) (pe_one (pe_callB (cr_all rfl) (by rfl) T.nall (by decide +kernel) (pa_cons (pe_lc (own := [("row", 2)]) (g := gName 2) (tt := tYes) rfl nd (pi_list (pv 0)) (blkOk_by (own := [("row", 2)]) (N := N_is_table) (sc := defScope s_is_table) (by decide +kernel)) (fun _ _ _ _ _ => (pg_name (i := 2) nd rfl (by first | exact Or.inl rfl | exact Or.inr rfl))) (fun _ _ _ _ _ => pts_nil) (fun _ _ _ _ _ => (pe_call G_are_integers (hr.mono (by omega)) rfl T.mare_integers k_are_integers b_are_integers .nil pass0 (pa_cons (pv 2) (pa_cons (pv 1) pa_nil))))) pa_nil)))))), ?_⟩
      refine ⟨_, rfl, _, rfl, x, d, n, rfl, hx, fun H1 s1 => ⟨_, rfl, ?_⟩⟩
      cases t : tupOfD d n with
      | false =>
        have q1 := q H1 s1
        rw [eq1 t] at q1
        exact iteF q1
      | true =>
        refine iteT ?_
        have t1 : isTupD d = true := by
          unfold tupOfD at t
          exact (Bool.and_eq_true_iff.mp t).1
        cases hx with
        | @lst l xs ds hl hz r =>
          refine ⟨_, rfl, l, rfl, ⟨_, SqL.of (s1 _ _ hl)⟩, fun D hD => ?_⟩
          refine lc_list (K := K) (xs := xs) (fun i H' => H' D = some (.lst (((ds.take i).map fun d => intsD d n).map V.bl)) ∧ Same H1 H') ⟨upd_same, same_new hD⟩ (fun i H' _ ⟨_, sm⟩ => SqL.of (sm _ _ (s1 _ _ hl))) ?_ ?_
          · rintro i x H2 hx ⟨h2, sm⟩
            obtain ⟨d, ed, td⟩ := r.get hx
            have hi : i < xs.length := (List.getElem?_eq_some_iff.mp hx).1
            refine ⟨rfl, yes_go ?_⟩
            refine ⟨_, rfl, _, rfl, x, d, n, rfl, td.mono (s1.trans sm), fun H3 s3 => ⟨_, s3 _ _ h2, ?_, ?_, ?_⟩⟩
            · rw [List.length_map, List.length_map, List.length_take]
              omega
            · rw [upd_same, take_get ed, List.map_append, List.map_append]
              rfl
            · intro b o hb
              rw [upd_ne (ne_of_none hb hD)]
              exact s3 _ _ (sm b o hb)
          · rintro H2 ⟨h2, sm⟩
            rw [r.len, List.take_length] at h2
            refine ⟨D, _, rfl, SqL.of h2, ?_⟩
            have q2 := q H2 (s1.trans sm)
            unfold tableD at q2
            rw [t, Bool.true_and] at q2
            rw [List.all_map]
            exact q2
        | tup h => exact absurd ⟨_, _, rfl, h⟩ tup
        | _ => cases t1
abbrev N_are_tables : List Str := ["thing", "asks", "states", "table"]
theorem sc_are_tables : FnScope N_are_tables ["thing", "asks", "states"] (defScope s_are_tables) := ⟨rfl, rfl, rfl, by decide +kernel, rfl, by decide +kernel, by decide +kernel⟩
theorem ok_are_tables {fd : FuncData} (F : Fun K "are_tables" "are_tables" s_are_tables A.f_are_tables fd) (T : Tx K mg A) (KT : Kp P w K mg base CX0 2 A.f_is_tuple_of ["thing", "count"] spTupOf) (KI : Kp P w K mg base CX0 4 A.f_is_table ["thing", "states"] spTable) : FnOk P w K mg base CX0 5 A.f_are_tables fd ["thing", "asks", "states"] spTables := by
  obtain ⟨fdI, G_is_tuple_of, b_is_tuple_of, k_is_tuple_of⟩ := KT
  obtain ⟨fdJ, G_is_table, b_is_table, k_is_table⟩ := KI
  have nd := sc_are_tables.nd
  refine F.ok sc_are_tables (fun vs H Q E h => ?_) (fun cdv A' outer s H vs Q E hr h => ?_)
  · obtain ⟨x, d, a, n, rfl, _⟩ := h
    rfl
  · obtain ⟨x, d, a, n, rfl, hx, q⟩ := h
    have eq1 : tupOfD d a = false → tablesD d a n = false := fun e => by unfold tablesD; rw [e]; rfl
    by_cases tup : ∃ l items, x = .ref l ∧ H l = some (.tup items)
    · refine ⟨_, (pss_one (ps_ret (pe_and (pe_call G_is_tuple_of (hr.mono (by omega)) rfl T.mis_tuple_of k_is_tuple_of b_is_tuple_of .nil pass0 (pa_cons (pv 0) (pa_cons (pv 1) pa_nil))) (pe_one (pe_callB (cr_all rfl) (by rfl) T.nall (by decide +kernel) (pa_cons (pe_lc (own := [("table", 3)]) (g := gName 3) (tt := tYes) rfl nd (pi_tup (pv 0)) (blkOk_by (own := [("table", 3)]) (N := N_are_tables) (sc := defScope s_are_tables) (by decide +kernel)) (fun _ _ _ _ _ => (pg_name (i := 3) nd rfl (by first | exact Or.inl rfl | exact Or.inr rfl))) (fun _ _ _ _ _ => pts_nil) (fun _ _ _ _ _ => (pe_call G_is_table (hr.mono (by omega)) rfl T.mis_table k_is_table b_is_table .nil pass0 (pa_cons (pv 3) (pa_cons (pv 2) pa_nil))))) pa_nil)))))), ?_⟩
      refine ⟨_, rfl, _, rfl, x, d, a, rfl, hx, fun H1 s1 => ⟨_, rfl, ?_⟩⟩
      cases t : tupOfD d a with
      | false =>
        have q1 := q H1 s1
        rw [eq1 t] at q1
        exact iteF q1
      | true =>
        refine iteT ?_
        have t1 : isTupD d = true := by
          unfold tupOfD at t
          exact (Bool.and_eq_true_iff.mp t).1
        cases hx with
        | @tup l xs ds hl hz r =>
          refine ⟨_, rfl, l, rfl, ⟨_, SqT.of (s1 _ _ hl)⟩, fun D hD => ?_⟩
          refine lc_tup (K := K) (xs := xs) (fun i H' => H' D = some (.lst (((ds.take i).map fun d => tableD d n).map V.bl)) ∧ Same H1 H') ⟨upd_same, same_new hD⟩ (fun i H' _ ⟨_, sm⟩ => SqT.of (sm _ _ (s1 _ _ hl))) ?_ ?_
          · rintro i x H2 hx ⟨h2, sm⟩
            obtain ⟨d, ed, td⟩ := r.get hx
            have hi : i < xs.length := (List.getElem?_eq_some_iff.mp hx).1
            refine ⟨rfl, yes_go ?_⟩
            refine ⟨_, rfl, _, rfl, x, d, n, rfl, td.mono (s1.trans sm), fun H3 s3 => ⟨_, s3 _ _ h2, ?_, ?_, ?_⟩⟩
            · rw [List.length_map, List.length_map, List.length_take]
              omega
            · rw [upd_same, take_get ed, List.map_append, List.map_append]
              rfl
            · intro b o hb
              rw [upd_ne (ne_of_none hb hD)]
              exact s3 _ _ (sm b o hb)
          · rintro H2 ⟨h2, sm⟩
            rw [r.len, List.take_length] at h2
            refine ⟨D, _, rfl, SqL.of h2, ?_⟩
            have q2 := q H2 (s1.trans sm)
            unfold tablesD at q2
            rw [t, Bool.true_and] at q2
            rw [List.all_map]
            exact q2
        | lst h =>
          obtain ⟨l2, items, e, e2⟩ := tup
          cases e
          rw [h] at e2
          cases e2
        | _ => cases t1
    · refine ⟨_, (pss_one (ps_ret (pe_and (pe_call G_is_tuple_of (hr.mono (by omega)) rfl T.mis_tuple_of k_is_tuple_of b_is_tuple_of .nil pass0 (pa_cons (pv 0) (pa_cons (pv 1) pa_nil))) (pe_one (pe_callB (cr_all rfl) (by rfl) T.nall (by decide +kernel) (pa_cons (pe_lc (own := [("table", 3)]) (g := gName 3) (tt := tYes) rfl nd (pi_list (pv 0)) (blkOk_by (own := [("table", 3)]) (N := N_are_tables) (sc := defScope s_are_tables) (by decide +kernel)) (fun _ _ _ _ _ => (pg_name (i := 3) nd rfl (by first | exact Or.inl rfl | exact Or.inr rfl))) (fun _ _ _ _ _ => pts_nil) (fun _ _ _ _ _ => (pe_call G_is_table (hr.mono (by omega)) rfl T.mis_table k_is_table b_is_table .nil pass0 (pa_cons (pv 3) (pa_cons (pv 2) pa_nil))))) pa_nil)))))), ?_⟩
      refine ⟨_, rfl, _, rfl, x, d, a, rfl, hx, fun H1 s1 => ⟨_, rfl, ?_⟩⟩
      cases t : tupOfD d a with
      | false =>
        have q1 := q H1 s1
        rw [eq1 t] at q1
        exact iteF q1
      | true =>
        refine iteT ?_
        have t1 : isTupD d = true := by
          unfold tupOfD at t
          exact (Bool.and_eq_true_iff.mp t).1
        cases hx with
        | @lst l xs ds hl hz r =>
          refine ⟨_, rfl, l, rfl, ⟨_, SqL.of (s1 _ _ hl)⟩, fun D hD => ?_⟩
          refine lc_list (K := K) (xs := xs) (fun i H' => H' D = some (.lst (((ds.take i).map fun d => tableD d n).map V.bl)) ∧ Same H1 H') ⟨upd_same, same_new hD⟩ (fun i H' _ ⟨_, sm⟩ => SqL.of (sm _ _ (s1 _ _ hl))) ?_ ?_
          · rintro i x H2 hx ⟨h2, sm⟩
            obtain ⟨d, ed, td⟩ := r.get hx
            have hi : i < xs.length := (List.getElem?_eq_some_iff.mp hx).1
            refine ⟨rfl, yes_go ?_⟩
            refine ⟨_, rfl, _, rfl, x, d, n, rfl, td.mono (s1.trans sm), fun H3 s3 => ⟨_, s3 _ _ h2, ?_, ?_, ?_⟩⟩
            · rw [List.length_map, List.length_map, List.length_take]
              omega
            · rw [upd_same, take_get ed, List.map_append, List.map_append]
              rfl
            · intro b o hb
              rw [upd_ne (ne_of_none hb hD)]
              exact s3 _ _ (sm b o hb)
          · rintro H2 ⟨h2, sm⟩
            rw [r.len, List.take_length] at h2
            refine ⟨D, _, rfl, SqL.of h2, ?_⟩
            have q2 := q H2 (s1.trans sm)
            unfold tablesD at q2
            rw [t, Bool.true_and] at q2
            rw [List.all_map]
            exact q2
        | tup h => exact absurd ⟨_, _, rfl, h⟩ tup
        | _ => cases t1
end
end As

namespace As
open PySem PySem.Spec PyProof.Rows L2 Ow TL
section
variable {P : Program} {w : World} {K : PySem.W.Frag} {mg : Str → Option Value} {base : Heap} {A : Ad}
theorem take_more {α : Type} {l : List α} {i : Nat} {x : α} (h : l[i]? = some x) : l.take (i + 1) = l.take i ++ [x] := take_get h
abbrev N_is_asks : List Str := ["thing", "places", "letter", "low", "high"]
theorem sc_is_asks : FnScope N_is_asks ["thing"] (defScope s_is_asks) := ⟨rfl, rfl, rfl, by decide +kernel, rfl, by decide +kernel, by decide +kernel⟩
def spAsks (K : PySem.W.Frag) : Sp := fun vs H Q _ => ∃ (x : V), vs = [x] ∧ Known K H x ∧ ∀ H', Same H H' → Q (.bl (asksV x)) H'
theorem ok_asks {fd : FuncData} (F : Fun K "is_asks" "is_asks" s_is_asks A.f_is_asks fd) (T : Tx K mg A) : FnOk P w K mg base CX0 1 A.f_is_asks fd ["thing"] (spAsks K) := by
  have nd := sc_is_asks.nd
  refine F.ok sc_is_asks (fun vs H Q E h => ?_) (fun cdv A' outer s H vs Q E hr h => ?_)
  · obtain ⟨x, rfl, _⟩ := h
    rfl
  · obtain ⟨x, rfl, hx, q⟩ := h
    refine ⟨_, (pss_cons (ps_if (PW.pt (pw_or (pt_not (pt_val (pe_callB call_isi (by rfl) T.nisinstance (by decide +kernel) (pa_cons (pv 0) (pa_cons (pe_bltn (v := .ty "str") (by rfl) T.nstr (by decide +kernel) rfl) pa_nil))))) (pw_or1 (pt_not (pt_chain op_le op_le pe_int (pe_callB call_len (by rfl) T.nlen (by decide +kernel) (pa_cons (pv 0) pa_nil)) (pe_glob (v := .int 4) rfl T.mMOST_ASKS ⟨_, rfl⟩)))))) (pss_one (ps_ret pe_bl)) pss_nil)
  (pss_cons (ps_setLc (i := 1) (own := [("letter", 2)]) (g := gName 2) (tt := tYes) rfl nd rfl rfl (sw_true rfl rfl rfl (by decide +kernel)) (pi_str (pv 0)) (blkOk_by (own := [("letter", 2)]) (N := N_is_asks) (sc := defScope s_is_asks) (by decide +kernel)) (fun _ _ _ _ _ => (pg_name (i := 2) nd rfl (by first | exact Or.inl rfl | exact Or.inr rfl))) (fun _ _ _ _ _ => pts_nil) (fun _ _ _ _ _ => (pe_m1 PySem.F.slot_str_find PySem.F.type_str_find mt_find (pe_glob (v := .str (Str.ofString "abcdefgh")) rfl T.mLETTERS ⟨_, rfl⟩) (pv 2))))
  (pss_one (ps_ret (pe_and (pe_cmpR op_ge (pe_ix ix_list (pv 1) pe_int (fun _ _ => rfl)) pe_int (nomark _)) (pe_one (pe_callB (cr_all rfl) (by rfl) T.nall (by decide +kernel) (pa_cons (pe_lc (own := [("low", 3), ("high", 4)]) (g := gTup K 2 (gCons (gName 3) (gCons (gName 4) gNil))) (tt := tYes) rfl nd (pi_zip (by rfl) T.nzip (pa_cons (pv 1) (pa_cons (pe_slice sl_list (pv 1) (po_some pe_int) po_none) pa_nil))) (blkOk_by (own := [("low", 3), ("high", 4)]) (N := N_is_asks) (sc := defScope s_is_asks) (by decide +kernel)) (fun _ _ _ _ _ => (pg_tup (by rfl) (pgs_cons (pg_name (i := 3) nd rfl (by first | exact Or.inl rfl | exact Or.inr rfl)) (pgs_cons (pg_name (i := 4) nd rfl (by first | exact Or.inl rfl | exact Or.inr rfl)) pgs_nil)))) (fun _ _ _ _ _ => pts_nil) (fun _ _ _ _ _ => (pe_cmpR op_lt (pv 3) (pv 4) (nomark _)))) pa_nil)))))))), ?_⟩
    rcases hx with ⟨z, rfl, hz⟩ | ⟨h1, t, ty, hk⟩
    · have ez : z.cps.toList.length = z.length := Array.length_toList
      refine ⟨_, rfl, _, _, _, _, true, rfl, .ty _, .base (.str _), kit_ty (by decide +kernel), _, rfl, iteF ?_⟩
      refine ⟨_, rfl, V.str z, _, rfl, ⟨hz, rfl⟩, _, _, rfl, rfl, _, rfl, ?_⟩
      by_cases c1 : 1 ≤ z.length
      · refine iteY (by omega) ⟨_, _, rfl, rfl, _, rfl, ?_⟩
        by_cases c2 : z.length ≤ 4
        · refine iteNS (by omega) ?_
          refine ⟨_, rfl, z, rfl, fun D hD => ?_⟩
          refine lc_text (fun i H' => Same H H' ∧ H' D = some (.lst (((z.cps.toList.take i).map plc).map V.int))) ⟨same_new hD, upd_same⟩ ?_ ?_
          · rintro i c H2 hc ⟨sm, h2⟩
            refine ⟨rfl, yes_go ?_⟩
            refine ⟨⟨_, rfl⟩, _, rfl, _, _, rfl, rfl, _, h2, ?_, ?_, ?_⟩
            · rw [List.length_map, List.length_map, List.length_take]
              exact Nat.lt_of_le_of_lt (Nat.min_le_right _ _) (by rw [ez]; exact Nat.lt_of_le_of_lt c2 (by decide))
            · intro b o hb
              rw [upd_ne (ne_of_none hb hD)]
              exact sm b o hb
            · rw [upd_same, take_more hc, List.map_append, List.map_append]
              rfl
          · rintro H2 ⟨sm, h2⟩
            rw [List.take_length] at h2
            have hl0 : (z.cps.toList.map plc).length = z.length := by rw [List.length_map, ez]
            have e : asksV (.str z) = (decide (0 ≤ (z.cps.toList.map plc).getD 0 0) && (ups (z.cps.toList.map plc)).all id) := by
              show (decide (1 ≤ z.length) && (decide (z.length ≤ 4) && _)) = _
              rw [decide_eq_true c1, decide_eq_true c2, Bool.true_and, Bool.true_and]
            rw [e] at q
            generalize z.cps.toList.map plc = ps at h2 hl0 q
            have h0 : 0 < ps.length := by omega
            have g0 : ps[0]? = some (ps.getD 0 0) := by
              rw [List.getD_eq_getElem?_getD, List.getElem?_eq_getElem h0]
              rfl
            refine ⟨_, rfl, D, _, 0, .int (ps.getD 0 0), rfl, rfl, SqL.of h2, atI_nat (j := 0) (by rw [List.getElem?_map, g0]; rfl), _, _, rfl, rfl, _, rfl, ?_⟩
            by_cases c3 : 0 ≤ ps.getD 0 0
            · refine iteY c3 ?_
              rw [decide_eq_true c3, Bool.true_and] at q
              refine ⟨_, rfl, _, rfl, 1, rfl, D, _, rfl, SqL.of h2, fun C hC => ?_⟩
              have s3 := same_new (o := .lst (cutV (ps.map V.int) (some 1) none)) hC
              have h3 := s3 _ _ h2
              have h4 : upd H2 C (.lst (cutV (ps.map V.int) (some 1) none)) C = some (.lst ((ps.drop 1).map V.int)) := by rw [upd_same, cut_tail]
              refine ⟨D, C, _, _, rfl, SqL.of h3, SqL.of h4, fun G hG => ?_⟩
              refine lc_zip (fun i H' => Same (upd H2 C (.lst (cutV (ps.map V.int) (some 1) none))) H' ∧ H' G = some (.lst (((ups ps).take i).map V.bl))) ⟨same_new hG, upd_same⟩ (fun i H' ⟨sm, _⟩ => ⟨SqL.of (sm _ _ h3), SqL.of (sm _ _ h4)⟩) ?_ ?_
              · rintro i x y U H5 hx hy ⟨s5, h5⟩ hU
                obtain ⟨a, ha, rfl⟩ := get_int hx
                obtain ⟨b, hb, rfl⟩ := get_int hy
                have hb2 : ps[i + 1]? = some b := by
                  rw [List.getElem?_drop, Nat.add_comm] at hb
                  exact hb
                have hg := ups_get ps i a b ha hb2
                refine ⟨U, _, rfl, SqT.of upd_same, rfl, _, _, rfl, _, _, rfl, rfl, rfl, yes_go ?_⟩
                refine ⟨_, rfl, _, rfl, _, _, rfl, rfl, _, same_new hU _ _ h5, ?_, ?_, ?_⟩
                · rw [List.length_map, List.length_take]
                  refine Nat.lt_of_le_of_lt (Nat.min_le_right _ _) ?_
                  rw [ups_len]
                  exact Nat.lt_of_le_of_lt (show ps.length - 1 ≤ 4 by omega) (by decide)
                · intro b o hb
                  rw [upd_ne (ne_of_none hb hG)]
                  exact same_new hU _ _ (s5 b o hb)
                · rw [upd_same, take_more hg, List.map_append]
                  rfl
              · rintro H5 ⟨s5, h5⟩
                have el : min (ps.map V.int).length ((ps.drop 1).map V.int).length = (ups ps).length := by
                  rw [ups_len, List.length_map, List.length_map, List.length_drop]
                  omega
                rw [el, List.take_length] at h5
                exact ⟨G, _, rfl, SqL.of h5, q H5 ((sm.trans s3).trans s5)⟩
            · refine iteN c3 ?_
              rw [decide_eq_false c3, Bool.false_and] at q
              exact q H2 sm
        · have e : asksV (.str z) = false := by
            show (decide (1 ≤ z.length) && (decide (z.length ≤ 4) && _)) = false
            rw [decide_eq_false c2, Bool.false_and, Bool.and_false]
          have q1 := q H (Same.refl H)
          rw [e] at q1
          exact iteNN (by omega) q1
      · have e : asksV (.str z) = false := by
          show (decide (1 ≤ z.length) && _) = false
          rw [decide_eq_false c1, Bool.false_and]
        have q1 := q H (Same.refl H)
        rw [e] at q1
        exact iteN (by omega) ⟨_, rfl, iteT q1⟩
    · have e : asksV x = false := by
        cases x <;> first | rfl | exact absurd rfl (h1 _)
      have q1 := q H (Same.refl H)
      rw [e] at q1
      exact ⟨_, rfl, _, _, t, _, false, rfl, .ty _, ty, hk, _, rfl, iteT (iteT q1)⟩
end
end As

namespace Ow
open PySem PySem.Spec PyProof.Rows L2
/-- an error of the class at C that bears x leaves, all else as it was -/
def Bears (C : Addr) (x : V) (H : Hp) (E : XK) : Prop := ∀ (d : Addr) (H' : Hp), Same H H' → H' d = some (.xd [(("thing" : Str), x)]) → E (.ref C) (some d) H'
def BearsP (C : Addr) (x : V) (H : Hp) (E : XK) : Prop := ∀ (d : Addr) (H' : Hp), Same H H' → H' d = some (.xd [(("part" : Str), x)]) → E (.ref C) (some d) H'
/-- a check that lets pass where b, else raises the error of the class at C that bears x -/
def Chk (b : Bool) (C : Addr) (x : V) (H : Hp) (Q : VK) (E : XK) : Prop := (b = false → Bears C x H E) ∧ (b = true → ∀ H', Same H H' → Q .non H')
end Ow
namespace As
open PySem PySem.Spec PyProof.Rows L2 Ow
section
variable {P : Program} {w : World} {K : PySem.W.Frag} {mg : Str → Option Value} {base : Heap} {A : Ad}
abbrev N_check_asks : List Str := ["thing"]
theorem sc_check_asks : FnScope N_check_asks ["thing"] (defScope s_check_asks) := ⟨rfl, rfl, rfl, by decide +kernel, rfl, by decide +kernel, by decide +kernel⟩
def spChkAsks (K : PySem.W.Frag) (A : Ad) : Sp := fun vs H Q E => ∃ x, vs = [x] ∧ Known K H x ∧ Chk (asksV x) A.c_BadAsks x H Q E
theorem ok_chkasks {fd : FuncData} (F : Fun K "check_asks" "check_asks" s_check_asks A.f_check_asks fd) (T : Tx K mg A) (LA : PySem.LowX.LowTxt K mg "BadAsks" A.c_BadAsks A.f_WrongThing_init) (KA : Kp P w K mg base CX0 1 A.f_is_asks ["thing"] (spAsks K)) :
    FnOk P w K mg base (L2.CX P w) 3 A.f_check_asks fd ["thing"] (spChkAsks K A) := by
  obtain ⟨fdA, G_is_asks, b_is_asks, k_is_asks⟩ := KA
  have nd := sc_check_asks.nd
  refine F.okX sc_check_asks (fun vs H Q E h => ?_) (fun cdv A' outer s H vs Q E hr h => ?_)
  · obtain ⟨x, rfl, _⟩ := h
    rfl
  · obtain ⟨x, rfl, kx, no, yes⟩ := h
    refine ⟨_, (pss_one (ps_if (pt_not (pt_val (pe_call G_is_asks (hr.mono (by omega)) rfl T.mis_asks k_is_asks b_is_asks .nil pass0 (pa_cons (pv 0) pa_nil)))) (pss_one (ps_raiseTh rfl LA hr (takes_of rfl rfl rfl rfl) (pa_cons (pv 0) pa_nil))) pss_nil)), ?_⟩
    refine ⟨_, rfl, x, rfl, kx, fun H1 s1 => ⟨_, rfl, ?_⟩⟩
    cases e : asksV x with
    | false => exact iteT ⟨_, rfl, x, rfl, fun d hd => no e d _ (s1.trans (same_new hd)) upd_same⟩
    | true => exact iteF (yes e H1 s1)
abbrev N_check_state : List Str := ["count", "thing"]
theorem sc_check_state : FnScope N_check_state ["count", "thing"] (defScope s_check_state) := ⟨rfl, rfl, rfl, by decide +kernel, rfl, by decide +kernel, by decide +kernel⟩
def spChkState (A : Ad) : Sp := fun vs H Q E => ∃ (x : V) (d : PyData) (n : Int), vs = [.int n, x] ∧ Th H x d ∧ Chk (belowD n d) A.c_BadState x H Q E
theorem ok_chkstate {fd : FuncData} (F : Fun K "check_state" "check_state" s_check_state A.f_check_state fd) (T : Tx K mg A) (LS : PySem.LowX.LowTxt K mg "BadState" A.c_BadState A.f_WrongThing_init) (KA : Kp P w K mg base CX0 2 A.f_is_below ["thing", "count"] spBelow) :
    FnOk P w K mg base (L2.CX P w) 3 A.f_check_state fd ["count", "thing"] (spChkState A) := by
  obtain ⟨fdA, G_is_below, b_is_below, k_is_below⟩ := KA
  have nd := sc_check_state.nd
  refine F.okX sc_check_state (fun vs H Q E h => ?_) (fun cdv A' outer s H vs Q E hr h => ?_)
  · obtain ⟨x, d, n, rfl, _⟩ := h
    rfl
  · obtain ⟨x, d, n, rfl, hx, no, yes⟩ := h
    refine ⟨_, (pss_one (ps_if (pt_not (pt_val (pe_call G_is_below (hr.mono (by omega)) rfl T.mis_below k_is_below b_is_below .nil pass0 (pa_cons (pv 1) (pa_cons (pv 0) pa_nil))))) (pss_one (ps_raiseTh rfl LS hr (takes_of rfl rfl rfl rfl) (pa_cons (pv 1) pa_nil))) pss_nil)), ?_⟩
    refine ⟨_, rfl, _, rfl, x, d, n, rfl, hx, _, rfl, ?_⟩
    cases e : belowD n d with
    | false => exact iteT ⟨_, rfl, x, rfl, fun d hd => no e d _ (same_new hd) upd_same⟩
    | true => exact iteF (yes e H (Same.refl H))
abbrev N_check_ask : List Str := ["asks", "thing"]
theorem sc_check_ask : FnScope N_check_ask ["asks", "thing"] (defScope s_check_ask) := ⟨rfl, rfl, rfl, by decide +kernel, rfl, by decide +kernel, by decide +kernel⟩
def askB (a : Str) : V → Bool
  | .str z => decide (z.length = 1) && !(Builtin.Str.occurrences a z 0 a.length 1).isEmpty
  | _ => false
def spChkAsk (K : PySem.W.Frag) (A : Ad) : Sp := fun vs H Q E => ∃ (x : V) (a : Str), vs = [.str a, x] ∧ Known K H x ∧ Chk (askB a x) A.c_BadAsk x H Q E
theorem ok_chkask {fd : FuncData} (F : Fun K "check_ask" "check_ask" s_check_ask A.f_check_ask fd) (T : Tx K mg A) (LK : PySem.LowX.LowTxt K mg "BadAsk" A.c_BadAsk A.f_WrongThing_init) :
    FnOk P w K mg base (L2.CX P w) 3 A.f_check_ask fd ["asks", "thing"] (spChkAsk K A) := by
  have nd := sc_check_ask.nd
  refine F.okX sc_check_ask (fun vs H Q E h => ?_) (fun cdv A' outer s H vs Q E hr h => ?_)
  · obtain ⟨x, a, rfl, _⟩ := h
    rfl
  · obtain ⟨x, a, rfl, kx, no, yes⟩ := h
    refine ⟨_, (pss_one (ps_if (PW.pt (pw_or (pt_not (pt_val (pe_callB call_isi (by rfl) T.nisinstance (by decide +kernel) (pa_cons (pv 1) (pa_cons (pe_bltn (v := .ty "str") (by rfl) T.nstr (by decide +kernel) rfl) pa_nil))))) (pw_or (pt_cmpR op_ne (pe_callB call_len (by rfl) T.nlen (by decide +kernel) (pa_cons (pv 1) pa_nil)) pe_int (nomark _)) (pw_or1 (pt_cmpR op_notIn_str (pv 1) (pv 0) (by rfl)))))) (pss_one (ps_raiseTh rfl LK hr (takes_of rfl rfl rfl rfl) (pa_cons (pv 1) pa_nil))) pss_nil)), ?_⟩
    rcases kx with ⟨z, rfl, hz⟩ | ⟨h1, t, ty, hk⟩
    · refine ⟨_, rfl, _, _, _, _, true, rfl, .ty _, .base (.str _), kit_ty (by decide +kernel), _, rfl, iteF ?_⟩
      refine ⟨_, rfl, V.str z, _, rfl, ⟨hz, rfl⟩, rfl, _, rfl, ?_⟩
      have e0 : askB a (.str z) = (decide (z.length = 1) && !(Builtin.Str.occurrences a z 0 a.length 1).isEmpty) := rfl
      by_cases c : z.length = 1
      · refine iteNS (by rw [c]; rfl) ?_
        rw [decide_eq_true c, Bool.true_and] at e0
        refine ⟨_, rfl, _, rfl, z, a, rfl, rfl, _, rfl, ?_⟩
        cases e : askB a (.str z) with
        | false =>
          rw [← e0, e]
          exact iteT ⟨_, rfl, _, rfl, fun d hd => no e d _ (same_new hd) upd_same⟩
        | true =>
          rw [← e0, e]
          exact iteF (yes e H (Same.refl H))
      · have e : askB a (.str z) = false := by rw [e0, decide_eq_false c, Bool.false_and]
        exact iteNN (fun z => c (by have := V.int.inj z; omega)) (iteT ⟨_, rfl, _, rfl, fun d hd => no e d _ (same_new hd) upd_same⟩)
    · have e : askB a x = false := by
        cases x <;> first | rfl | exact absurd rfl (h1 _)
      refine ⟨_, rfl, _, _, t, _, false, rfl, .ty _, ty, hk, _, rfl, iteT ?_⟩
      exact iteT ⟨_, rfl, x, rfl, fun d hd => no e d _ (same_new hd) upd_same⟩
end
end As

namespace Ow
open PySem PySem.Spec PyProof.Rows L2
mutual
def deepD : PyData → PyData
  | .list ds => .tuple (deepAll ds)
  | .tuple ds => .tuple (deepAll ds)
  | d => d
def deepAll : List PyData → List PyData
  | [] => []
  | d :: ds => deepD d :: deepAll ds
end
theorem deepAll_map : ∀ ds, deepAll ds = ds.map deepD
  | [] => by rw [deepAll]; rfl
  | d :: ds => by rw [deepAll, deepAll_map ds]; rfl
mutual
/-- no dict in it -/
def plainD : PyData → Bool
  | .dict _ => false
  | .list ds => plainAll ds
  | .tuple ds => plainAll ds
  | _ => true
def plainAll : List PyData → Bool
  | [] => true
  | d :: ds => plainD d && plainAll ds
end
theorem plainAll_get : ∀ {ds : List PyData} {i : Nat} {d : PyData}, plainAll ds = true → ds[i]? = some d → plainD d = true
  | [], _, _, _, h => by simp at h
  | x :: xs, 0, d, p, h => by
    obtain rfl : x = d := Option.some.inj h
    rw [plainAll] at p
    exact (Bool.and_eq_true_iff.mp p).1
  | x :: xs, i + 1, d, p, h => by
    rw [plainAll] at p
    exact plainAll_get (ds := xs) (i := i) (Bool.and_eq_true_iff.mp p).2 h
mutual
inductive Tt (H : Hp) : V → PyData → Prop
  | non : Tt H .non .none
  | bl (b : Bool) : Tt H (.bl b) (.bool b)
  | int (i : Int) : Tt H (.int i) (.int i)
  | str {z : Str} (h : z.length ≤ sizeLine) : Tt H (.str z) (.str z)
  | tup {a : Addr} {xs : List V} {ds : List PyData} (h : H a = some (.tup xs)) (hz : xs.length ≤ sizeLine) (r : TtAll H xs ds) : Tt H (.ref a) (.tuple ds)
inductive TtAll (H : Hp) : List V → List PyData → Prop
  | nil : TtAll H [] []
  | cons {x : V} {xs : List V} {d : PyData} {ds : List PyData} (h : Tt H x d) (r : TtAll H xs ds) : TtAll H (x :: xs) (d :: ds)
end
/-- all tuples stay -/
def KeepT (H H' : Hp) : Prop := ∀ a xs, H a = some (.tup xs) → H' a = some (.tup xs)
theorem KeepT.of {H H' : Hp} (e : Same H H') : KeepT H H' := fun a xs h => e a _ h
theorem KeepT.upd {H : Hp} {a : Addr} {o : HO} {ys : List V} (h : H a = some (.lst ys)) : KeepT H (upd H a o) := fun b xs hb => by
  rw [upd_ne (ne_of hb h (by simp))]
  exact hb
theorem KeepT.trans {H H1 H2 : Hp} (a : KeepT H H1) (b : KeepT H1 H2) : KeepT H H2 := fun c xs h => b c xs (a c xs h)
mutual
theorem Tt.keep {H H' : Hp} (e : KeepT H H') : ∀ {x : V} {d : PyData}, Tt H x d → Tt H' x d
  | _, _, .non => .non
  | _, _, .bl b => .bl b
  | _, _, .int i => .int i
  | _, _, .str h => .str h
  | _, _, .tup h z r => .tup (e _ _ h) z (TtAll.keep e r)
theorem TtAll.keep {H H' : Hp} (e : KeepT H H') : ∀ {xs : List V} {ds : List PyData}, TtAll H xs ds → TtAll H' xs ds
  | _, _, .nil => .nil
  | _, _, .cons h r => .cons (Tt.keep e h) (TtAll.keep e r)
end
mutual
theorem Tt.th {H : Hp} : ∀ {x : V} {d : PyData}, Tt H x d → Th H x d
  | _, _, .non => .non
  | _, _, .bl b => .bl b
  | _, _, .int i => .int i
  | _, _, .str h => .str h
  | _, _, .tup h z r => .tup h z (TtAll.th r)
theorem TtAll.th {H : Hp} : ∀ {xs : List V} {ds : List PyData}, TtAll H xs ds → ThAll H xs ds
  | _, _, .nil => .nil
  | _, _, .cons h r => .cons (Tt.th h) (TtAll.th r)
end
mutual
theorem Tt.dt {H : Hp} : ∀ {x : V} {d : PyData}, Tt H x d → Dt H x d
  | _, _, .non => .non
  | _, _, .bl b => .bl b
  | _, _, .int i => .int i
  | _, _, .str h => .str _
  | _, _, .tup h z r => .tup h (TtAll.dt r)
theorem TtAll.dt {H : Hp} : ∀ {xs : List V} {ds : List PyData}, TtAll H xs ds → DtAll H xs ds
  | _, _, .nil => .nil
  | _, _, .cons h r => .cons (Tt.dt h) (TtAll.dt r)
end
theorem TtAll.snoc {H : Hp} : ∀ {xs : List V} {ds : List PyData} {x : V} {d : PyData}, TtAll H xs ds → Tt H x d → TtAll H (xs ++ [x]) (ds ++ [d])
  | _, _, _, _, .nil, h => .cons h .nil
  | _, _, _, _, .cons a r, h => .cons a (TtAll.snoc r h)
def spDeep (n : Nat) : Sp := fun vs H Q _ => ∃ (x : V) (d : PyData), vs = [x] ∧ Th H x d ∧ d.depth ≤ n ∧ plainD d = true ∧ ∀ v H', Same H H' → Tt H' v (deepD d) → Q v H'
theorem ThAll.snoc {H : Hp} : ∀ {xs : List V} {ds : List PyData} {x : V} {d : PyData}, ThAll H xs ds → Th H x d → ThAll H (xs ++ [x]) (ds ++ [d])
  | _, _, _, _, .nil, h => .cons h .nil
  | _, _, _, _, .cons a r, h => .cons a (ThAll.snoc r h)
theorem same_upd {H H' : Hp} {D : Addr} {o : HO} (sm : Same H H') (hD : H D = none) : Same H (upd H' D o) := fun b u hb => by
  rw [upd_ne (ne_of_none hb hD)]
  exact sm b u hb
theorem take_get' {α : Type} : ∀ {l : List α} {i : Nat} {x : α}, l[i]? = some x → l.take (i + 1) = l.take i ++ [x]
  | [], i, x, h => by simp at h
  | a :: l, 0, x, h => by
    have e : a = x := Option.some.inj h
    subst e
    rfl
  | a :: l, i + 1, x, h => by
    show a :: l.take (i + 1) = a :: l.take i ++ [x]
    rw [take_get' (l := l) (i := i) h]
    rfl
theorem leaf_tt {H : Hp} {x : V} {d : PyData} (h : Th H x d) (t : isTupD d = false) (p : plainD d = true) : Tt H x (deepD d) := by
  cases h with
  | non => exact .non
  | bl b => exact .bl b
  | int i => exact .int i
  | str h => exact .str h
  | lst h z r => cases t
  | tup h z r => cases t
  | dct h => rw [plainD] at p; cases p
theorem depth_pos {d : PyData} {n : Nat} (t : isTupD d = true) (hn : d.depth ≤ n) : ∃ m, m + 1 = n := by
  refine ⟨n - 1, ?_⟩
  cases d <;> first | cases t | skip
  all_goals (rw [PyData.depth] at hn; omega)
theorem tup_parts {d : PyData} {m : Nat} (t : isTupD d = true) (hn : d.depth ≤ m + 1) (hp : plainD d = true) : PyData.depthAll (itemsD d) ≤ m ∧ plainAll (itemsD d) = true ∧ deepD d = .tuple ((itemsD d).map deepD) := by
  cases d <;> first | cases t | skip
  all_goals (rw [PyData.depth] at hn; rw [plainD] at hp; rw [deepD, deepAll_map]; exact ⟨Nat.le_of_lt_succ (by first | exact Nat.lt_succ_of_le (by simp only [itemsD]; omega)), hp, rfl⟩)
/-- the first i things laid in the list at D -/
def TPv (H1 : Hp) (D : Addr) (ds : List PyData) (i : Nat) (H2 : Hp) : Prop := ∃ acc, H2 D = some (.lst acc) ∧ acc.length = i ∧ TtAll H2 acc ((ds.take i).map deepD) ∧ Same H1 H2
theorem Tt.tupOf {H : Hp} {x : V} {ds : List PyData} (h : Tt H x (.tuple ds)) : ∃ l xs, x = .ref l ∧ H l = some (.tup xs) ∧ TtAll H xs ds := by
  cases h with
  | tup h hz r => exact ⟨_, _, rfl, h, r⟩
theorem TtAll.get {H : Hp} : ∀ {xs : List V} {ds : List PyData}, TtAll H xs ds → ∀ {i : Nat} {d : PyData}, ds[i]? = some d → ∃ x, xs[i]? = some x ∧ Tt H x d
  | _, _, .nil, _, _, h => by simp at h
  | _, _, .cons (x := x) h r, 0, d, e => ⟨x, rfl, by
    have e' := Option.some.inj e
    rw [← e']
    exact h⟩
  | _, _, .cons h r, i + 1, d, e => TtAll.get r (i := i) e
def BearsN (C : Addr) (x : V) (H : Hp) (E : XK) : Prop := ∀ (d : Addr) (H' : Hp), Same H H' → H' d = some (.xd [(("number" : Str), x)]) → E (.ref C) (some d) H'
def isDat : HO → Bool
  | .lst _ => true
  | .tup _ => true
  | .dK _ => true
  | _ => false
/-- lists, tuples and dicts stay -/
def KeepD (H H' : Hp) : Prop := ∀ a o, H a = some o → isDat o = true → H' a = some o
theorem KeepD.upd {H : Hp} {a : Addr} {o u : HO} (h : H a = some u) (n : isDat u = false) : KeepD H (upd H a o) := fun b v hb d => by
  rw [upd_ne (ne_of hb h (by rintro rfl; rw [d] at n; cases n))]
  exact hb
mutual
theorem Th.keepD {H H' : Hp} (e : KeepD H H') : ∀ {x : V} {d : PyData}, Th H x d → Th H' x d
  | _, _, .non => .non
  | _, _, .bl b => .bl b
  | _, _, .int i => .int i
  | _, _, .str h => .str h
  | _, _, .lst h z r => .lst (e _ _ h rfl) z (ThAll.keepD e r)
  | _, _, .tup h z r => .tup (e _ _ h rfl) z (ThAll.keepD e r)
  | _, _, .dct h => .dct (e _ _ h rfl)
theorem ThAll.keepD {H H' : Hp} (e : KeepD H H') : ∀ {xs : List V} {ds : List PyData}, ThAll H xs ds → ThAll H' xs ds
  | _, _, .nil => .nil
  | _, _, .cons h r => .cons (Th.keepD e h) (ThAll.keepD e r)
end
theorem KeepT.ofD {H H' : Hp} (e : KeepD H H') : KeepT H H' := fun a xs h => e a _ h rfl
theorem BearsN.same {C : Addr} {x : V} {H H1 : Hp} {E : XK} (b : BearsN C x H E) (s : Same H H1) : BearsN C x H1 E := fun d H' e h => b d H' (s.trans e) h
/-- all but lists stay -/
def KeepX (H H' : Hp) : Prop := ∀ a o, H a = some o → (∀ xs, o ≠ .lst xs) → H' a = some o
theorem KeepX.of {H H' : Hp} (e : Same H H') : KeepX H H' := fun a o h _ => e a o h
theorem KeepX.trans {H H1 H2 : Hp} (a : KeepX H H1) (b : KeepX H1 H2) : KeepX H H2 := fun c o h n => b c o (a c o h n) n
theorem KeepX.upd {H : Hp} {a : Addr} {o : HO} {ys : List V} (h : H a = some (.lst ys)) : KeepX H (upd H a o) := fun b u hb n => by
  rw [upd_ne (ne_of hb h (n ys))]
  exact hb
theorem KeepX.t {H H' : Hp} (e : KeepX H H') : KeepT H H' := fun a xs h => e a _ h nofun
theorem KeepX.but {H H' : Hp} {a : Addr} {ys : List V} (h : H a = some (.lst ys)) (b : But a H H') : KeepX H H' := fun c o hc n => b c o hc (ne_of hc h (n ys))
mutual
theorem Tt.dp {K : PySem.W.Frag} {H : Hp} : ∀ {x : V} {d : PyData}, Tt H x d → Dp K H x d
  | _, _, .non => .non
  | _, _, .bl b => .bl b
  | _, _, .int i => .int i
  | _, _, .str h => .str _
  | _, _, .tup h z r => .tup (SqT.of h) (TtAll.dp r)
theorem TtAll.dp {K : PySem.W.Frag} {H : Hp} : ∀ {xs : List V} {ds : List PyData}, TtAll H xs ds → DpAll K H xs ds
  | _, _, .nil => .nil
  | _, _, .cons h r => .cons (Tt.dp h) (TtAll.dp r)
end
theorem Th.lstOf {H : Hp} {x : V} {ds : List PyData} (h : Th H x (.list ds)) : ∃ l xs, x = .ref l ∧ H l = some (.lst xs) ∧ ThAll H xs ds := by
  cases h with
  | lst h hz r => exact ⟨_, _, rfl, h, r⟩
theorem ThAll.got {H : Hp} : ∀ {xs : List V} {ds : List PyData}, ThAll H xs ds → ∀ {i : Nat} {d : PyData}, ds[i]? = some d → ∃ x, xs[i]? = some x ∧ Th H x d
  | _, _, .nil, _, _, h => by simp at h
  | _, _, .cons (x := x) h r, 0, d, e => ⟨x, rfl, by
    have e' := Option.some.inj e
    rw [← e']
    exact h⟩
  | _, _, .cons h r, i + 1, d, e => ThAll.got r (i := i) e
theorem src_upd {H : Hp} {p a : Addr} {o : HO} (h : Src H p) (n : p ≠ a) : Src (upd H a o) p := by
  obtain ⟨x, y, z, hx, r⟩ := h
  exact ⟨x, y, z, by rw [upd_ne n]; exact hx, r⟩
theorem but_updF {H H' : Hp} {p a : Addr} {o : HO} (b : But p H H') (f : H a = none) : But p H (upd H' a o) := fun c u hc nc => by
  rw [upd_ne (ne_of_none hc f)]
  exact b c u hc nc
theorem op_mulStrN {X : Cx} : OpR X (binaryOp .Mult) (fun x y H Q => ∃ (z : Str) (n : Nat), x = .str z ∧ y = .int (n : Int) ∧ 1 ≤ n ∧ n ≤ 100000 ∧ z.length ≤ 100 ∧ Q (.str (Txt.mul z (n : Int))) H) := by
  intro pins s σ H x y v u Q I rx ry h
  obtain ⟨z, n, rfl, rfl, h2, h3, h1, q⟩ := h
  obtain ⟨t, rfl⟩ := rx
  obtain ⟨t', rfl⟩ := ry
  have hb : z.length * n ≤ 10000000 := Nat.le_trans (Nat.mul_le_mul h1 h3) (by decide)
  refine SB.mul ⟨Bool.or_eq_false_iff.mpr ⟨decide_eq_false (by omega), decide_eq_false (by omega)⟩, fun _ _ => ?_, fun _ _ => ?_⟩ fun t' k => ⟨.str _, H, I.tok _, ⟨_, rfl⟩, q⟩
  · have h5 : (92233720368547 : Int) ≤ (2 ^ 63 - 1) / (n : Int) := (Int.le_ediv_iff_mul_le (by omega)).mpr (by omega)
    omega
  · exact decide_eq_false (Nat.not_lt.mpr (by rw [Int.toNat_natCast]; exact Nat.le_trans hb (by decide)))
/-- what is new since H -/
def nw (H H' : Hp) : Hp := fun b => match H b with
  | none => H' b
  | some _ => none
theorem nw_at {H H' : Hp} {b : Addr} (h : H b = none) : nw H H' b = H' b := by unfold nw; rw [h]
theorem nw_sub {H H' : Hp} : Same (nw H H') H' := fun b o h => by
  unfold nw at h
  cases e : H b with
  | none => rw [e] at h; exact h
  | some u => rw [e] at h; cases h
theorem nw_mono {H H1 H2 : Hp} (s : Same H1 H2) : Same (nw H H1) (nw H H2) := fun b o h => by
  unfold nw at h ⊢
  cases e : H b with
  | none => rw [e] at h; exact s b o h
  | some u => rw [e] at h; cases h
theorem nw_from {H0 H H' : Hp} (s : Same H0 H) : Same (nw H H') (nw H0 H') := fun b o h => by
  unfold nw at h ⊢
  cases e : H b with
  | none =>
    rw [e] at h
    rw [s.free e]
    exact h
  | some u => rw [e] at h; cases h
theorem nw_upd {H H' : Hp} {a : Addr} {o u : HO} (h : H a = some u) : Same (nw H H') (nw H (upd H' a o)) := fun b v hb => by
  unfold nw at hb ⊢
  cases e : H b with
  | none =>
    rw [e] at hb
    show upd H' a o b = some v
    rw [upd_ne (ne_of_none h e).symm]
    exact hb
  | some u => rw [e] at hb; cases hb
theorem cut_last (xs : List V) : cutV xs none (some (-1)) = xs.take (xs.length - 1) := by
  unfold cutV
  rw [HT.sIx_none, List.drop_zero]
  have e : HT.sIx xs.length xs.length (some (-1)) = xs.length - 1 := by
    show (if (-1 : Int) < 0 then ((-1 : Int) + (xs.length : Int)).toNat else min (-1 : Int).toNat xs.length) = _
    rw [if_pos (by decide)]
    omega
  rw [e, Nat.sub_zero]
theorem ThAll.take {H : Hp} : ∀ {xs : List V} {ds : List PyData} (k : Nat), ThAll H xs ds → ThAll H (xs.take k) (ds.take k)
  | _, _, 0, _ => .nil
  | _, _, _ + 1, .nil => .nil
  | _, _, k + 1, .cons h r => .cons h (ThAll.take k r)
/-- xs[:-1] + [x], all new -/
theorem cat_cut {K : PySem.W.Frag} {H0 H1 : Hp} {σ : L2.St} {i : Nat} {g : Addr} {xs : List V} {ds : List PyData} {dx : PyData} {tx : TE} {Q : VK} (s01 : Same H0 H1) (hs : σ[i]? = some (some (.ref g))) (hg : H1 g = some (.lst xs)) (tg : ThAll (nw H0 H1) xs ds) (hz : xs.length ≤ 1000)
    (htx : ∀ H' Q', Same H1 H' → (∀ x H2, Same H' H2 → Th (nw H0 H2) x dx → Q' x H2) → tx σ H' Q') (q : ∀ v H2, Same H1 H2 → Th (nw H0 H2) v (.list (ds.take (xs.length - 1) ++ [dx])) → Q v H2) :
    tOp rCat (tSl (rSlL K) (tVar i) tNoPart (tPart (tUn (rU fun i => V.int (-i)) (tC (V.int 1))))) (tLst (tCons tx tNil)) σ H1 Q := by
  refine ⟨_, hs, 1, rfl, -1, rfl, g, xs, rfl, SqL.of hg, fun c hc => ?_⟩
  rw [cut_last]
  have s2 := same_new (o := .lst (xs.take (xs.length - 1))) hc
  refine htx _ _ s2 fun x H3 s3 tx3 => ⟨(by show 1 ≤ sizeLine; decide), fun b hb => ?_⟩
  have s4 := same_new (o := .lst [x]) hb
  have hc3 := s3 _ _ (upd_same (H := H1) (a := c) (o := .lst (xs.take (xs.length - 1))))
  have hz2 : (xs.take (xs.length - 1)).length ≤ 1000 := by rw [List.length_take]; omega
  refine ⟨c, b, _, _, rfl, rfl, s4 _ _ hc3, upd_same, Nat.le_trans (Nat.add_le_add hz2 (Nat.le_refl 1)) (by show 1001 ≤ sizeLine; decide), fun e he => ?_⟩
  have s5 := same_new (o := .lst (xs.take (xs.length - 1) ++ [x])) he
  have sall : Same H1 (upd (upd H3 b (.lst [x])) e (.lst (xs.take (xs.length - 1) ++ [x]))) := s2.trans (s3.trans (s4.trans s5))
  have e0 : H0 e = none := s01.free (s2.free (s3.free (s4.free he)))
  refine q _ _ sall (.lst (by rw [nw_at e0, upd_same]) (by rw [List.length_append]; exact Nat.le_trans (Nat.add_le_add hz2 (Nat.le_refl 1)) (by show 1001 ≤ sizeLine; decide)) ?_)
  exact ((tg.take _).mono (nw_mono sall)).snoc (tx3.mono (nw_mono (s4.trans s5)))
/-- the heap without p -/
def wo (H : Hp) (p : Addr) : Hp := fun b => if b = p then none else H b
theorem wo_sub {H : Hp} {p : Addr} : Same (wo H p) H := fun b o h => by
  unfold wo at h
  split at h
  · cases h
  · exact h
theorem wo_but {H H' : Hp} {p : Addr} (k : But p H H') : Same (wo H p) (wo H' p) := fun b o h => by
  unfold wo at h ⊢
  split at h
  · cases h
  · rename_i n
    rw [if_neg n]
    exact k b o h n
theorem nw_wo {H H' : Hp} {p : Addr} {o : HO} (h : H p = some o) : Same (nw H H') (wo H' p) := fun b u hb => by
  unfold nw at hb
  unfold wo
  cases e : H b with
  | none =>
    rw [e] at hb
    rw [if_neg (fun z => by rw [z, h] at e; cases e)]
    exact hb
  | some _ => rw [e] at hb; cases hb
theorem th_rep {H : Hp} {x : V} {d : PyData} (h : Th H x d) : ∀ n, ThAll H (List.replicate n x) (List.replicate n d)
  | 0 => .nil
  | n + 1 => .cons h (th_rep h n)
theorem shaped_tag (t : Str) (ht : PyData.strOk t = true) (k : Int) : SeqAt.shaped (.tuple [.str t, .int k]) = true := by
  unfold SeqAt.shaped
  rw [Bool.and_eq_true]
  refine ⟨by simp [PyData.canLay0, PyData.canLayAll0, ht], decide_eq_true ?_⟩
  simp [PyData.depth, PyData.depthAll]
theorem shaped_one (t : Str) (ht : PyData.strOk t = true) : SeqAt.shaped (.tuple [.str t]) = true := by
  unfold SeqAt.shaped
  rw [Bool.and_eq_true]
  refine ⟨by simp [PyData.canLay0, PyData.canLayAll0, ht], decide_eq_true ?_⟩
  simp [PyData.depth, PyData.depthAll]
theorem eqv_self {d : PyData} (h : SeqAt.shaped d = true) : PyData.eqv d d = true := SeqAt.eqv_refl _ (SeqAt.canLay_of_shaped h)
theorem nw_but {H0 H H' : Hp} {p : Addr} {o : HO} (h : H0 p = some o) (b : But p H H') : Same (nw H0 H) (nw H0 H') := fun c u hc => by
  unfold nw at hc ⊢
  cases e : H0 c with
  | none =>
    rw [e] at hc
    exact b c u hc (fun z => by rw [z, h] at e; cases e)
  | some _ => rw [e] at hc; cases hc
theorem ThAll.set {H : Hp} {x : V} {d : PyData} (h : Th H x d) : ∀ {xs : List V} {ds : List PyData}, ThAll H xs ds → ∀ i, ThAll H (xs.set i x) (ds.set i d)
  | _, _, .nil, _ => .nil
  | _, _, .cons _ r, 0 => .cons h r
  | _, _, .cons a r, i + 1 => .cons a (ThAll.set h r i)
def rLsOf (K : PySem.W.Frag) : List V → Hp → VK → Prop := fun xs H Q => ∃ p ys, xs = [V.ref p] ∧ (SqL K H p ys ∨ SqT K H p ys) ∧ ∀ l, H l = none → Q (.ref l) (upd H l (.lst ys))
end Ow

namespace Ow
open PySem PySem.Spec PyProof.Rows L2
def IT (l : List Int) : PyData := .tuple (l.map .int)
def TTt (m : List (List Int)) : PyData := .tuple (m.map IT)
def CTt (c : List (List (List Int))) : PyData := .tuple (c.map TTt)
def IL (l : List Int) : PyData := .list (l.map .int)
def TL' (m : List (List Int)) : PyData := .list (m.map IL)
def CL (c : List (List (List Int))) : PyData := .list (c.map TL')
def begOk (d : PyData) : Prop := isTupD d = true ∧ 1 ≤ (itemsD d).length ∧ (itemsD d).length ≤ 1000 ∧ (itemsD d).all isIntD = true
theorem begs_ints {d : PyData} (h : begOk d) : intsD d (itemsD d).length = true := by
  unfold intsD tupOfD
  rw [h.1, h.2.2.2, decide_eq_true rfl]
  rfl
/-- ints alone -/
theorem tt_ints {H : Hp} : ∀ {xs : List V} {ds : List PyData}, ThAll H xs ds → ds.all isIntD = true → ∀ H', TtAll H' xs ds
  | _, _, .nil, _, _ => .nil
  | _, _, .cons (d := d) h r, a, H' => by
    rw [List.all_cons] at a
    obtain ⟨a1, a2⟩ := Bool.and_eq_true_iff.mp a
    cases h with
    | int i => exact .cons (.int i) (tt_ints r a2 H')
    | _ => cases a1
theorem Th.seq2 {H : Hp} {x : V} {d : PyData} (h : Th H x d) (t : isTupD d = true) : ∃ a xs, x = .ref a ∧ (H a = some (.lst xs) ∨ H a = some (.tup xs)) ∧ xs.length ≤ sizeLine ∧ ThAll H xs (itemsD d) := by
  cases h with
  | lst h z r => exact ⟨_, _, rfl, .inl h, z, r⟩
  | tup h z r => exact ⟨_, _, rfl, .inr h, z, r⟩
  | _ => cases t
/-- tuple(x) of ints -/
theorem tup_ints {K : PySem.W.Frag} {H : Hp} {x : V} {d : PyData} {Q : VK} (h : Th H x d) (t : isTupD d = true) (a : (itemsD d).all isIntD = true) (q : ∀ v H', Same H H' → Tt H' v (.tuple (itemsD d)) → Q v H') : rTupOf K [x] H Q := by
  obtain ⟨l, xs, rfl, hl, hz, r⟩ := h.seq2 t
  rcases hl with hl | hl
  · exact ⟨l, xs, rfl, .inl ⟨SqL.of hl, fun m hm => q _ _ (same_new hm) (.tup upd_same hz (tt_ints r a _))⟩⟩
  · exact ⟨l, xs, rfl, .inr ⟨SqT.of hl, q _ _ (Same.refl H) (.tup hl hz (tt_ints r a _))⟩⟩
/-- tuple([f(x) for x in it]) -/
theorem seq_tup {K : PySem.W.Frag} {H : Hp} {σ : L2.St} {i j : Nat} {x : V} {d : PyData} {te : TE} {f : PyData → PyData} {Q : VK} (hs : σ[i]? = some (some x)) (h : Th H x d) (t : isTupD d = true) (hw : ∀ y, wipe ((wipe σ [j]).set j (some y)) [j] = wipe σ [j])
    (hte : ∀ (k : Nat) y dy H' Q', (itemsD d)[k]? = some dy → Same H H' → Th H' y dy → (∀ v H2, Same H' H2 → Tt H2 v (f dy) → Q' v H2) → te ((wipe σ [j]).set j (some y)) H' Q') (q : ∀ v H', Same H H' → Tt H' v (.tuple ((itemsD d).map f)) → Q v H') :
    tCB (rTupOf K) (tCons (tLc (iSeq K (tVar i)) (gName j) tYes te [j]) tNil) σ H Q := by
  obtain ⟨l, xs, rfl, hl, hz, r⟩ := h.seq2 t
  have turn : ∀ D, H D = none → ∀ k y H2, xs[k]? = some y → (∃ acc, H2 D = some (.lst acc) ∧ acc.length = k ∧ TtAll H2 acc (((itemsD d).take k).map f) ∧ Same H H2) → te ((wipe σ [j]).set j (some y)) H2 (fun v H4 => ∃ acc, H4 D = some (.lst acc) ∧ acc.length < sizeLine ∧
      ∃ acc', (upd H4 D (.lst (acc ++ [v]))) D = some (.lst acc') ∧ acc'.length = k + 1 ∧ TtAll (upd H4 D (.lst (acc ++ [v]))) acc' (((itemsD d).take (k + 1)).map f) ∧ Same H (upd H4 D (.lst (acc ++ [v])))) := by
    rintro D hD k y H2 hy ⟨acc, h2, la, ta, sm⟩
    obtain ⟨dy, ed, ty⟩ := r.get hy
    have hk : k < xs.length := (List.getElem?_eq_some_iff.mp hy).1
    refine hte k y dy H2 _ ed sm (ty.mono sm) fun v H3 s3 tv => ⟨acc, s3 _ _ h2, by omega, acc ++ [v], upd_same, by rw [List.length_append, la]; rfl, ?_, same_upd (sm.trans s3) hD⟩
    have kt := KeepT.upd (o := .lst (acc ++ [v])) (s3 _ _ h2)
    rw [take_get' ed, List.map_append]
    exact ((ta.keep (KeepT.of s3)).keep kt).snoc (tv.keep kt)
  have done : ∀ D H2, (∃ acc, H2 D = some (.lst acc) ∧ acc.length = xs.length ∧ TtAll H2 acc (((itemsD d).take xs.length).map f) ∧ Same H H2) → rTupOf K [V.ref D] H2 Q := by
    rintro D H2 ⟨acc, h2, la, ta, sm⟩
    rw [r.len, List.take_length] at ta
    exact ⟨D, acc, rfl, .inl ⟨SqL.of h2, fun m hm => q _ _ (sm.trans (same_new hm)) (.tup upd_same (by omega) (ta.keep (KeepT.of (same_new hm))))⟩⟩
  refine ⟨_, hs, l, rfl, ?_⟩
  rcases hl with hl | hl
  · refine .inl ⟨⟨xs, SqL.of hl⟩, fun D hD => ?_⟩
    exact lc_list (K := K) (xs := xs) (fun k H' => ∃ acc, H' D = some (.lst acc) ∧ acc.length = k ∧ TtAll H' acc (((itemsD d).take k).map f) ∧ Same H H') ⟨[], upd_same, rfl, .nil, same_new hD⟩ (fun k H' _ ⟨_, _, _, _, sm⟩ => SqL.of (sm _ _ hl)) (fun k y H2 hy p => ⟨hw y, yes_go (turn D hD k y H2 hy p)⟩) (done D)
  · refine .inr ⟨⟨xs, SqT.of hl⟩, fun D hD => ?_⟩
    exact lc_tup (K := K) (xs := xs) (fun k H' => ∃ acc, H' D = some (.lst acc) ∧ acc.length = k ∧ TtAll H' acc (((itemsD d).take k).map f) ∧ Same H H') ⟨[], upd_same, rfl, .nil, same_new hD⟩ (fun k H' _ ⟨_, _, _, _, sm⟩ => SqT.of (sm _ _ hl)) (fun k y H2 hy p => ⟨hw y, yes_go (turn D hD k y H2 hy p)⟩) (done D)
theorem deep_ints {ds : List PyData} (h : ds.all isIntD = true) : ds.map deepD = ds := by
  induction ds with
  | nil => rfl
  | cons d r ih =>
    rw [List.all_cons] at h
    obtain ⟨h1, h2⟩ := Bool.and_eq_true_iff.mp h
    rw [List.map_cons, ih h2]
    cases d <;> first | rfl | cases h1
theorem deep_tup {d : PyData} (t : isTupD d = true) : deepD d = .tuple ((itemsD d).map deepD) := by
  cases d <;> first | cases t | skip
  · show deepD (.list _) = _
    rw [deepD, deepAll_map]
    rfl
  · show deepD (.tuple _) = _
    rw [deepD, deepAll_map]
    rfl
theorem tab_parts {d : PyData} {n : Int} (h : tableD d n = true) : isTupD d = true ∧ ((itemsD d).length : Int) = n ∧ ∀ r ∈ itemsD d, intsD r n = true := by
  unfold tableD tupOfD at h
  obtain ⟨h1, h2⟩ := Bool.and_eq_true_iff.mp h
  obtain ⟨h3, h4⟩ := Bool.and_eq_true_iff.mp h1
  exact ⟨h3, of_decide_eq_true h4, List.all_eq_true.mp h2⟩
theorem tabs_parts {d : PyData} {a n : Int} (h : tablesD d a n = true) : isTupD d = true ∧ ((itemsD d).length : Int) = a ∧ ∀ r ∈ itemsD d, tableD r n = true := by
  unfold tablesD tupOfD at h
  obtain ⟨h1, h2⟩ := Bool.and_eq_true_iff.mp h
  obtain ⟨h3, h4⟩ := Bool.and_eq_true_iff.mp h1
  exact ⟨h3, of_decide_eq_true h4, List.all_eq_true.mp h2⟩
theorem ints_parts {d : PyData} {n : Int} (h : intsD d n = true) : isTupD d = true ∧ (itemsD d).all isIntD = true ∧ ((itemsD d).length : Int) = n := by
  unfold intsD tupOfD at h
  obtain ⟨h1, h2⟩ := Bool.and_eq_true_iff.mp h
  obtain ⟨h3, h4⟩ := Bool.and_eq_true_iff.mp h1
  exact ⟨h3, h2, of_decide_eq_true h4⟩
/-- a store, by its parts -/
def spSInit (K : PySem.W.Frag) (C CA CS : Addr) : Sp := fun vs H Q E => ∃ (self dx : Addr) (x b c e : V) (db dc de : PyData), vs = [.ref self, x, b, c, e] ∧ H self = some (.ins C dx []) ∧ Known K H x ∧ Th H b db ∧ Th H c dc ∧ Th H e de ∧
  (asksV x = false → Bears CA x H E) ∧ ∀ z, x = .str z → asksV x = true →
    (¬ begOk db → BearsP CS (.str "begins") H E) ∧ (begOk db →
      (tablesD dc z.length (itemsD db).length = false → BearsP CS (.str "costs") H E) ∧ (tablesD dc z.length (itemsD db).length = true →
        (intsD de (itemsD db).length = false → BearsP CS (.str "ends") H E) ∧ (intsD de (itemsD db).length = true →
          ∀ vb vc ve H1, But self H H1 → H1 self = some (.ins C dx [(("asks" : Str), .str z), (("begins" : Str), vb), (("costs" : Str), vc), (("ends" : Str), ve)]) →
            Tt H1 vb (.tuple (itemsD db)) → Tt H1 vc (deepD dc) → Tt H1 ve (.tuple (itemsD de)) → Q .non H1)))
end Ow
namespace As
open PySem PySem.Spec PyProof.Rows L2 Ow
section
variable {P : Program} {w : World} {K : PySem.W.Frag} {mg : Str → Option Value} {base : Heap} {A : Ad}
/-- what the class Store has -/
structure SCls (K : PySem.W.Frag) (A : Ad) : Prop where
  cls : Cls K A.c_Store
  nAsks : NoAttr K A.c_Store "asks"
  nBeg : NoAttr K A.c_Store "begins"
  nCost : NoAttr K A.c_Store "costs"
  nEnds : NoAttr K A.c_Store "ends"
  mkr : Mk K A.c_Store A.f_Store_init
  hcl : PySem.W.findIn K (.ref A.c_Store) "__class__" = some (some (.builtin "object.__class__"))
  hgs : PySem.W.specialIn K (.builtin "object.__class__") "__get__" = some (some (.builtin "getset_descriptor.__get__"))
  htk : PySem.W.takesIn K (.builtin "object.__class__") = some true
  hm : PySem.W.mroIn K A.c_Store (.type "object") = some true
  isG : PySem.W.kitOne K (.ref A.c_Store) (.ref A.c_Store) = some true
  isStr : PySem.W.kitOne K (.type "str") (.ref A.c_Store) = some false
  isTup : PySem.W.kitOne K (.type "tuple") (.ref A.c_Store) = some false
  lenF : PySem.W.findIn K (.ref A.c_Store) "__len__" = some (some (.ref A.f_Store_len))
  lenN : PySem.W.isFn K (.ref A.f_Store_len) = true
  eqF : PySem.W.findIn K (.ref A.c_Store) "__eq__" = some (some (.ref A.f_Store_eq))
  eqN : PySem.W.isFn K (.ref A.f_Store_eq) = true
  nfG : PySem.W.notFirst K A.c_Store (.ref A.c_Store) = true
  nfS : PySem.W.notFirst K A.c_Store (.type "str") = true
  nfT : PySem.W.notFirst K A.c_Store (.type "tuple") = true
  mPrice : Meth K A.c_Store "price" A.f_Store_price
abbrev N_Store_init : List Str := ["self", "asks", "begins", "costs", "ends", "table", "row"]
theorem sc_Store_init : FnScope N_Store_init ["self", "asks", "begins", "costs", "ends"] (defScope s_Store_init) := ⟨rfl, rfl, rfl, by decide +kernel, rfl, by decide +kernel, by decide +kernel⟩
theorem ok_init {fd : FuncData} (F : Fun K "__init__" "Store.__init__" s_Store_init A.f_Store_init fd) (T : Tx K mg A) (SC : SCls K A) (LB : PySem.LowP.LowTxt K mg "BadStore" A.c_BadStore A.f_BadStore_init)
    (KC : Kp P w K mg base (L2.CX P w) 3 A.f_check_asks ["thing"] (spChkAsks K A)) (KT : Kp P w K mg base CX0 1 A.f_is_tuple ["thing"] spIsTup) (KI : Kp P w K mg base CX0 3 A.f_are_integers ["thing", "count"] spInts) (KB : Kp P w K mg base CX0 5 A.f_are_tables ["thing", "asks", "states"] spTables) :
    FnOk P w K mg base (L2.CX P w) 6 A.f_Store_init fd ["self", "asks", "begins", "costs", "ends"] (spSInit K A.c_Store A.c_BadAsks A.c_BadStore) := by
  obtain ⟨fdC, G_check_asks, b_check_asks, k_check_asks⟩ := KC
  obtain ⟨fdT, G_is_tuple, b_is_tuple, k_is_tuple⟩ := KT
  obtain ⟨fdI, G_are_integers, b_are_integers, k_are_integers⟩ := KI
  obtain ⟨fdB, G_are_tables, b_are_tables, k_are_tables⟩ := KB
  have nd := sc_Store_init.nd
  refine F.okX sc_Store_init (fun vs H Q E h => ?_) (fun cdv A' outer s H vs Q E hr h => ?_)
  · obtain ⟨self, dx, x, b, c, e, db, dc, de, rfl, _⟩ := h
    rfl
  · obtain ⟨self, dx, x, b, c, e, db, dc, de, rfl, h0, kx, hb, hc, he, badA, good⟩ := h
    refine ⟨_, (pss_cons (ps_expr (pe_callS G_check_asks (hr.mono (by omega)) rfl T.mcheck_asks k_check_asks b_check_asks (fun σ => passAt (takes_of rfl rfl rfl rfl) σ) (pa_cons (pv 1) pa_nil)))
  (pss_cons (ps_if (PW.pt (pw_or (pt_not (pt_val (pe_call G_is_tuple (hr.mono (by omega)) rfl T.mis_tuple k_is_tuple b_is_tuple .nil pass0 (pa_cons (pv 2) pa_nil)))) (pw_or (pt_not (pt_chain op_le op_le pe_int (pe_callB call_len (by rfl) T.nlen (by decide +kernel) (pa_cons (pv 2) pa_nil)) (pe_glob (v := .int 1000) rfl T.mMOST_STATES ⟨_, rfl⟩))) (pw_or1 (pt_not (pt_val (pe_call G_are_integers (hr.mono (by omega)) rfl T.mare_integers k_are_integers b_are_integers .nil pass0 (pa_cons (pv 2) (pa_cons (pe_callB call_len (by rfl) T.nlen (by decide +kernel) (pa_cons (pv 2) pa_nil)) pa_nil))))))))) (pss_one (ps_raiseThP rfl LB hr (takes_of rfl rfl rfl rfl) (pa_cons pe_str pa_nil))) pss_nil)
  (pss_cons (ps_if (pt_not (pt_val (pe_call G_are_tables (hr.mono (by omega)) rfl T.mare_tables k_are_tables b_are_tables .nil pass0 (pa_cons (pv 3) (pa_cons (pe_callB call_len (by rfl) T.nlen (by decide +kernel) (pa_cons (pv 1) pa_nil)) (pa_cons (pe_callB call_len (by rfl) T.nlen (by decide +kernel) (pa_cons (pv 2) pa_nil)) pa_nil)))))) (pss_one (ps_raiseThP rfl LB hr (takes_of rfl rfl rfl rfl) (pa_cons pe_str pa_nil))) pss_nil)
  (pss_cons (ps_if (pt_not (pt_val (pe_call G_are_integers (hr.mono (by omega)) rfl T.mare_integers k_are_integers b_are_integers .nil pass0 (pa_cons (pv 4) (pa_cons (pe_callB call_len (by rfl) T.nlen (by decide +kernel) (pa_cons (pv 2) pa_nil)) pa_nil))))) (pss_one (ps_raiseThP rfl LB hr (takes_of rfl rfl rfl rfl) (pa_cons pe_str pa_nil))) pss_nil)
  (pss_cons (ps_fld (pv 0) (pv 1) (by rfl))
  (pss_cons (ps_fld (pv 0) (pe_callTy cr_tupOf (by rfl) T.ntuple (by decide +kernel) (pa_cons (pv 2) pa_nil)) (by rfl))
  (pss_cons (ps_fld (pv 0) (pe_callTy cr_tupOf (by rfl) T.ntuple (by decide +kernel) (pa_cons (pe_lc (own := [("table", 5)]) (g := gName 5) (tt := tYes) rfl nd (pi_seq (pv 3)) (blkOk_by (own := [("table", 5)]) (N := N_Store_init) (sc := defScope s_Store_init) (by decide +kernel)) (fun _ _ _ _ _ => (pg_name (i := 5) nd rfl (by first | exact Or.inl rfl | exact Or.inr rfl))) (fun _ _ _ _ _ => pts_nil) (fun _ _ _ _ _ => (pe_callTy (show CallR _ _ (rTupOf K) from cr_tupOf) (by rfl) T.ntuple (by decide +kernel) (pa_cons (pe_lc (own := [("row", 6)]) (g := gName 6) (tt := tYes) rfl nd (show PI _ _ _ (iSeq K (tVar 5)) from pi_seq (pv 5)) (blkOk_by (own := [("row", 6)]) (N := N_Store_init) (sc := lcSc (arg0 (valAt (defBody s_Store_init) 6))) (by decide +kernel)) (fun _ _ _ _ _ => (pg_name (i := 6) nd rfl (by first | exact Or.inl rfl | exact Or.inr rfl))) (fun _ _ _ _ _ => pts_nil) (fun _ _ _ _ _ => (pe_callTy (show CallR _ _ (rTupOf K) from cr_tupOf) (by rfl) T.ntuple (by decide +kernel) (pa_cons (pv 6) pa_nil)))) pa_nil)))) pa_nil)) (by rfl))
  (pss_one (ps_fld (pv 0) (pe_callTy cr_tupOf (by rfl) T.ntuple (by decide +kernel) (pa_cons (pv 4) pa_nil)) (by rfl)))))))))), ?_⟩
    refine ⟨_, rfl, x, rfl, kx, fun e => badA e, fun ea H1 s1 => ?_⟩
    obtain ⟨z, rfl⟩ : ∃ z, x = .str z := by
      cases x <;> first | exact ⟨_, rfl⟩ | cases ea
    obtain ⟨badB, goodB⟩ := good z rfl ea
    have hzl : z.length ≤ sizeLine := by
      rcases kx with ⟨z', ez, hz⟩ | ⟨h1, _⟩
      · cases ez
        exact hz
      · exact absurd rfl (h1 z)
    refine ⟨_, rfl, b, db, rfl, hb.mono s1, fun H2 s2 => ⟨_, rfl, ?_⟩⟩
    have s12 := s1.trans s2
    cases t : isTupD db with
    | false => exact iteT (iteT ⟨_, rfl, fun dd hd => badB (fun c => by have := c.1; rw [t] at this; cases this) dd _ (s12.trans (same_new hd)) upd_same⟩)
    | true =>
      refine iteF ?_
      obtain ⟨la, xs, rfl, hsq, hz, rb⟩ := (hb.mono s12).seq (K := K) t
      have lenv : ∀ H', Same H2 H' → LenV (cxOf (L2.CX P w) P w K mg base N_Store_init "Store.__init__" (defScope s_Store_init) A.f_Store_init cdv A' outer s H E).K (.ref la) H' xs.length := fun H' sm => by
        rcases hsq with q | q
        · exact .inl ⟨_, L2.Same.seq sm q, rfl⟩
        · exact .inr ⟨_, Ow.Same.sqT sm q, rfl⟩
      have nb : ∀ c : ¬ begOk db, BearsP A.c_BadStore (.str "begins") H E := badB
      refine ⟨_, rfl, _, xs.length, rfl, lenv H2 (Same.refl H2), _, _, rfl, rfl, _, rfl, ?_⟩
      by_cases c1 : 1 ≤ xs.length
      · refine iteY (by omega) ⟨_, _, rfl, rfl, _, rfl, ?_⟩
        by_cases c2 : xs.length ≤ 1000
        · refine iteNS (by omega) ?_
          refine ⟨_, rfl, _, rfl, _, xs.length, rfl, lenv H2 (Same.refl H2), .ref la, db, _, rfl, hb.mono s12, fun H3 s3 => ⟨_, rfl, ?_⟩⟩
          have s13 := s12.trans s3
          have ei : intsD db xs.length = (itemsD db).all isIntD := by
            unfold intsD tupOfD
            rw [t, rb.len, decide_eq_true rfl]
            rfl
          rw [ei]
          cases ai : (itemsD db).all isIntD with
          | false => exact iteT ⟨_, rfl, fun dd hd => badB (fun c => by have := c.2.2.2; rw [ai] at this; cases this) dd _ (s13.trans (same_new hd)) upd_same⟩
          | true =>
            refine iteF ?_
            have bo : begOk db := ⟨t, by rw [← rb.len]; exact c1, by rw [← rb.len]; exact c2, ai⟩
            obtain ⟨badC, goodC⟩ := goodB bo
            refine ⟨_, rfl, _, rfl, V.str z, _, rfl, ⟨hzl, rfl⟩, _, rfl, _, xs.length, rfl, lenv H3 s3, c, dc, _, _, rfl, hc.mono s13, fun H4 s4 => ⟨_, rfl, ?_⟩⟩
            have s14 := s13.trans s4
            cases ec : tablesD dc z.length xs.length with
            | false => exact iteT ⟨_, rfl, fun dd hd => badC (by rw [← rb.len]; exact ec) dd _ (s14.trans (same_new hd)) upd_same⟩
            | true =>
              refine iteF ?_
              obtain ⟨badE, goodE⟩ := goodC (by rw [← rb.len]; exact ec)
              refine ⟨_, rfl, _, rfl, _, xs.length, rfl, lenv H4 (s3.trans s4), e, de, _, rfl, he.mono s14, fun H5 s5 => ⟨_, rfl, ?_⟩⟩
              have s15 := s14.trans s5
              cases ee : intsD de xs.length with
              | false => exact iteT ⟨_, rfl, fun dd hd => badE (by rw [← rb.len]; exact ee) dd _ (s15.trans (same_new hd)) upd_same⟩
              | true =>
                refine iteF ?_
                have fin := goodE (by rw [← rb.len]; exact ee)
                obtain ⟨te1, te2, te3⟩ := ints_parts ee
                obtain ⟨tc1, tc2, tc3⟩ := tabs_parts ec
                have h5 := s15 _ _ h0
                refine ⟨_, rfl, _, rfl, self, A.c_Store, dx, [], rfl, h5, SC.cls, SC.nAsks, by decide, ?_⟩
                have p1 : putF "asks" (V.str z) [] = [(("asks" : Str), V.str z)] := rfl
                rw [p1]
                have k6 : KeepD H5 (upd H5 self (.ins A.c_Store dx [(("asks" : Str), V.str z)])) := KeepD.upd h5 rfl
                have b6 : But self H (upd H5 self (.ins A.c_Store dx [(("asks" : Str), V.str z)])) := (But.of s15).trans But.upd
                have h6 : (upd H5 self (.ins A.c_Store dx [(("asks" : Str), V.str z)])) self = some (.ins A.c_Store dx [(("asks" : Str), V.str z)]) := upd_same
                have hb6 := (hb.mono s15).keepD k6
                have hc6 := (hc.mono s15).keepD k6
                have he6 := (he.mono s15).keepD k6
                generalize upd H5 self (.ins A.c_Store dx [(("asks" : Str), V.str z)]) = H6 at b6 h6 hb6 hc6 he6 ⊢
                refine ⟨_, rfl, ?_⟩
                dsimp only [tNil]
                refine tup_ints hb6 t ai fun vb H7 s7 tb => ⟨_, rfl, self, A.c_Store, dx, _, rfl, s7 _ _ h6, SC.cls, SC.nBeg, (by show 1 < 1000; decide), ?_⟩
                have p2 : putF "begins" vb [(("asks" : Str), V.str z)] = [(("asks" : Str), V.str z), (("begins" : Str), vb)] := rfl
                rw [p2]
                have k8 : KeepD H7 (upd H7 self (.ins A.c_Store dx [(("asks" : Str), V.str z), (("begins" : Str), vb)])) := KeepD.upd (s7 _ _ h6) rfl
                have b8 : But self H (upd H7 self (.ins A.c_Store dx [(("asks" : Str), V.str z), (("begins" : Str), vb)])) := (b6.trans (But.of s7)).trans But.upd
                have h8 : (upd H7 self (.ins A.c_Store dx [(("asks" : Str), V.str z), (("begins" : Str), vb)])) self = some (.ins A.c_Store dx [(("asks" : Str), V.str z), (("begins" : Str), vb)]) := upd_same
                have tb8 := tb.keep (KeepT.ofD k8)
                have hc8 := (hc6.mono s7).keepD k8
                have he8 := (he6.mono s7).keepD k8
                generalize upd H7 self (.ins A.c_Store dx [(("asks" : Str), V.str z), (("begins" : Str), vb)]) = H8 at b8 h8 tb8 hc8 he8 ⊢
                refine seq_tup (f := deepD) rfl hc8 tc1 (fun _ => rfl) (fun k y dy H' Q' ek sk ty qk => ?_) fun vc H9 s9 tvc => ⟨_, rfl, self, A.c_Store, dx, _, rfl, s9 _ _ h8, SC.cls, SC.nCost, (by show 2 < 1000; decide), ?_⟩
                · obtain ⟨tt1, tt2, tt3⟩ := tab_parts (tc3 dy (List.mem_of_getElem? ek))
                  refine seq_tup (f := deepD) rfl ty tt1 (fun _ => rfl) (fun k2 y2 dy2 H2' Q2' ek2 sk2 ty2 qk2 => ?_) fun v H9 s9 tv => qk v H9 s9 (by rw [deep_tup tt1]; exact tv)
                  obtain ⟨r1, r2, r3⟩ := ints_parts (tt3 dy2 (List.mem_of_getElem? ek2))
                  refine ⟨_, rfl, ?_⟩
                  dsimp only [tNil]
                  exact tup_ints ty2 r1 r2 fun v H9 s9 tv => qk2 v H9 s9 (by rw [deep_tup r1, deep_ints r2]; exact tv)
                · have p3 : putF "costs" vc [(("asks" : Str), V.str z), (("begins" : Str), vb)] = [(("asks" : Str), V.str z), (("begins" : Str), vb), (("costs" : Str), vc)] := rfl
                  rw [p3]
                  have k10 : KeepD H9 (upd H9 self (.ins A.c_Store dx [(("asks" : Str), V.str z), (("begins" : Str), vb), (("costs" : Str), vc)])) := KeepD.upd (s9 _ _ h8) rfl
                  have b10 : But self H (upd H9 self (.ins A.c_Store dx [(("asks" : Str), V.str z), (("begins" : Str), vb), (("costs" : Str), vc)])) := (b8.trans (But.of s9)).trans But.upd
                  have h10 : (upd H9 self (.ins A.c_Store dx [(("asks" : Str), V.str z), (("begins" : Str), vb), (("costs" : Str), vc)])) self = some (.ins A.c_Store dx [(("asks" : Str), V.str z), (("begins" : Str), vb), (("costs" : Str), vc)]) := upd_same
                  have tb10 := (tb8.keep (KeepT.of s9)).keep (KeepT.ofD k10)
                  have tc10 := tvc.keep (KeepT.ofD k10)
                  have he10 := (he8.mono s9).keepD k10
                  generalize upd H9 self (.ins A.c_Store dx [(("asks" : Str), V.str z), (("begins" : Str), vb), (("costs" : Str), vc)]) = H10 at b10 h10 tb10 tc10 he10 ⊢
                  refine ⟨_, rfl, ?_⟩
                  dsimp only [tNil]
                  refine tup_ints he10 te1 te2 fun ve H11 s11 tve => ⟨_, rfl, self, A.c_Store, dx, _, rfl, s11 _ _ h10, SC.cls, SC.nEnds, (by show 3 < 1000; decide), ?_⟩
                  have p4 : putF "ends" ve [(("asks" : Str), V.str z), (("begins" : Str), vb), (("costs" : Str), vc)] = [(("asks" : Str), V.str z), (("begins" : Str), vb), (("costs" : Str), vc), (("ends" : Str), ve)] := rfl
                  rw [p4]
                  have kt : KeepT H11 (upd H11 self (.ins A.c_Store dx [(("asks" : Str), V.str z), (("begins" : Str), vb), (("costs" : Str), vc), (("ends" : Str), ve)])) := KeepT.ofD (KeepD.upd (s11 _ _ h10) rfl)
                  rw [← deep_tup tc1] at tc10
                  exact fin vb vc ve _ ((b10.trans (But.of s11)).trans But.upd) upd_same ((tb10.keep (KeepT.of s11)).keep kt) ((tc10.keep (KeepT.of s11)).keep kt) (tve.keep kt)
        · exact iteNN (by omega) ⟨_, rfl, fun dd hd => badB (fun c => c2 (by rw [rb.len]; exact c.2.2.1)) dd _ (s12.trans (same_new hd)) upd_same⟩
      · exact iteN (by omega) ⟨_, rfl, iteT ⟨_, rfl, fun dd hd => badB (fun c => c1 (by rw [rb.len]; exact c.2.1)) dd _ (s12.trans (same_new hd)) upd_same⟩⟩
end
end As

namespace Ow
open PySem PySem.Spec PyProof.Rows L2
/-! data of ints, compared -/
theorem eqv_int (a b : Int) : PyData.eqv (.int a) (.int b) = decide (a = b) := by
  rw [PyData.eqv]
  exact Bool.beq_eq_decide_eq _ _
theorem eqvAll_map {α : Type} [DecidableEq α] (f : α → PyData) (h : ∀ a b, PyData.eqv (f a) (f b) = decide (a = b)) : ∀ a b : List α, PyData.eqvAll (a.map f) (b.map f) = decide (a = b)
  | [], [] => by simp [PyData.eqvAll]
  | [], b :: bs => by simp [PyData.eqvAll]
  | a :: as, [] => by simp [PyData.eqvAll]
  | a :: as, b :: bs => by
    rw [List.map_cons, List.map_cons, PyData.eqvAll, h, eqvAll_map f h as bs]
    simp
theorem eqv_IT (a b : List Int) : PyData.eqv (IT a) (IT b) = decide (a = b) := by
  unfold IT; rw [PyData.eqv]; exact eqvAll_map _ eqv_int a b
theorem eqv_TTt (a b : List (List Int)) : PyData.eqv (TTt a) (TTt b) = decide (a = b) := by
  unfold TTt; rw [PyData.eqv]; exact eqvAll_map _ eqv_IT a b
theorem eqv_CTt (a b : List (List (List Int))) : PyData.eqv (CTt a) (CTt b) = decide (a = b) := by
  unfold CTt; rw [PyData.eqv]; exact eqvAll_map _ eqv_TTt a b
theorem lay_map {α : Type} (f : α → PyData) (h : ∀ a, (f a).canLay0 = true) : ∀ l : List α, PyData.canLayAll0 (l.map f) = true
  | [] => by simp [PyData.canLayAll0]
  | a :: r => by rw [List.map_cons, PyData.canLayAll0, h, lay_map f h r]; rfl
theorem dep_map {α : Type} (f : α → PyData) (k : Nat) (h : ∀ a, (f a).depth ≤ k) : ∀ l : List α, PyData.depthAll (l.map f) ≤ k
  | [] => by simp [PyData.depthAll]
  | a :: r => by
    rw [List.map_cons, PyData.depthAll]
    exact Nat.max_le.mpr ⟨h a, dep_map f k h r⟩
theorem lay_IT (l : List Int) : (IT l).canLay0 = true := by unfold IT; rw [PyData.canLay0]; exact lay_map _ (fun a => by rw [PyData.canLay0]) l
theorem lay_TTt (l : List (List Int)) : (TTt l).canLay0 = true := by unfold TTt; rw [PyData.canLay0]; exact lay_map _ lay_IT l
theorem lay_CTt (l : List (List (List Int))) : (CTt l).canLay0 = true := by unfold CTt; rw [PyData.canLay0]; exact lay_map _ lay_TTt l
theorem dep_int (a : Int) : (PyData.int a).depth ≤ 0 := by rw [PyData.depth]; exact Nat.le_refl 0
theorem dep_IT (l : List Int) : (IT l).depth ≤ 1 := by unfold IT; rw [PyData.depth]; have := dep_map _ 0 dep_int l; omega
theorem dep_TTt (l : List (List Int)) : (TTt l).depth ≤ 2 := by unfold TTt; rw [PyData.depth]; have := dep_map _ 1 dep_IT l; omega
theorem dep_CTt (l : List (List (List Int))) : (CTt l).depth ≤ 3 := by unfold CTt; rw [PyData.depth]; have := dep_map _ 2 dep_TTt l; omega
theorem shaped_of {d : PyData} (h : d.canLay0 = true) (k : d.depth ≤ 64) : SeqAt.shaped d = true := by
  unfold SeqAt.shaped
  rw [h, Bool.true_and]
  exact decide_eq_true k
theorem sh_IT (l : List Int) : SeqAt.shaped (IT l) = true := shaped_of (lay_IT l) (Nat.le_trans (dep_IT l) (by decide))
theorem sh_CTt (l : List (List (List Int))) : SeqAt.shaped (CTt l) = true := shaped_of (lay_CTt l) (Nat.le_trans (dep_CTt l) (by decide))
/-- an instance of the class at C: the store of these parts -/
def IsS (C : Addr) (H : Hp) (g : Addr) (z : Str) (b : List Int) (c : List (List (List Int))) (e : List Int) : Prop := ∃ dx vb vc ve, H g = some (.ins C dx [(("asks" : Str), .str z), (("begins" : Str), vb), (("costs" : Str), vc), (("ends" : Str), ve)]) ∧
  Tt H vb (IT b) ∧ Tt H vc (CTt c) ∧ Tt H ve (IT e)
theorem IsS.keep {C g : Addr} {H H' : Hp} {z : Str} {b e : List Int} {c : List (List (List Int))} (h : IsS C H g z b c e) (k : KeepX H H') : IsS C H' g z b c e := by
  obtain ⟨dx, vb, vc, ve, h1, h2, h3, h4⟩ := h
  exact ⟨dx, vb, vc, ve, k _ _ h1 nofun, h2.keep k.t, h3.keep k.t, h4.keep k.t⟩
theorem tt_int_at {H : Hp} {x : V} {l : List Int} {k : Nat} {i : Int} (h : Tt H x (IT l)) (hk : l[k]? = some i) : ∃ a xs, x = .ref a ∧ H a = some (.tup xs) ∧ xs[k]? = some (.int i) := by
  obtain ⟨a, xs, rfl, ha, r⟩ := Tt.tupOf h
  obtain ⟨y, ey, ty⟩ := r.get (i := k) (d := .int i) (by rw [List.getElem?_map, hk]; rfl)
  cases ty
  exact ⟨a, xs, rfl, ha, ey⟩
theorem tt_row_at {H : Hp} {x : V} {l : List (List Int)} {k : Nat} {r : List Int} (h : Tt H x (TTt l)) (hk : l[k]? = some r) : ∃ a xs y, x = .ref a ∧ H a = some (.tup xs) ∧ xs[k]? = some y ∧ Tt H y (IT r) := by
  obtain ⟨a, xs, rfl, ha, q⟩ := Tt.tupOf h
  obtain ⟨y, ey, ty⟩ := q.get (i := k) (d := IT r) (by rw [List.getElem?_map, hk]; rfl)
  exact ⟨a, xs, y, rfl, ha, ey, ty⟩
theorem tt_tab_at {H : Hp} {x : V} {l : List (List (List Int))} {k : Nat} {r : List (List Int)} (h : Tt H x (CTt l)) (hk : l[k]? = some r) : ∃ a xs y, x = .ref a ∧ H a = some (.tup xs) ∧ xs[k]? = some y ∧ Tt H y (TTt r) := by
  obtain ⟨a, xs, rfl, ha, q⟩ := Tt.tupOf h
  obtain ⟨y, ey, ty⟩ := q.get (i := k) (d := TTt r) (by rw [List.getElem?_map, hk]; rfl)
  exact ⟨a, xs, y, rfl, ha, ey, ty⟩
end Ow
namespace As
open PySem PySem.Spec PyProof.Rows L2 Ow
section
variable {P : Program} {w : World} {K : PySem.W.Frag} {mg : Str → Option Value} {base : Heap} {A : Ad}
abbrev N_Store_len : List Str := ["self"]
theorem sc_Store_len : FnScope N_Store_len ["self"] (defScope s_Store_len) := ⟨rfl, rfl, rfl, by decide +kernel, rfl, by decide +kernel, by decide +kernel⟩
def spSLen (C : Addr) : Sp := fun vs H Q E => ∃ (g : Addr) (z : Str) (b e : List Int) (c : List (List (List Int))), vs = [.ref g] ∧ IsS C H g z b c e ∧ Q (.int b.length) H
theorem ok_slen {fd : FuncData} (F : Fun K "__len__" "Store.__len__" s_Store_len A.f_Store_len fd) (T : Tx K mg A) (SC : SCls K A) : FnOk P w K mg base CX0 1 A.f_Store_len fd ["self"] (spSLen A.c_Store) := by
  have nd := sc_Store_len.nd
  refine F.ok sc_Store_len (fun vs H Q E h => ?_) (fun cdv A' outer s H vs Q E hr h => ?_)
  · obtain ⟨g, z, b, e, c, rfl, _⟩ := h
    rfl
  · obtain ⟨g, z, b, e, c, rfl, ⟨dx, vb, vc, ve, hg, tb, tc, te⟩, q⟩ := h
    refine ⟨_, (pss_one (ps_ret (pe_callB call_len (by rfl) T.nlen (by decide +kernel) (pa_cons (pe_fld (pv 0) (by rfl)) pa_nil)))), ?_⟩
    obtain ⟨l, xs, rfl, hl, r⟩ := Tt.tupOf tb
    have el : xs.length = b.length := by rw [r.dt.len, List.length_map]
    refine ⟨_, rfl, g, A.c_Store, dx, _, _, rfl, hg, SC.cls, SC.nBeg, rfl, _, xs.length, rfl, .inr ⟨_, SqT.of hl, rfl⟩, ?_⟩
    rw [el]
    exact q
abbrev N_Store_eq : List Str := ["self", "other"]
theorem sc_Store_eq : FnScope N_Store_eq ["self", "other"] (defScope s_Store_eq) := ⟨rfl, rfl, rfl, by decide +kernel, rfl, by decide +kernel, by decide +kernel⟩
def spSEq (K : PySem.W.Frag) (C : Addr) : Sp := fun vs H Q E => ∃ (g : Addr) (y : V) (z : Str) (b e : List Int) (c : List (List (List Int))), vs = [.ref g, y] ∧ IsS C H g z b c e ∧
  ((∃ z2, y = .str z2 ∧ Q (.bl false) H) ∨ (∃ l xs, y = .ref l ∧ H l = some (.tup xs) ∧ Q (.bl false) H) ∨
    ∃ g2 z2 b2 c2 e2, y = .ref g2 ∧ IsS C H g2 z2 b2 c2 e2 ∧ Q (.bl (decide (z = z2) && (decide (b = b2) && (decide (c = c2) && decide (e = e2))))) H)
theorem ok_seq {fd : FuncData} (F : Fun K "__eq__" "Store.__eq__" s_Store_eq A.f_Store_eq fd) (T : Tx K mg A) (SC : SCls K A) : FnOk P w K mg base CX0 1 A.f_Store_eq fd ["self", "other"] (spSEq K A.c_Store) := by
  have nd := sc_Store_eq.nd
  refine F.ok sc_Store_eq (fun vs H Q E h => ?_) (fun cdv A' outer s H vs Q E hr h => ?_)
  · obtain ⟨g, y, z, b, e, c, rfl, _⟩ := h
    rfl
  · obtain ⟨g, y, z, b, e, c, rfl, ⟨dx, vb, vc, ve, hg, tb, tc, te⟩, h⟩ := h
    refine ⟨_, (pss_one (ps_ret (pe_and (pe_callB call_isi (by rfl) T.nisinstance (by decide +kernel) (pa_cons (pv 1) (pa_cons (pe_glob (v := .ref A.c_Store) rfl T.mStore rfl) pa_nil))) (pe_and (pe_cmpR op_eq (pe_fld (pv 0) (by rfl)) (pe_fld (pv 1) (by rfl)) (nomark _)) (pe_and (pe_cmpR (op_eqD hr.units) (pe_fld (pv 0) (by rfl)) (pe_fld (pv 1) (by rfl)) (nomark _)) (pe_and (pe_cmpR (op_eqD hr.units) (pe_fld (pv 0) (by rfl)) (pe_fld (pv 1) (by rfl)) (nomark _)) (pe_one (pe_cmpR (op_eqD hr.units) (pe_fld (pv 0) (by rfl)) (pe_fld (pv 1) (by rfl)) (nomark _))))))))), ?_⟩
    rcases h with ⟨z2, rfl, q⟩ | ⟨l, xs, rfl, hl, q⟩ | ⟨g2, z2, b2, c2, e2, rfl, ⟨dx2, vb2, vc2, ve2, hg2, tb2, tc2, te2⟩, q⟩
    · exact ⟨_, rfl, _, _, _, _, false, rfl, .own _, .base (.str _), SC.isStr, _, rfl, iteF q⟩
    · exact ⟨_, rfl, _, _, _, _, false, rfl, .own _, .base (.tup hl), SC.isTup, _, rfl, iteF q⟩
    · refine ⟨_, rfl, _, _, _, _, true, rfl, .own _, .base (.ins hg2 SC.cls SC.hcl SC.hgs SC.htk SC.hm), SC.isG, _, rfl, iteT ?_⟩
      refine ⟨_, rfl, g, A.c_Store, dx, _, _, rfl, hg, SC.cls, SC.nAsks, rfl, _, rfl, g2, A.c_Store, dx2, _, _, rfl, hg2, SC.cls, SC.nAsks, rfl, rfl, _, rfl, ?_⟩
      by_cases ez : z = z2
      · subst ez
        rw [decide_eq_true rfl, Bool.true_and] at q
        refine iteY rfl ?_
        refine ⟨_, rfl, g, A.c_Store, dx, _, _, rfl, hg, SC.cls, SC.nBeg, rfl, _, rfl, g2, A.c_Store, dx2, _, _, rfl, hg2, SC.cls, SC.nBeg, rfl, _, _, tb.dp, tb2.dp, sh_IT b, sh_IT b2, _, rfl, ?_⟩
        rw [eqv_IT]
        by_cases eb : b = b2
        · subst eb
          rw [decide_eq_true rfl, Bool.true_and] at q
          refine iteY rfl ?_
          refine ⟨_, rfl, g, A.c_Store, dx, _, _, rfl, hg, SC.cls, SC.nCost, rfl, _, rfl, g2, A.c_Store, dx2, _, _, rfl, hg2, SC.cls, SC.nCost, rfl, _, _, tc.dp, tc2.dp, sh_CTt c, sh_CTt c2, _, rfl, ?_⟩
          rw [eqv_CTt]
          by_cases ec : c = c2
          · subst ec
            rw [decide_eq_true rfl, Bool.true_and] at q
            refine iteY rfl ?_
            refine ⟨_, rfl, g, A.c_Store, dx, _, _, rfl, hg, SC.cls, SC.nEnds, rfl, _, rfl, g2, A.c_Store, dx2, _, _, rfl, hg2, SC.cls, SC.nEnds, rfl, _, _, te.dp, te2.dp, sh_IT e, sh_IT e2, ?_⟩
            rw [eqv_IT]
            exact q
          · rw [decide_eq_false ec, Bool.false_and] at q
            exact iteN ec q
        · rw [decide_eq_false eb, Bool.false_and] at q
          exact iteN eb q
      · rw [decide_eq_false ez, Bool.false_and] at q
        exact iteN (fun c => ez (V.str.inj c)) q
abbrev N_Store_price : List Str := ["self", "ask", "one", "other"]
theorem sc_Store_price : FnScope N_Store_price ["self", "ask", "one", "other"] (defScope s_Store_price) := ⟨rfl, rfl, rfl, by decide +kernel, rfl, by decide +kernel, by decide +kernel⟩
/-- what price tells, and what it raises -/
def spPrice (K : PySem.W.Frag) (C CA CT : Addr) : Sp := fun vs H Q E => ∃ (g : Addr) (x y1 y2 : V) (d1 d2 : PyData) (z : Str) (b e : List Int) (c : List (List (List Int))), vs = [.ref g, x, y1, y2] ∧ IsS C H g z b c e ∧ Known K H x ∧ Th H y1 d1 ∧ Th H y2 d2 ∧
  (askB z x = false → Bears CA x H E) ∧ (askB z x = true → (belowD b.length d1 = false → Bears CT y1 H E) ∧ (belowD b.length d1 = true → (belowD b.length d2 = false → Bears CT y2 H E) ∧
    (belowD b.length d2 = true → ∃ (r : Str) (i s t : Nat) (tab : List (List Int)) (row : List Int) (v : Int), x = .str r ∧ y1 = .int (s : Int) ∧ y2 = .int (t : Int) ∧ Txt.find z r = (i : Int) ∧ c[i]? = some tab ∧ tab[s]? = some row ∧ row[t]? = some v ∧ ∀ H', Same H H' → Q (.int v) H')))
theorem ok_price {fd : FuncData} (F : Fun K "price" "Store.price" s_Store_price A.f_Store_price fd) (T : Tx K mg A) (SC : SCls K A)
    (KA : Kp P w K mg base (L2.CX P w) 3 A.f_check_ask ["asks", "thing"] (spChkAsk K A)) (KS : Kp P w K mg base (L2.CX P w) 3 A.f_check_state ["count", "thing"] (spChkState A)) :
    FnOk P w K mg base (L2.CX P w) 4 A.f_Store_price fd ["self", "ask", "one", "other"] (spPrice K A.c_Store A.c_BadAsk A.c_BadState) := by
  obtain ⟨fdA, G_check_ask, b_check_ask, k_check_ask⟩ := KA
  obtain ⟨fdS, G_check_state, b_check_state, k_check_state⟩ := KS
  have nd := sc_Store_price.nd
  refine F.okX sc_Store_price (fun vs H Q E h => ?_) (fun cdv A' outer s H vs Q E hr h => ?_)
  · obtain ⟨g, x, y1, y2, d1, d2, z, b, e, c, rfl, _⟩ := h
    rfl
  · obtain ⟨g, x, y1, y2, d1, d2, z, b, e, c, rfl, ⟨dx, vb, vc, ve, hg, tb, tc, te⟩, kx, t1, t2, badA, good⟩ := h
    refine ⟨_, (pss_cons (ps_expr (pe_callS G_check_ask (hr.mono (by omega)) rfl T.mcheck_ask k_check_ask b_check_ask (fun σ => passAt (takes_of rfl rfl rfl rfl) σ) (pa_cons (pe_fld (pv 0) (by rfl)) (pa_cons (pv 1) pa_nil))))
  (pss_cons (ps_expr (pe_callS G_check_state (hr.mono (by omega)) rfl T.mcheck_state k_check_state b_check_state (fun σ => passAt (takes_of rfl rfl rfl rfl) σ) (pa_cons (pe_callB call_len (by rfl) T.nlen (by decide +kernel) (pa_cons (pe_fld (pv 0) (by rfl)) pa_nil)) (pa_cons (pv 2) pa_nil))))
  (pss_cons (ps_expr (pe_callS G_check_state (hr.mono (by omega)) rfl T.mcheck_state k_check_state b_check_state (fun σ => passAt (takes_of rfl rfl rfl rfl) σ) (pa_cons (pe_callB call_len (by rfl) T.nlen (by decide +kernel) (pa_cons (pe_fld (pv 0) (by rfl)) pa_nil)) (pa_cons (pv 3) pa_nil))))
  (pss_one (ps_ret (pe_ix ix_tup (pe_ix ix_tup (pe_ix ix_tup (pe_fld (pv 0) (by rfl)) (pe_m1 PySem.F.slot_str_find PySem.F.type_str_find mt_find (pe_fld (pv 0) (by rfl)) (pv 1)) (fun _ _ => rfl)) (pv 2) (fun _ _ => rfl)) (pv 3) (fun _ _ => rfl))))))), ?_⟩
    obtain ⟨l, xs, rfl, hl, r⟩ := Tt.tupOf tb
    have el : xs.length = b.length := by rw [r.dt.len, List.length_map]
    refine ⟨_, rfl, g, A.c_Store, dx, _, _, rfl, hg, SC.cls, SC.nAsks, rfl, _, rfl, x, z, rfl, kx, fun n => badA n, fun ya H1 s1 => ?_⟩
    obtain ⟨bad1, good⟩ := good ya
    refine ⟨_, rfl, g, A.c_Store, dx, _, _, rfl, s1 _ _ hg, SC.cls, SC.nBeg, rfl, _, xs.length, rfl, .inr ⟨_, SqT.of (s1 _ _ hl), rfl⟩, _, rfl, y1, d1, _, rfl, t1.mono s1, fun n dd H2 s2 h2 => ?_, fun y H2 s2 => ?_⟩
    · exact bad1 (by rw [← el]; exact n) dd H2 (s1.trans s2) h2
    · have s12 := s1.trans s2
      obtain ⟨bad2, good⟩ := good (by rw [← el]; exact y)
      refine ⟨_, rfl, g, A.c_Store, dx, _, _, rfl, s12 _ _ hg, SC.cls, SC.nBeg, rfl, _, xs.length, rfl, .inr ⟨_, SqT.of (s12 _ _ hl), rfl⟩, _, rfl, y2, d2, _, rfl, t2.mono s12, fun n dd H3 s3 h3 => ?_, fun y' H3 s3 => ?_⟩
      · exact bad2 (by rw [← el]; exact n) dd H3 (s12.trans s3) h3
      · have s13 := s12.trans s3
        obtain ⟨rr, i, s, t, tab, row, v, rfl, rfl, rfl, ef, ec, et, er, q⟩ := good (by rw [← el]; exact y')
        obtain ⟨a1, xs1, w1, rfl, h1, e1, tw1⟩ := tt_tab_at (tc.keep (KeepT.of s13)) ec
        obtain ⟨a2, xs2, w2, rfl, h2, e2, tw2⟩ := tt_row_at tw1 et
        obtain ⟨a3, xs3, rfl, h3, e3⟩ := tt_int_at tw2 er
        refine ⟨_, rfl, g, A.c_Store, dx, _, _, rfl, s13 _ _ hg, SC.cls, SC.nCost, rfl, _, rfl, g, A.c_Store, dx, _, _, rfl, s13 _ _ hg, SC.cls, SC.nAsks, rfl, ⟨_, rfl⟩, _, rfl, z, rr, rfl, rfl, a1, _, _, _, rfl, (show V.int (Txt.find z rr) = _ from congrArg V.int ef), SqT.of h1, atI_nat (j := i) e1, ?_⟩
        refine ⟨_, rfl, a2, _, _, _, rfl, rfl, SqT.of h2, atI_nat (j := s) e2, _, rfl, a3, _, _, _, rfl, rfl, SqT.of h3, atI_nat (j := t) e3, q H3 s13⟩
end
end As

namespace Ow
open PySem PySem.Spec PyProof.Rows L2
/-- what stands at H stands at H' in some form -/
def Dom (H H' : Hp) : Prop := ∀ b o, H b = some o → ∃ u, H' b = some u
theorem Dom.refl {H : Hp} : Dom H H := fun b o h => ⟨o, h⟩
theorem Dom.of {H H' : Hp} (s : Same H H') : Dom H H' := fun b o h => ⟨o, s b o h⟩
theorem Dom.trans {H H1 H2 : Hp} (a : Dom H H1) (b : Dom H1 H2) : Dom H H2 := fun c o h => by
  obtain ⟨u, hu⟩ := a c o h
  exact b c u hu
theorem Dom.upd {H : Hp} {a : Addr} {o : HO} : Dom H (upd H a o) := fun b u h => by
  by_cases e : b = a
  · exact ⟨o, by rw [e, upd_same]⟩
  · exact ⟨u, by rw [upd_ne e]; exact h⟩
theorem Dom.but {H H' : Hp} {p : Addr} (b : But p H H') (s : Src H' p) : Dom H H' := fun c u h => by
  by_cases e : c = p
  · obtain ⟨o, ho⟩ := s.some
    exact ⟨o, by rw [e]; exact ho⟩
  · exact ⟨u, b c u h e⟩
theorem Dom.free {H H' : Hp} (d : Dom H H') {a : Addr} (h : H' a = none) : H a = none := by
  cases e : H a with
  | none => rfl
  | some o =>
    obtain ⟨u, hu⟩ := d a o e
    rw [hu] at h
    cases h
theorem nw_fromD {H0 H H' : Hp} (d : Dom H0 H) : Same (nw H H') (nw H0 H') := fun b o h => by
  unfold nw at h ⊢
  cases e : H b with
  | none =>
    rw [e] at h
    rw [d.free e]
    exact h
  | some u => rw [e] at h; cases h
theorem nw_butP {H H1 H2 : Hp} {p : Addr} {o : HO} (h : H p = some o) (b : But p H1 H2) : Same (nw H H1) (nw H H2) := fun c u hc => by
  unfold nw at hc ⊢
  cases e : H c with
  | none =>
    rw [e] at hc
    exact b c u hc (ne_of_none h e).symm
  | some v => rw [e] at hc; cases hc
/-- a new list at D that grows by new things, while p is drawn from -/
structure Acc (p D : Addr) (H1 : Hp) (PD : Nat → PyData → Prop) (i : Nat) (H' : Hp) : Prop where
  fr : H1 D = none
  at_ : ∃ acc ds, H' D = some (.lst acc) ∧ acc.length = i ∧ ThAll (nw (upd H1 D (.lst [])) H') acc ds ∧ ds.length = i ∧ ∀ (k : Nat) d, ds[k]? = some d → PD k d
  src : Src H' p
  but : But p H1 H'
  s1 : ∃ o, H1 p = some o
theorem Acc.ne {p D : Addr} {H1 H' : Hp} {PD : Nat → PyData → Prop} {i : Nat} (h : Acc p D H1 PD i H') : D ≠ p := by
  obtain ⟨o, ho⟩ := h.s1
  exact (ne_of_none ho h.fr).symm
theorem Acc.dom {p D : Addr} {H1 H' : Hp} {PD : Nat → PyData → Prop} {i : Nat} (h : Acc p D H1 PD i H') : Dom (upd H1 D (.lst [])) H' := fun b o hb => by
  by_cases e : b = D
  · subst e
    obtain ⟨acc, ds, ha, _⟩ := h.at_
    exact ⟨_, ha⟩
  · rw [upd_ne e] at hb
    exact Dom.but h.but h.src b o hb
theorem Acc.init {p D : Addr} {H1 : Hp} {PD : Nat → PyData → Prop} (f : H1 D = none) (s : Src H1 p) : Acc p D H1 PD 0 (upd H1 D (.lst [])) :=
  ⟨f, ⟨[], [], upd_same, rfl, .nil, rfl, fun k d h => by simp at h⟩, s.same (same_new f), But.of (same_new f), s.some⟩
theorem ThAll.len2 {H : Hp} {xs : List V} {ds : List PyData} (h : ThAll H xs ds) : xs.length = ds.length := h.len
theorem Acc.step {p D : Addr} {H1 H2 H3 : Hp} {PD : Nat → PyData → Prop} {i : Nat} {v : V} {d : PyData} (h : Acc p D H1 PD i H2) (hi : i < 100000) (s : Src H3 p) (b : But p H2 H3) (t : Th (nw H2 H3) v d) (pd : PD i d) :
    ∃ acc, H3 D = some (.lst acc) ∧ acc.length < sizeLine ∧ Acc p D H1 PD (i + 1) (upd H3 D (.lst (acc ++ [v]))) := by
  have ne := h.ne
  have dom := h.dom
  obtain ⟨acc, ds, ha, la, ta, ld, pds⟩ := h.at_
  have h3 := b _ _ ha ne
  obtain ⟨o1, ho1⟩ := h.s1
  have hp : (upd H1 D (.lst [])) p = some o1 := by rw [upd_ne ne.symm]; exact ho1
  refine ⟨acc, h3, by rw [la]; exact Nat.lt_of_lt_of_le hi (by decide), h.fr, ⟨acc ++ [v], ds ++ [d], upd_same, by rw [List.length_append, la]; rfl, ?_, by rw [List.length_append, ld]; rfl, fun k e hk => ?_⟩, src_upd s ne.symm, but_updF (h.but.trans b) h.fr, h.s1⟩
  · have u : Same (nw (upd H1 D (.lst [])) H3) (nw (upd H1 D (.lst [])) (upd H3 D (.lst (acc ++ [v])))) := nw_upd upd_same
    exact ((ta.mono (nw_butP hp b)).mono u).snoc ((t.mono (nw_fromD dom)).mono u)
  · by_cases c : k < ds.length
    · rw [List.getElem?_append_left c] at hk
      exact pds k e hk
    · rw [List.getElem?_append_right (by omega)] at hk
      have : k - ds.length = 0 := by
        cases e' : k - ds.length with
        | zero => rfl
        | succ m => rw [e'] at hk; simp at hk
      rw [this] at hk
      obtain rfl : d = e := Option.some.inj hk
      have : k = i := by omega
      subst this
      exact pd
theorem Acc.done {p D : Addr} {H1 H' : Hp} {PD : Nat → PyData → Prop} {i : Nat} (h : Acc p D H1 PD i H') (hi : i ≤ 100000) : ∃ ds, Th (nw H1 H') (.ref D) (.list ds) ∧ ds.length = i ∧ ∀ (k : Nat) d, ds[k]? = some d → PD k d := by
  obtain ⟨acc, ds, ha, la, ta, ld, pds⟩ := h.at_
  exact ⟨ds, .lst (by rw [nw_at h.fr]; exact ha) (by rw [la]; exact Nat.le_trans hi (by decide)) (ta.mono (nw_from (same_new h.fr))), ld, pds⟩
/-- the same without a source -/
structure AccS (D : Addr) (H1 : Hp) (PD : Nat → PyData → Prop) (i : Nat) (H' : Hp) : Prop where
  fr : H1 D = none
  at_ : ∃ acc ds, H' D = some (.lst acc) ∧ acc.length = i ∧ ThAll (nw (upd H1 D (.lst [])) H') acc ds ∧ ds.length = i ∧ ∀ (k : Nat) d, ds[k]? = some d → PD k d
  same : Same H1 H'
theorem AccS.dom {D : Addr} {H1 H' : Hp} {PD : Nat → PyData → Prop} {i : Nat} (h : AccS D H1 PD i H') : Dom (upd H1 D (.lst [])) H' := fun b o hb => by
  by_cases e : b = D
  · subst e
    obtain ⟨acc, ds, ha, _⟩ := h.at_
    exact ⟨_, ha⟩
  · rw [upd_ne e] at hb
    exact ⟨_, h.same b o hb⟩
theorem AccS.init {D : Addr} {H1 : Hp} {PD : Nat → PyData → Prop} (f : H1 D = none) : AccS D H1 PD 0 (upd H1 D (.lst [])) :=
  ⟨f, ⟨[], [], upd_same, rfl, .nil, rfl, fun k d h => by simp at h⟩, same_new f⟩
theorem AccS.step {D : Addr} {H1 H2 H3 : Hp} {PD : Nat → PyData → Prop} {i : Nat} {v : V} {d : PyData} (h : AccS D H1 PD i H2) (hi : i < 100000) (b : Same H2 H3) (t : Th (nw H2 H3) v d) (pd : PD i d) :
    ∃ acc, H3 D = some (.lst acc) ∧ acc.length < sizeLine ∧ AccS D H1 PD (i + 1) (upd H3 D (.lst (acc ++ [v]))) := by
  have dom := h.dom
  obtain ⟨acc, ds, ha, la, ta, ld, pds⟩ := h.at_
  have h3 := b _ _ ha
  refine ⟨acc, h3, by rw [la]; exact Nat.lt_of_lt_of_le hi (by decide), h.fr, ⟨acc ++ [v], ds ++ [d], upd_same, by rw [List.length_append, la]; rfl, ?_, by rw [List.length_append, ld]; rfl, fun k e hk => ?_⟩, same_upd (h.same.trans b) h.fr⟩
  · have u : Same (nw (upd H1 D (.lst [])) H3) (nw (upd H1 D (.lst [])) (upd H3 D (.lst (acc ++ [v])))) := nw_upd upd_same
    exact ((ta.mono (nw_mono b)).mono u).snoc ((t.mono (nw_fromD dom)).mono u)
  · by_cases c : k < ds.length
    · rw [List.getElem?_append_left c] at hk
      exact pds k e hk
    · rw [List.getElem?_append_right (by omega)] at hk
      have : k - ds.length = 0 := by
        cases e' : k - ds.length with
        | zero => rfl
        | succ m => rw [e'] at hk; simp at hk
      rw [this] at hk
      obtain rfl : d = e := Option.some.inj hk
      have : k = i := by omega
      subst this
      exact pd
theorem AccS.done {D : Addr} {H1 H' : Hp} {PD : Nat → PyData → Prop} {i : Nat} (h : AccS D H1 PD i H') (hi : i ≤ 100000) : ∃ ds, Th (nw H1 H') (.ref D) (.list ds) ∧ ds.length = i ∧ ∀ (k : Nat) d, ds[k]? = some d → PD k d := by
  obtain ⟨acc, ds, ha, la, ta, ld, pds⟩ := h.at_
  exact ⟨ds, .lst (by rw [nw_at h.fr]; exact ha) (by rw [la]; exact Nat.le_trans hi (by decide)) (ta.mono (nw_from (same_new h.fr))), ld, pds⟩
theorem list_of {α : Type} (f : α → PyData) (P : α → Prop) : ∀ ds : List PyData, (∀ (k : Nat) d, ds[k]? = some d → ∃ a, d = f a ∧ P a) → ∃ l : List α, ds = l.map f ∧ l.length = ds.length ∧ ∀ a ∈ l, P a
  | [], _ => ⟨[], rfl, rfl, fun a h => nomatch h⟩
  | d :: ds, h => by
    obtain ⟨a, rfl, pa⟩ := h 0 d rfl
    obtain ⟨l, e, le, pl⟩ := list_of f P ds fun k d' hk => h (k + 1) d' hk
    refine ⟨a :: l, by rw [e]; rfl, by rw [List.length_cons, List.length_cons, le], fun b hb => ?_⟩
    rcases List.mem_cons.mp hb with rfl | hb
    · exact pa
    · exact pl b hb
def IntD : Nat → PyData → Prop := fun _ d => ∃ i : Int, d = .int i ∧ True
def Bd (m : Int) (ns : List Int) : Prop := ∀ i ∈ ns, -m ≤ i ∧ i ≤ m
def Bt (m : Int) (t : List (List Int)) : Prop := ∀ r ∈ t, Bd m r
def Bc (m : Int) (c : List (List (List Int))) : Prop := ∀ t ∈ c, Bt m t
def LineD (B : Int) (n : Nat) : Nat → PyData → Prop := fun _ d => ∃ ns : List Int, d = IL ns ∧ ns.length = n ∧ Bd B ns
/-- a square table -/
def Sq (n : Nat) (m : List (List Int)) : Prop := m.length = n ∧ ∀ r ∈ m, r.length = n
def TabD (B : Int) (n : Nat) : Nat → PyData → Prop := fun _ d => ∃ m : List (List Int), d = TL' m ∧ Sq n m ∧ Bt B m
theorem line_of {ds : List PyData} (h : ∀ (k : Nat) d, ds[k]? = some d → IntD k d) : ∃ ns : List Int, PyData.list ds = IL ns ∧ ns.length = ds.length := by
  obtain ⟨l, e, le, _⟩ := list_of PyData.int (fun _ => True) ds h
  exact ⟨l, by rw [e]; rfl, le⟩
theorem tab_of {B : Int} {n : Nat} {ds : List PyData} (h : ∀ (k : Nat) d, ds[k]? = some d → LineD B n k d) : ∃ m : List (List Int), PyData.list ds = TL' m ∧ m.length = ds.length ∧ (∀ r ∈ m, r.length = n) ∧ Bt B m := by
  obtain ⟨l, e, le, h⟩ := list_of IL (fun r => r.length = n ∧ Bd B r) ds h
  exact ⟨l, by rw [e]; rfl, le, fun r hr => (h r hr).1, fun r hr => (h r hr).2⟩
theorem costs_of {B : Int} {n : Nat} {ds : List PyData} (h : ∀ (k : Nat) d, ds[k]? = some d → TabD B n k d) : ∃ m : List (List (List Int)), PyData.list ds = CL m ∧ m.length = ds.length ∧ (∀ t ∈ m, Sq n t) ∧ Bc B m := by
  obtain ⟨l, e, le, h⟩ := list_of TL' (fun t => Sq n t ∧ Bt B t) ds h
  exact ⟨l, by rw [e]; rfl, le, fun r hr => (h r hr).1, fun r hr => (h r hr).2⟩
def SmallD (m : Int) : Nat → PyData → Prop := fun _ d => ∃ i : Int, d = .int i ∧ -m ≤ i ∧ i ≤ m
theorem small_of {m : Int} {ds : List PyData} (h : ∀ (k : Nat) d, ds[k]? = some d → SmallD m k d) : ∃ ns : List Int, PyData.list ds = IL ns ∧ ns.length = ds.length ∧ Bd m ns := by
  obtain ⟨l, e, le, h⟩ := list_of PyData.int (fun i => -m ≤ i ∧ i ≤ m) ds h
  exact ⟨l, by rw [e]; rfl, le, h⟩
/-- draws of a line or a table of prices -/
def spPrices : Sp := fun vs H Q _ => ∃ (p : Addr) (n : Nat) (m : Int), vs = [.ref p, .int n, .int m] ∧ Src H p ∧ n ≤ 1000 ∧ 0 ≤ m ∧ m < 1000000 ∧ ∀ v ns H', Th (nw H H') v (IL ns) → ns.length = n → Bd m ns → Src H' p → But p H H' → Q v H'
def spTab : Sp := fun vs H Q _ => ∃ (p : Addr) (n : Nat) (m : Int), vs = [.ref p, .int n, .int m] ∧ Src H p ∧ n ≤ 1000 ∧ 1 ≤ m ∧ m < 1000000 ∧ ∀ v t H', Th (nw H H') v (TL' t) → Sq n t → Bt m t → Src H' p → But p H H' → Q v H'
def spChange : Sp := fun vs H Q _ => ∃ (p : Addr) (s t m : Int), vs = [.ref p, .int s, .int t, .int m] ∧ Src H p ∧ 1 ≤ m ∧ m < 1000000 ∧ ∀ (i : Int) H', -m ≤ i → i ≤ m → Src H' p → But p H H' → Q (.int i) H'
end Ow
namespace As
open PySem PySem.Spec PyProof.Rows L2 Ow
section
variable {P : Program} {w : World} {K : PySem.W.Frag} {mg : Str → Option Value} {base : Heap} {A : Ad}
abbrev N__law_prices : List Str := ["_law_source_here", "_law_many", "_law_most", "_law_k"]
theorem sc__law_prices : FnScope N__law_prices ["_law_source_here", "_law_many", "_law_most"] (defScope s__law_prices) := ⟨rfl, rfl, rfl, by decide +kernel, rfl, by decide +kernel, by decide +kernel⟩
theorem ok_prices {fd : FuncData} (F : Fun K "_law_prices" "_law_prices" s__law_prices A.f__law_prices fd) (T : Tx K mg A) (KDraw : Kp P w K mg base CX0 1 A.f__law_draw ["_law_source_here", "_law_many"] spDraw) :
    FnOk P w K mg base CX0 2 A.f__law_prices fd ["_law_source_here", "_law_many", "_law_most"] spPrices := by
  obtain ⟨fdD, G__law_draw, b__law_draw, k__law_draw⟩ := KDraw
  have nd := sc__law_prices.nd
  refine F.ok sc__law_prices (fun vs H Q E h => ?_) (fun cdv A' outer s H vs Q E hr h => ?_)
  · obtain ⟨p, n, m, rfl, _⟩ := h
    rfl
  · obtain ⟨p, n, m, rfl, hp, hn, hm, hm2, q⟩ := h
    refine ⟨_, (pss_one (ps_ret (pe_lc (own := [("_law_k", 3)]) (g := gName 3) (tt := tYes) rfl nd (pi_range1 (by rfl) T.nrange (pa_cons (pv 1) pa_nil)) (blkOk_by (own := [("_law_k", 3)]) (N := N__law_prices) (sc := defScope s__law_prices) (by decide +kernel)) (fun _ _ _ _ _ => (pg_name (i := 3) nd rfl (by first | exact Or.inl rfl | exact Or.inr rfl))) (fun _ _ _ _ _ => pts_nil) (fun _ _ _ _ _ => (pe_call G__law_draw (hr.mono (by omega)) rfl T.m_law_draw k__law_draw b__law_draw .nil pass0 (pa_cons (pv 0) (pa_cons (pe_op op_add (pv 2) pe_int) pa_nil))))))), ?_⟩
    refine ⟨_, rfl, (n : Int), rfl, by omega, by omega, fun D hD => ?_⟩
    refine lc_range (lo := 0) (n := (n : Int).toNat) (Acc p D H (SmallD m)) (Acc.init hD hp) ?_ ?_
    · rintro i H2 hi a
      refine ⟨rfl, yes_go ?_⟩
      exact ⟨_, rfl, _, rfl, _, _, rfl, rfl, p, m + 1, rfl, a.src, by omega, by omega, fun e H4 e0 e1 g4 b4 => a.step (by omega) g4 b4 (.int e) ⟨e, rfl, by omega, by omega⟩⟩
    · rintro H2 a
      have e : (n : Int).toNat = n := Int.toNat_natCast n
      rw [e] at a
      obtain ⟨ds, td, ld, pd⟩ := a.done (by omega)
      obtain ⟨ns, en, ln, bd⟩ := small_of pd
      exact q _ ns H2 (by rw [← en]; exact td) (by omega) bd a.src a.but
abbrev N__law_any_table : List Str := ["_law_source_here", "_law_many", "_law_most", "_law_s"]
theorem sc__law_any_table : FnScope N__law_any_table ["_law_source_here", "_law_many", "_law_most"] (defScope s__law_any_table) := ⟨rfl, rfl, rfl, by decide +kernel, rfl, by decide +kernel, by decide +kernel⟩
theorem ok_anytab {fd : FuncData} (F : Fun K "_law_any_table" "_law_any_table" s__law_any_table A.f__law_any_table fd) (T : Tx K mg A) (KPr : Kp P w K mg base CX0 2 A.f__law_prices ["_law_source_here", "_law_many", "_law_most"] spPrices) :
    FnOk P w K mg base CX0 3 A.f__law_any_table fd ["_law_source_here", "_law_many", "_law_most"] spTab := by
  obtain ⟨fdD, G__law_prices, b__law_prices, k__law_prices⟩ := KPr
  have nd := sc__law_any_table.nd
  refine F.ok sc__law_any_table (fun vs H Q E h => ?_) (fun cdv A' outer s H vs Q E hr h => ?_)
  · obtain ⟨p, n, m, rfl, _⟩ := h
    rfl
  · obtain ⟨p, n, m, rfl, hp, hn, hm, hm2, q⟩ := h
    refine ⟨_, (pss_one (ps_ret (pe_lc (own := [("_law_s", 3)]) (g := gName 3) (tt := tYes) rfl nd (pi_range1 (by rfl) T.nrange (pa_cons (pv 1) pa_nil)) (blkOk_by (own := [("_law_s", 3)]) (N := N__law_any_table) (sc := defScope s__law_any_table) (by decide +kernel)) (fun _ _ _ _ _ => (pg_name (i := 3) nd rfl (by first | exact Or.inl rfl | exact Or.inr rfl))) (fun _ _ _ _ _ => pts_nil) (fun _ _ _ _ _ => (pe_call G__law_prices (hr.mono (by omega)) rfl T.m_law_prices k__law_prices b__law_prices .nil pass0 (pa_cons (pv 0) (pa_cons (pv 1) (pa_cons (pv 2) pa_nil)))))))), ?_⟩
    refine ⟨_, rfl, (n : Int), rfl, by omega, by omega, fun D hD => ?_⟩
    refine lc_range (lo := 0) (n := (n : Int).toNat) (Acc p D H (LineD m n)) (Acc.init hD hp) ?_ ?_
    · rintro i H2 hi a
      refine ⟨rfl, yes_go ?_⟩
      exact ⟨_, rfl, _, rfl, _, rfl, p, n, m, rfl, a.src, hn, by omega, by omega, fun v ns H4 t4 l4 bd4 g4 b4 => a.step (by omega) g4 b4 t4 ⟨ns, rfl, l4, bd4⟩⟩
    · rintro H2 a
      have e : (n : Int).toNat = n := Int.toNat_natCast n
      rw [e] at a
      obtain ⟨ds, td, ld, pd⟩ := a.done (by omega)
      obtain ⟨ns, en, ln, hl, bl⟩ := tab_of pd
      exact q _ ns H2 (by rw [← en]; exact td) ⟨by omega, hl⟩ bl a.src a.but
abbrev N__law_change : List Str := ["_law_source_here", "_law_s", "_law_t", "_law_most"]
theorem sc__law_change : FnScope N__law_change ["_law_source_here", "_law_s", "_law_t", "_law_most"] (defScope s__law_change) := ⟨rfl, rfl, rfl, by decide +kernel, rfl, by decide +kernel, by decide +kernel⟩
theorem ok_change {fd : FuncData} (F : Fun K "_law_change" "_law_change" s__law_change A.f__law_change fd) (T : Tx K mg A) (KDraw : Kp P w K mg base CX0 1 A.f__law_draw ["_law_source_here", "_law_many"] spDraw) :
    FnOk P w K mg base CX0 2 A.f__law_change fd ["_law_source_here", "_law_s", "_law_t", "_law_most"] spChange := by
  obtain ⟨fdD, G__law_draw, b__law_draw, k__law_draw⟩ := KDraw
  have nd := sc__law_change.nd
  refine F.ok sc__law_change (fun vs H Q E h => ?_) (fun cdv A' outer s H vs Q E hr h => ?_)
  · obtain ⟨p, a, b, m, rfl, _⟩ := h
    rfl
  · obtain ⟨p, a, b, m, rfl, hp, hm, hm2, q⟩ := h
    refine ⟨_, (pss_cons (ps_if (pt_cmpR op_eq (pv 1) (pv 2) (nomark _)) (pss_one (ps_ret pe_int)) pss_nil)
  (pss_one (ps_ret (pe_op op_add pe_int (pe_call G__law_draw (hr.mono (by omega)) rfl T.m_law_draw k__law_draw b__law_draw .nil pass0 (pa_cons (pv 0) (pa_cons (pv 3) pa_nil))))))), ?_⟩
    refine ⟨_, rfl, _, rfl, rfl, _, rfl, ite2 (fun c => ?_) (fun c => ?_)⟩
    · exact q 0 H (by omega) (by omega) hp (But.of (Same.refl H))
    · exact ⟨_, rfl, _, rfl, p, m, rfl, hp, by omega, by omega, fun e H4 e0 e1 g4 b4 => ⟨_, _, rfl, rfl, q _ H4 (by omega) (by omega) g4 b4⟩⟩
abbrev N__law_changes : List Str := ["_law_source_here", "_law_many", "_law_most", "_law_found", "_law_s", "_law_t"]
theorem sc__law_changes : FnScope N__law_changes ["_law_source_here", "_law_many", "_law_most"] (defScope s__law_changes) := ⟨rfl, rfl, rfl, by decide +kernel, rfl, by decide +kernel, by decide +kernel⟩
theorem ok_changes {fd : FuncData} (F : Fun K "_law_changes" "_law_changes" s__law_changes A.f__law_changes fd) (T : Tx K mg A) (KC : Kp P w K mg base CX0 2 A.f__law_change ["_law_source_here", "_law_s", "_law_t", "_law_most"] spChange) :
    FnOk P w K mg base CX0 3 A.f__law_changes fd ["_law_source_here", "_law_many", "_law_most"] spTab := by
  obtain ⟨fdD, G__law_change, b__law_change, k__law_change⟩ := KC
  have nd := sc__law_changes.nd
  refine F.ok sc__law_changes (fun vs H Q E h => ?_) (fun cdv A' outer s H vs Q E hr h => ?_)
  · obtain ⟨p, n, m, rfl, _⟩ := h
    rfl
  · obtain ⟨p, n, m, rfl, hp, hn, hm, hm2, q⟩ := h
    refine ⟨_, (pss_cons (ps_set (i := 3) nd rfl (by first | exact Or.inl rfl | exact Or.inr rfl) (pe_lst pa_nil))
  (pss_cons (ps_for PassesOwn.never rfl (pi_range1 (by rfl) T.nrange (pa_cons (pv 1) pa_nil)) (pg_name (i := 4) nd rfl (by first | exact Or.inl rfl | exact Or.inr rfl)) (pss_one (ps_expr (pe_bm PySem.F.plainAttrs_list PySem.F.slot_list_append PySem.F.type_list_append mt_append (pv 3) (pa_cons (pe_lc (own := [("_law_t", 5)]) (g := gName 5) (tt := tYes) rfl nd (pi_range1 (by rfl) T.nrange (pa_cons (pv 1) pa_nil)) (blkOk_by (own := [("_law_t", 5)]) (N := N__law_changes) (sc := defScope s__law_changes) (by decide +kernel)) (fun _ _ _ _ _ => (pg_name (i := 5) nd rfl (by first | exact Or.inl rfl | exact Or.inr rfl))) (fun _ _ _ _ _ => pts_nil) (fun _ _ _ _ _ => (pe_call G__law_change (hr.mono (by omega)) rfl T.m_law_change k__law_change b__law_change .nil pass0 (pa_cons (pv 0) (pa_cons (pv 4) (pa_cons (pv 5) (pa_cons (pv 2) pa_nil))))))) pa_nil)))))
  (pss_one (ps_ret (pv 3))))), ?_⟩
    have en : (n : Int).toNat = n := Int.toNat_natCast n
    refine ⟨(by show 0 ≤ sizeLine; decide), fun D hD => ?_⟩
    refine ⟨_, rfl, (n : Int), rfl, by omega, by omega, for_range (lo := 0) (n := (n : Int).toNat) (fun i σ H' => (∃ o4 o5, σ = [some (V.ref p), some (V.int n), some (V.int m), some (V.ref D), o4, o5]) ∧ Acc p D H (LineD m n) i H') ⟨⟨_, _, rfl⟩, Acc.init hD hp⟩ ?_ ?_⟩
    · rintro i σ H2 hi ⟨⟨o4, o5, rfl⟩, a⟩
      have aD : ∃ xs, H2 D = some (.lst xs) := by
        obtain ⟨acc, _, h, _⟩ := a.at_
        exact ⟨acc, h⟩
      obtain ⟨xs, hxs⟩ := aD
      refine ⟨_, rfl, .inl ⟨rfl, _, SqL.of hxs⟩, ?_⟩
      refine ⟨_, rfl, (n : Int), rfl, by omega, by omega, fun D2 hD2 => ?_⟩
      refine lc_range (lo := 0) (n := (n : Int).toNat) (Acc p D2 H2 (SmallD m)) (Acc.init hD2 a.src) ?_ ?_
      · rintro j H3 hj a3
        refine ⟨rfl, yes_go ?_⟩
        exact ⟨_, rfl, _, rfl, _, rfl, _, rfl, p, _, _, m, rfl, a3.src, by omega, by omega, fun e H4 e0 e1 g4 b4 => a3.step (by omega) g4 b4 (.int e) ⟨e, rfl, e0, e1⟩⟩
      · rintro H3 a3
        rw [en] at a3
        obtain ⟨ds, td, ld, pd⟩ := a3.done (by omega)
        obtain ⟨ns, e, ln, bn⟩ := small_of pd
        rw [e] at td
        obtain ⟨acc, h3, l3, a4⟩ := a.step (by omega) a3.src a3.but td ⟨ns, rfl, by omega, bn⟩
        exact ⟨D, acc, _, rfl, rfl, h3, l3, ⟨_, _, rfl⟩, a4⟩
    · rintro σ H2 ⟨⟨o4, o5, rfl⟩, a⟩
      rw [en] at a
      obtain ⟨ds, td, ld, pd⟩ := a.done (by omega)
      obtain ⟨ns, e, ln, hl, bl⟩ := tab_of pd
      exact ⟨_, rfl, q _ ns H2 (by rw [← e]; exact td) ⟨by omega, hl⟩ bl a.src a.but⟩
end
end As

namespace Ow
open PySem PySem.Spec PyProof.Rows L2
def forBody (b : List Stmt) (i : Nat) : List Stmt := match b.getD i (.Pass ⟨0, 0, 0, 0⟩) with
  | .For _ _ bd _ _ => bd
  | _ => []
/-- the scope of a block within the def: free names that are cells of the def -/
def relC (o sc : Scope) : Scope := { sc with names := sc.names.map fun (n, k) => if (k == NameKind.free && o.names.lookup n == some .cell) then (n, NameKind.cell) else (n, k) }
def exAt (b : List Stmt) (i : Nat) : Expr := match b.getD i (.Pass ⟨0, 0, 0, 0⟩) with
  | .Expr v _ => v
  | _ => .Constant .none 0 ⟨0, 0, 0, 0⟩
theorem th_ints {H : Hp} : ∀ {xs : List V} {ns : List Int}, ThAll H xs (ns.map PyData.int) → xs = ns.map V.int
  | _, [], .nil => rfl
  | _, n :: ns, .cons h r => by
    cases h with
    | int i => rw [th_ints r]; rfl
theorem ints_th {H : Hp} : ∀ ns : List Int, ThAll H (ns.map V.int) (ns.map PyData.int)
  | [] => .nil
  | n :: ns => .cons (.int n) (ints_th ns)
theorem Th.il {H : Hp} {x : V} {ns : List Int} (h : Th H x (IL ns)) : ∃ l, x = .ref l ∧ H l = some (.lst (ns.map V.int)) := by
  obtain ⟨l, xs, rfl, hl, r⟩ := Th.lstOf h
  rw [th_ints r] at hl
  exact ⟨l, rfl, hl⟩
theorem il_th {H : Hp} {l : Addr} {ns : List Int} (h : H l = some (.lst (ns.map V.int))) (z : ns.length ≤ 100000) : Th H (.ref l) (IL ns) := .lst h (by rw [List.length_map]; exact Nat.le_trans z (by decide)) (ints_th ns)
theorem split2 {G1 : Prop} {St : V → Hp → Prop} (N : V → Hp → Prop) (use : (∀ v H', St v H' → N v H') → G1) (pf : ∀ v H', St v H' → N v H') : G1 := use pf
def spServed : Sp := fun vs H Q _ => ∃ (x y : V) (n : Nat) (m : List (List Int)) (ns : List Int) (B : Int), vs = [x, y] ∧ Th H x (TL' m) ∧ Th H y (IL ns) ∧ Sq n m ∧ ns.length = n ∧ n ≤ 1000 ∧ Bt B m ∧ Bd B ns ∧ ∀ v m' H', Same H H' → Th (nw H H') v (TL' m') → Sq n m' → Bt (B + B) m' → Q v H'
/-- the four parts of a world, as lists -/
def WD (z : Str) (b : List Int) (c : List (List (List Int))) (e : List Int) : PyData := .list [.str z, IL b, CL c, IL e]
/-- the forms of a world with n states -/
structure Gw (n : Nat) (z : Str) (b : List Int) (c : List (List (List Int))) (e : List Int) : Prop where
  n1 : 1 ≤ n
  n2 : n ≤ 1000
  zl : z.length ≤ 100
  lb : b.length = n
  lc : c.length = z.length
  lt : ∀ t ∈ c, Sq n t
  le : e.length = n
def spWorld : Sp := fun vs H Q _ => ∃ (p : Addr) (n : Nat) (z : Str) (m : Int), vs = [.ref p, .int n, .str z, .int m] ∧ Src H p ∧ 1 ≤ n ∧ n ≤ 1000 ∧ z.length ≤ 100 ∧ 1 ≤ m ∧ m < 1000000 ∧ ∀ v b c e H', Th (nw H H') v (WD z b c e) → Gw n z b c e → Bd 1000000 b → Bc 2000000 c → Src H' p → But p H H' → Q v H'
end Ow
namespace As
open PySem PySem.Spec PyProof.Rows L2 Ow
section
variable {P : Program} {w : World} {K : PySem.W.Frag} {mg : Str → Option Value} {base : Heap} {A : Ad}
abbrev N__law_served : List Str := ["_law_changes_here", "_law_serves", "_law_line", "_law_price", "_law_serve"]
theorem sc__law_served : FnScope N__law_served ["_law_changes_here", "_law_serves"] (defScope s__law_served) := ⟨rfl, rfl, rfl, by decide +kernel, rfl, by decide +kernel, by decide +kernel⟩
theorem ok_served {fd : FuncData} (F : Fun K "_law_served" "_law_served" s__law_served A.f__law_served fd) (T : Tx K mg A) : FnOk P w K mg base CX0 1 A.f__law_served fd ["_law_changes_here", "_law_serves"] spServed := by
  have nd := sc__law_served.nd
  refine F.ok sc__law_served (fun vs H Q E h => ?_) (fun cdv A' outer s H vs Q E hr h => ?_)
  · obtain ⟨x, y, n, m, ns, B, rfl, _⟩ := h
    rfl
  · obtain ⟨x, y, n, m, ns, B, rfl, hx, hy, sq, ln, hn, bm, bn, q⟩ := h
    refine ⟨_, (pss_one (ps_ret (pe_lc (own := [("_law_line", 2)]) (g := gName 2) (tt := tYes) rfl nd (pi_list (pv 0)) (blkOk_by (own := [("_law_line", 2)]) (N := N__law_served) (sc := defScope s__law_served) (by decide +kernel)) (fun _ _ _ _ _ => (pg_name (i := 2) nd rfl (by first | exact Or.inl rfl | exact Or.inr rfl))) (fun _ _ _ _ _ => pts_nil) (fun _ _ _ _ _ => (pe_lc (own := [("_law_price", 3), ("_law_serve", 4)]) (g := gTup K 2 (gCons (gName 3) (gCons (gName 4) gNil))) (tt := tYes) rfl nd (show PI _ _ _ (iZip K (tCons (tVar 2) (tCons (tVar 1) tNil))) from pi_zip (by rfl) T.nzip (pa_cons (pv 2) (pa_cons (pv 1) pa_nil))) (blkOk_by (own := [("_law_price", 3), ("_law_serve", 4)]) (N := N__law_served) (sc := relC (defScope s__law_served) (lcSc (valAt (defBody s__law_served) 0))) (by decide +kernel)) (fun _ _ _ _ _ => (pg_tup (by rfl) (pgs_cons (pg_name (i := 3) nd rfl (by first | exact Or.inl rfl | exact Or.inr rfl)) (pgs_cons (pg_name (i := 4) nd rfl (by first | exact Or.inl rfl | exact Or.inr rfl)) pgs_nil)))) (fun _ _ _ _ _ => pts_nil) (fun _ _ _ _ _ => (pe_op op_add (pv 3) (pv 4)))))))), ?_⟩
    obtain ⟨l, xs, rfl, hl, r⟩ := Th.lstOf hx
    obtain ⟨l2, rfl, hl2⟩ := Th.il hy
    have lx : xs.length = n := by rw [r.len, List.length_map]; exact sq.1
    refine ⟨_, rfl, l, rfl, ⟨xs, SqL.of hl⟩, fun D hD => ?_⟩
    refine lc_list (K := K) (xs := xs) (AccS D H (LineD (B + B) n)) (AccS.init hD) (fun i H' _ a => SqL.of (a.same _ _ hl)) ?_ ?_
    · rintro i y H2 hy2 a
      refine ⟨rfl, yes_go ?_⟩
      have hi : i < xs.length := (List.getElem?_eq_some_iff.mp hy2).1
      obtain ⟨dy, ed, ty⟩ := r.get hy2
      rw [List.getElem?_map] at ed
      obtain ⟨row, er, rfl⟩ := Option.map_eq_some_iff.mp ed
      have lr : row.length = n := sq.2 row (List.mem_of_getElem? er)
      obtain ⟨l3, rfl, hl3⟩ := Th.il ty
      refine ⟨_, rfl, _, rfl, l3, l2, _, _, rfl, SqL.of (a.same _ _ hl3), SqL.of (a.same _ _ hl2), fun D2 hD2 => ?_⟩
      refine lc_it (walk_zip (n := n) (by rw [List.length_map, List.length_map]; omega)) (AccS D2 H2 (SmallD (B + B))) (AccS.init hD2) (fun j H' _ b => ⟨SqL.of (b.same _ _ (a.same _ _ hl3)), SqL.of (b.same _ _ (a.same _ _ hl2))⟩) ?_ ?_
      · rintro j v H3 H' hj b ⟨T, v1, v2, rfl, hT, rfl, e1, e2⟩
        have e1 : (row.map V.int)[j]? = some v1 := e1
        have e2 : (ns.map V.int)[j]? = some v2 := e2
        rw [List.getElem?_map] at e1 e2
        obtain ⟨i1, f1, rfl⟩ := Option.map_eq_some_iff.mp e1
        obtain ⟨i2, f2, rfl⟩ := Option.map_eq_some_iff.mp e2
        have k1 := bm row (List.mem_of_getElem? er) i1 (List.mem_of_getElem? f1)
        have k2 := bn i2 (List.mem_of_getElem? f2)
        refine ⟨T, _, rfl, SqT.of upd_same, rfl, _, _, rfl, _, _, rfl, rfl, rfl, yes_go ?_⟩
        exact ⟨_, rfl, _, rfl, _, _, rfl, rfl, b.step (by omega) (same_new hT) (.int _) ⟨_, rfl, by omega, by omega⟩⟩
      · rintro H3 b
        obtain ⟨ds, td, ld, pd⟩ := b.done (by omega)
        obtain ⟨os, eo, lo, bo⟩ := small_of pd
        rw [eo] at td
        exact a.step (by omega) b.same td ⟨os, rfl, by omega, bo⟩
    · rintro H2 a
      obtain ⟨ds, td, ld, pd⟩ := a.done (by omega)
      obtain ⟨m', em, lm, hm, bt⟩ := tab_of pd
      rw [em] at td
      exact q _ m' H2 a.same td ⟨by omega, hm⟩ bt
abbrev N__law_world : List Str := ["_law_source_here", "_law_many", "_law_asks_here", "_law_most", "_law_manner", "_law_begins", "_law_ends", "_law_changes_here", "_law_costs", "_law_k", "_law_serves", "_law_price"]
theorem sc__law_world : FnScope N__law_world ["_law_source_here", "_law_many", "_law_asks_here", "_law_most"] (defScope s__law_world) := ⟨rfl, rfl, rfl, by decide +kernel, rfl, by decide +kernel, by decide +kernel⟩
theorem ok_world {fd : FuncData} (F : Fun K "_law_world" "_law_world" s__law_world A.f__law_world fd) (T : Tx K mg A) (KDraw : Kp P w K mg base CX0 1 A.f__law_draw ["_law_source_here", "_law_many"] spDraw) (KPr : Kp P w K mg base CX0 2 A.f__law_prices ["_law_source_here", "_law_many", "_law_most"] spPrices)
    (KT : Kp P w K mg base CX0 3 A.f__law_any_table ["_law_source_here", "_law_many", "_law_most"] spTab) (KC : Kp P w K mg base CX0 3 A.f__law_changes ["_law_source_here", "_law_many", "_law_most"] spTab) (KS : Kp P w K mg base CX0 1 A.f__law_served ["_law_changes_here", "_law_serves"] spServed) :
    FnOk P w K mg base CX0 4 A.f__law_world fd ["_law_source_here", "_law_many", "_law_asks_here", "_law_most"] spWorld := by
  obtain ⟨fd1, G__law_draw, b__law_draw, k__law_draw⟩ := KDraw
  obtain ⟨fd2, G__law_prices, b__law_prices, k__law_prices⟩ := KPr
  obtain ⟨fd3, G__law_any_table, b__law_any_table, k__law_any_table⟩ := KT
  obtain ⟨fd4, G__law_changes, b__law_changes, k__law_changes⟩ := KC
  obtain ⟨fd5, G__law_served, b__law_served, k__law_served⟩ := KS
  have nd := sc__law_world.nd
  refine F.ok sc__law_world (fun vs H Q E h => ?_) (fun cdv A' outer s H vs Q E hr h => ?_)
  · obtain ⟨p, n, z, m, rfl, _⟩ := h
    rfl
  · obtain ⟨p, n, z, m, rfl, hp, hn1, hn, hz, hm, hm2, q⟩ := h
    obtain ⟨o0, ho0⟩ := hp.some
    have zl : z.length ≤ sizeLine := Nat.le_trans hz (by decide)
    obtain ⟨t4, d4, nxt⟩ : ∃ t, PSs (cxOf CX0 P w K mg base N__law_world "_law_world" (defScope s__law_world) A.f__law_world cdv A' outer s H E).nox ((defBody s__law_world).drop 4) t ∧ ∀ (d : Int) (vb ve : V) (bs es : List Int) (H4 : Hp),
        0 ≤ d → Th (nw H H4) vb (IL bs) → bs.length = n → Bd m bs → Th (nw H H4) ve (IL es) → es.length = n → Src H4 p → But p H H4 → t { nx := fun _ H' => Q .non H', rt := Q } [some (.ref p), some (.int n), some (.str z), some (.int m), some (.int d), some vb, some ve, none, none, none, none, none] H4 := by
      refine ⟨_, (pss_cons (ps_set (i := 7) nd rfl (by first | exact Or.inl rfl | exact Or.inr rfl) (pe_call G__law_changes (hr.mono (by omega)) rfl T.m_law_changes k__law_changes b__law_changes .nil pass0 (pa_cons (pv 0) (pa_cons (pv 1) (pa_cons (pv 3) pa_nil)))))
  (pss_cons (ps_set (i := 8) nd rfl (by first | exact Or.inl rfl | exact Or.inr rfl) (pe_lst pa_nil))
  (pss_cons (ps_for PassesOwn.never rfl (pi_range1 (by rfl) T.nrange (pa_cons (pe_callB call_len_str (by rfl) T.nlen (by decide +kernel) (pa_cons (pv 2) pa_nil)) pa_nil)) (pg_name (i := 9) nd rfl (by first | exact Or.inl rfl | exact Or.inr rfl)) (pss_one (ps_if (pt_cmpR op_eq (pv 4) pe_int (nomark _)) (pss_one (ps_expr (pe_bm PySem.F.plainAttrs_list PySem.F.slot_list_append PySem.F.type_list_append mt_append (pv 8) (pa_cons (pe_call G__law_any_table (hr.mono (by omega)) rfl T.m_law_any_table k__law_any_table b__law_any_table .nil pass0 (pa_cons (pv 0) (pa_cons (pv 1) (pa_cons (pv 3) pa_nil)))) pa_nil)))) (pss_cons (ps_set (i := 10) nd rfl (by first | exact Or.inl rfl | exact Or.inr rfl) (pe_call G__law_prices (hr.mono (by omega)) rfl T.m_law_prices k__law_prices b__law_prices .nil pass0 (pa_cons (pv 0) (pa_cons (pv 1) (pa_cons (pv 3) pa_nil)))))
  (pss_cons (ps_if (pt_cmpR op_gt (pv 4) pe_int (nomark _)) (pss_cons (ps_setLc (i := 10) (own := [("_law_price", 11)]) (g := gName 11) (tt := tYes) rfl nd rfl rfl (sw_true rfl rfl rfl (by decide +kernel)) (pi_list (pv 10)) (blkOk_by (own := [("_law_price", 11)]) (N := N__law_world) (sc := defScope s__law_world) (by decide +kernel)) (fun _ _ _ _ _ => (pg_name (i := 11) nd rfl (by first | exact Or.inl rfl | exact Or.inr rfl))) (fun _ _ _ _ _ => pts_nil) (fun _ _ _ _ _ => (pe_callB (call_max2 rfl) (by rfl) T.nmax (by decide +kernel) (pa_cons (pv 11) (pa_cons pe_int pa_nil)))))
  (pss_one (ps_asg pe_int (pg_sub (pv 10) (pe_op op_modN (pe_callTy call_int1 (by rfl) T.nint (by decide +kernel) (pa_cons (pv 9) pa_nil)) (pv 1)) set_list)))) pss_nil)
  (pss_one (ps_expr (pe_bm PySem.F.plainAttrs_list PySem.F.slot_list_append PySem.F.type_list_append mt_append (pv 8) (pa_cons (pe_call G__law_served (hr.mono (by omega)) rfl T.m_law_served k__law_served b__law_served .nil pass0 (pa_cons (pv 7) (pa_cons (pv 10) pa_nil))) pa_nil)))))))))
  (pss_cons (ps_ret (pe_lst (pa_cons (pv 2) (pa_cons (pv 5) (pa_cons (pv 8) (pa_cons (pv 6) pa_nil))))))
  pss_nil)))), ?_⟩
      intro d vb ve bs es H4 d0 tb4 lb bd te4 le g4 b4
      refine ⟨_, rfl, _, rfl, _, rfl, p, n, m, rfl, g4, hn, hm, hm2, fun vc cs H5 tc5 sc5 bc5 g5 b5 => ?_⟩
      have b05 := b4.trans b5
      refine ⟨(by show 0 ≤ sizeLine; decide), fun D hD => ?_⟩
      refine ⟨_, rfl, z, rfl, zl, (z.length : Int), rfl, by omega, by omega, for_range (lo := 0) (n := (z.length : Int).toNat) (fun i σ H' => (∃ o9 o10 o11, σ = [some (V.ref p), some (V.int n), some (V.str z), some (V.int m), some (V.int d), some vb, some ve, some vc, some (V.ref D), o9, o10, o11]) ∧ Acc p D H5 (TabD (m + m) n) i H') ⟨⟨_, _, _, rfl⟩, Acc.init hD g5⟩ ?_ ?_⟩
      · rintro i σ H6 hi ⟨⟨o9, o10, o11, rfl⟩, a⟩
        have aD : ∃ xs, H6 D = some (.lst xs) := by
          obtain ⟨acc, _, h, _⟩ := a.at_
          exact ⟨acc, h⟩
        obtain ⟨xs, hxs⟩ := aD
        have nD := a.ne
        have fin : ∀ (v10 : V) (ns : List Int) (H9 : Hp), Th H9 v10 (IL ns) → ns.length = n → Src H9 p → But p H6 H9 → Th H9 vc (TL' cs) ∧ H9 D = some (.lst xs) ∧ ∀ v m' H10, Same H9 H10 → Th (nw H9 H10) v (TL' m') → Sq n m' → Bt (m + m) m' →
            ∃ acc, H10 D = some (.lst acc) ∧ acc.length < sizeLine ∧ Acc p D H5 (TabD (m + m) n) (i + 1) (upd H10 D (.lst (acc ++ [v]))) := by
          intro v10 ns H9 t10 l10 g9 b9
          have tcH : Th (nw H H5) vc (TL' cs) := tc5.mono (nw_fromD (Dom.but b4 g4))
          refine ⟨(tcH.mono (nw_butP ho0 (a.but.trans b9))).mono nw_sub, b9 _ _ hxs nD, fun v m' H10 s10 t sq bt => ?_⟩
          exact a.step (by omega) (g9.same s10) (b9.trans (But.of s10)) (t.mono (nw_fromD (Dom.but b9 g9))) ⟨m', rfl, sq, bt⟩
        refine ⟨_, rfl, rfl, _, rfl, ite2 (fun c => ?_) (fun c => ?_)⟩
        · refine ⟨_, rfl, .inl ⟨rfl, _, SqL.of hxs⟩, _, rfl, _, rfl, _, rfl, p, n, m, rfl, a.src, hn, hm, hm2, fun v t H7 t7 s7 bt7 g7 b7 => ?_⟩
          obtain ⟨acc, h3, l3, a4⟩ := a.step (by omega) g7 b7 t7 ⟨t, rfl, s7, fun r hr i hi => ⟨by have := bt7 r hr i hi; omega, by have := bt7 r hr i hi; omega⟩⟩
          exact ⟨D, acc, _, rfl, rfl, h3, l3, ⟨_, _, _, rfl⟩, a4⟩
        · refine ⟨_, rfl, _, rfl, _, rfl, p, n, m, rfl, a.src, hn, by omega, hm2, fun v10 ns H7 t7 l7 bn7 g7 b7 => ?_⟩
          obtain ⟨l10, rfl, h10⟩ := Th.il t7
          have h10 := nw_sub _ _ h10
          refine ⟨_, rfl, _, _, rfl, rfl, _, rfl, ite2 (fun c2 => ?_) (fun c2 => ?_)⟩
          · refine ⟨_, rfl, l10, rfl, ⟨_, SqL.of h10⟩, fun D2 hD2 => ?_⟩
            refine lc_list (K := K) (xs := ns.map V.int) (AccS D2 H7 (SmallD m)) (AccS.init hD2) (fun i H' _ b => SqL.of (b.same _ _ h10)) ?_ ?_
            · rintro j y H8 hy b
              rw [List.getElem?_map] at hy
              obtain ⟨i1, e1, rfl⟩ := Option.map_eq_some_iff.mp hy
              have hj : j < ns.length := (List.getElem?_eq_some_iff.mp e1).1
              have kb := bn7 i1 (List.mem_of_getElem? e1)
              exact ⟨rfl, yes_go ⟨_, rfl, _, _, rfl, b.step (by omega) (Same.refl H8) (.int _) ⟨_, rfl, by split <;> omega, by split <;> omega⟩⟩⟩
            · rintro H8 b
              obtain ⟨ds, td, ld, pd⟩ := b.done (by rw [List.length_map]; omega)
              obtain ⟨os, eo, lo, bo⟩ := small_of pd
              rw [eo] at td
              rw [List.length_map] at ld
              obtain ⟨l11, e11, h11⟩ := Th.il td
              cases e11
              have h11 := nw_sub _ _ h11
              have j0 : 0 ≤ ((0 : Int) + (i : Int)).fmod n := Int.fmod_nonneg_of_pos _ (by omega)
              have j1 : ((0 : Int) + (i : Int)).fmod n < n := Int.fmod_lt_of_pos _ (by omega)
              obtain ⟨k, hk⟩ : ∃ k : Nat, ((0 : Int) + (i : Int)).fmod n = (k : Int) := ⟨(((0 : Int) + (i : Int)).fmod n).toNat, by omega⟩
              have f2 : H6 D2 = none := (Dom.but b7 g7).free hD2
              have n2 : D2 ≠ p := by
                obtain ⟨o, ho⟩ := a.src.some
                exact (ne_of_none ho f2).symm
              refine ⟨_, rfl, _, rfl, .inl ⟨_, rfl, _, rfl, _, _, rfl, rfl, (by omega), D2, _, ((0 : Int) + (i : Int)).fmod n, k, rfl, rfl, h11, ?_, ?_⟩⟩
              · rw [hk]
                unfold ixN
                rw [if_pos (by omega), if_pos (by rw [List.length_map]; omega)]
                rfl
              · have b9 : But p H6 (upd H8 D2 (.lst ((os.map V.int).set k (.int 0)))) := but_updF (b7.trans (But.of b.same)) f2
                have t9 : Th (upd H8 D2 (.lst ((os.map V.int).set k (.int 0)))) (.ref D2) (IL (os.set k 0)) := il_th (by rw [upd_same, List.map_set]) (by rw [List.length_set]; omega)
                have g9 : Src (upd H8 D2 (.lst ((os.map V.int).set k (.int 0)))) p := src_upd (g7.same b.same) n2.symm
                obtain ⟨f1, f2, f3⟩ := fin (.ref D2) (os.set k 0) _ t9 (by rw [List.length_set]; omega) g9 b9
                refine ⟨_, rfl, .inl ⟨rfl, _, SqL.of f2⟩, _, rfl, _, rfl, vc, .ref D2, n, cs, os.set k 0, m, rfl, f1, t9, sc5, (by rw [List.length_set]; omega), hn, bc5, (fun i hi => (List.mem_or_eq_of_mem_set hi).elim (bo i) (fun e => by rw [e]; exact ⟨by omega, by omega⟩)), fun v m' H10 s10 t10 sq bt => ?_⟩
                obtain ⟨acc, h3, l3, a4⟩ := f3 v m' H10 s10 t10 sq bt
                exact ⟨D, acc, _, rfl, rfl, h3, l3, ⟨_, _, _, rfl⟩, a4⟩
          · obtain ⟨f1, f2, f3⟩ := fin (.ref l10) ns H7 (t7.mono nw_sub) l7 g7 b7
            refine ⟨_, rfl, .inl ⟨rfl, _, SqL.of f2⟩, _, rfl, _, rfl, vc, .ref l10, n, cs, ns, m, rfl, f1, t7.mono nw_sub, sc5, l7, hn, bc5, bn7, fun v m' H10 s10 t10 sq bt => ?_⟩
            obtain ⟨acc, h3, l3, a4⟩ := f3 v m' H10 s10 t10 sq bt
            exact ⟨D, acc, _, rfl, rfl, h3, l3, ⟨_, _, _, rfl⟩, a4⟩
      · rintro σ H6 ⟨⟨o9, o10, o11, rfl⟩, a⟩
        have en : (z.length : Int).toNat = z.length := Int.toNat_natCast _
        rw [en] at a
        obtain ⟨ds, td, ld, pd⟩ := a.done (by omega)
        obtain ⟨c, ec, lc, ct, bc⟩ := costs_of pd
        rw [ec] at td
        refine ⟨_, rfl, _, rfl, _, rfl, _, rfl, (by show 4 ≤ sizeLine; decide), fun L hL => ?_⟩
        have sL := same_new (o := .lst [V.str z, vb, .ref D, ve]) hL
        have bb := (b05.trans a.but).trans (But.of sL)
        have f0 : H L = none := (Dom.but (b05.trans a.but) a.src).free hL
        have m5 : Same (nw H H4) (nw H (upd H6 L (.lst [V.str z, vb, .ref D, ve]))) := nw_butP ho0 ((b5.trans a.but).trans (But.of sL))
        have mD : Same (nw H5 H6) (nw H (upd H6 L (.lst [V.str z, vb, .ref D, ve]))) := (nw_mono sL).trans (nw_fromD (Dom.but b05 g5))
        refine q (.ref L) bs c es _ ?_ ⟨hn1, hn, hz, lb, by omega, ct, le⟩ (fun i hi => ⟨by have := bd i hi; omega, by have := bd i hi; omega⟩) (fun t ht r hr i hi => ⟨by have := bc t ht r hr i hi; omega, by have := bc t ht r hr i hi; omega⟩) (a.src.same sL) bb
        exact .lst (by rw [nw_at f0, upd_same]) (by show 4 ≤ sizeLine; decide) (.cons (.str zl) (.cons (tb4.mono m5) (.cons (td.mono mD) (.cons (te4.mono m5) .nil))))
    refine ⟨_, (pss_cons (ps_set (i := 4) nd rfl (by first | exact Or.inl rfl | exact Or.inr rfl) (pe_call G__law_draw (hr.mono (by omega)) rfl T.m_law_draw k__law_draw b__law_draw .nil pass0 (pa_cons (pv 0) (pa_cons pe_int pa_nil))))
  (pss_cons (ps_set (i := 5) nd rfl (by first | exact Or.inl rfl | exact Or.inr rfl) (pe_call G__law_prices (hr.mono (by omega)) rfl T.m_law_prices k__law_prices b__law_prices .nil pass0 (pa_cons (pv 0) (pa_cons (pv 1) (pa_cons (pv 3) pa_nil)))))
  (pss_cons (ps_set (i := 6) nd rfl (by first | exact Or.inl rfl | exact Or.inr rfl) (pe_call G__law_prices (hr.mono (by omega)) rfl T.m_law_prices k__law_prices b__law_prices .nil pass0 (pa_cons (pv 0) (pa_cons (pv 1) (pa_cons (pv 3) pa_nil)))))
  (pss_cons (ps_if (pt_cmpR op_eq (pe_call G__law_draw (hr.mono (by omega)) rfl T.m_law_draw k__law_draw b__law_draw .nil pass0 (pa_cons (pv 0) (pa_cons pe_int pa_nil))) pe_int (nomark _)) (pss_one (ps_set (i := 6) nd rfl (by first | exact Or.inl rfl | exact Or.inr rfl) (pe_op op_rep (pe_lst (pa_cons pe_int pa_nil)) (pv 1)))) pss_nil)
  d4)))), ?_⟩
    refine ⟨_, rfl, p, 7, rfl, hp, by decide, by decide, fun d H1 d0 d1 g1 b1 => ?_⟩
    refine ⟨_, rfl, _, rfl, _, rfl, p, n, m, rfl, g1, hn, by omega, hm2, fun vb bs H2 tb lb bd g2 b2 => ?_⟩
    refine ⟨_, rfl, _, rfl, _, rfl, p, n, m, rfl, g2, hn, by omega, hm2, fun ve0 es0 H3 te0 le0 _ g3 b3 => ?_⟩
    have b13 := b1.trans (b2.trans b3)
    have tb3 : Th (nw H H3) vb (IL bs) := ((tb.mono (nw_fromD (Dom.but b1 g1))).mono (nw_butP ho0 b3))
    have te3 : Th (nw H H3) ve0 (IL es0) := te0.mono (nw_fromD (Dom.but (b1.trans b2) g2))
    refine ⟨_, rfl, p, 2, rfl, g3, by decide, by decide, fun e H4 _ _ g4 b4 => ⟨rfl, _, rfl, ite2 (fun c => ?_) (fun c => ?_)⟩⟩
    rotate_left
    · exact nxt d vb ve0 bs es0 H4 d0 (tb3.mono (nw_butP ho0 b4)) lb bd (te3.mono (nw_butP ho0 b4)) le0 g4 (b13.trans b4)
    · refine ⟨(by show 1 ≤ sizeLine; decide), fun l1 hl1 => ?_⟩
      refine ⟨_, rfl, l1, n, _, rfl, rfl, upd_same, by omega, by omega, ?_, fun l2 hl2 => ?_⟩
      · exact Nat.le_trans (show 1 * (n : Int).toNat ≤ 1000 by omega) (by decide)
      · rw [show (List.replicate (n : Int).toNat [V.int 0]).flatten = (List.replicate n (0 : Int)).map V.int by simp]
        have s5 := (same_new (o := .lst [.int 0]) hl1).trans (same_new (o := .lst ((List.replicate n (0 : Int)).map V.int)) hl2)
        have e5 : (upd (upd H4 l1 (.lst [.int 0])) l2 (.lst ((List.replicate n (0 : Int)).map V.int))) l2 = some (.lst ((List.replicate n (0 : Int)).map V.int)) := upd_same
        have f5 : H l2 = none := (Dom.but (b13.trans b4) g4).free ((same_new (o := .lst [.int 0]) hl1).free hl2)
        show gName 6 (V.ref l2) _ (upd (upd H4 l1 (.lst [.int 0])) l2 (.lst ((List.replicate n (0 : Int)).map V.int))) _
        generalize upd (upd H4 l1 (.lst [.int 0])) l2 (.lst ((List.replicate n (0 : Int)).map V.int)) = H5 at s5 e5 ⊢
        exact nxt d vb (.ref l2) bs (List.replicate n 0) H5 d0 ((tb3.mono (nw_butP ho0 b4)).mono (nw_mono s5)) lb bd (il_th (by rw [nw_at f5]; exact e5) (by rw [List.length_replicate]; omega)) List.length_replicate (g4.same s5) ((b13.trans b4).trans (But.of s5))
end
end As

namespace Ow
open PySem PySem.Spec PyProof.Rows L2
theorem atI_neg {α : Type} {xs : List α} {k j : Nat} {v : α} (hk : 1 ≤ k) (e : j + k = xs.length) (h : xs[j]? = some v) : atI xs (-(k : Int)) = some v := by
  have he : ixN xs.length (-(k : Int)) = some j := by
    unfold ixN
    rw [if_neg (by omega), if_pos (by omega)]
    congr 1
    omega
  unfold atI
  rw [he]
  exact h
theorem Th.wd {H : Hp} {x : V} {z : Str} {b e : List Int} {c : List (List (List Int))} (h : Th H x (WD z b c e)) : ∃ l vb vc ve, x = .ref l ∧ H l = some (.lst [.str z, vb, vc, ve]) ∧ z.length ≤ sizeLine ∧ Th H vb (IL b) ∧ Th H vc (CL c) ∧ Th H ve (IL e) := by
  obtain ⟨l, xs, rfl, hl, r⟩ := Th.lstOf h
  cases r with
  | cons h1 r =>
    cases r with
    | cons h2 r =>
      cases r with
      | cons h3 r =>
        cases r with
        | cons h4 r =>
          cases r
          cases h1 with
          | str hz => exact ⟨l, _, _, _, rfl, hl, hz, h2, h3, h4⟩
/-- a list of ints made of one, entry by entry -/
theorem lc_ints {K : PySem.W.Frag} {H : Hp} {a D : Addr} {ns : List Int} {g : TG} {te : TE} {vs : List Nat} {σ : L2.St} {Qd : Hp → Prop} (hD : H D = none) (ha : H a = some (.lst (ns.map V.int))) (hz : ns.length ≤ 100000)
    (hs : ∀ (j : Nat) (i : Int) H', Same H H' → ∀ R : V → Hp → Prop, (∀ i' : Int, R (.int i') H') → g (.int i) (wipe σ vs) H' fun σ2 H2 => wipe σ2 vs = wipe σ vs ∧ tYes σ2 H2 fun b H3 => if b = true then te σ2 H3 R else AccS D H IntD (j + 1) H3) (hd : ∀ os H', Same H H' → Th (nw H H') (.ref D) (IL os) → os.length = ns.length → Qd H') :
    ∃ W : Nat → Nat → Hp → Prop, (∃ m, W 0 m (upd H D (.lst []))) ∧ ∀ i m H, W i m H →
      ((Itl K a).stop i H ∧ Qd H) ∨ ((Itl K a).go i H ∧ ∃ Nx : Hp → Prop, (∀ H', Nx H' → ∃ m', m' < m ∧ W (i + 1) m' H') ∧ ∀ x H', (Itl K a).yld i H x H' → g x (wipe σ vs) H' fun σ2 H2 => wipe σ2 vs = wipe σ vs ∧ tYes σ2 H2 fun b H3 =>
        if b = true then te σ2 H3 fun y H4 => ∃ acc, H4 D = some (.lst acc) ∧ acc.length < sizeLine ∧ Nx (upd H4 D (.lst (acc ++ [y]))) else Nx H3) := by
  refine lc_list (K := K) (xs := ns.map V.int) (AccS D H IntD) (AccS.init hD) (fun i H' _ b => SqL.of (b.same _ _ ha)) ?_ ?_
  · rintro j y H2 hy b
    rw [List.getElem?_map] at hy
    obtain ⟨i1, e1, rfl⟩ := Option.map_eq_some_iff.mp hy
    have hj : j < ns.length := (List.getElem?_eq_some_iff.mp e1).1
    exact hs j i1 H2 b.same _ fun i' => b.step (by omega) (Same.refl H2) (.int _) ⟨_, rfl, trivial⟩
  · rintro H2 b
    obtain ⟨ds, td, ld, pd⟩ := b.done (by rw [List.length_map]; omega)
    obtain ⟨os, eo, lo⟩ := line_of pd
    rw [eo] at td
    rw [List.length_map] at ld
    exact hd os H2 b.same td (by omega)
def spRaised : Sp := fun vs H Q _ => ∃ (x : V) (l : Addr) (more : List Int) (n : Nat) (z : Str) (b e : List Int) (c : List (List (List Int))), vs = [x, .ref l] ∧ Th H x (WD z b c e) ∧ H l = some (.lst (more.map V.int)) ∧ more.length = z.length + 2 ∧ Gw n z b c e ∧ Bd 1000000 b ∧ Bd 10000000000000000 more ∧ Bc 2000000 c ∧
  ∀ v b' c' e' H', Same H H' → Th (nw H H') v (WD z b' c' e') → Gw n z b' c' e' → Bd 100000000000000000 b' → Bc 100000000000000000 c' → Q v H'
end Ow
namespace As
open PySem PySem.Spec PyProof.Rows L2 Ow
section
variable {P : Program} {w : World} {K : PySem.W.Frag} {mg : Str → Option Value} {base : Heap} {A : Ad}
abbrev N__law_raised : List Str := ["_law_world_here", "_law_more", "_law_asks_here", "_law_begins", "_law_costs", "_law_ends", "_law_found", "_law_k", "_law_line", "_law_price"]
theorem sc__law_raised : FnScope N__law_raised ["_law_world_here", "_law_more"] (defScope s__law_raised) := ⟨rfl, rfl, rfl, by decide +kernel, rfl, by decide +kernel, by decide +kernel⟩
theorem ok_raised {fd : FuncData} (F : Fun K "_law_raised" "_law_raised" s__law_raised A.f__law_raised fd) (T : Tx K mg A) : FnOk P w K mg base CX0 1 A.f__law_raised fd ["_law_world_here", "_law_more"] spRaised := by
  have nd := sc__law_raised.nd
  refine F.ok sc__law_raised (fun vs H Q E h => ?_) (fun cdv A' outer s H vs Q E hr h => ?_)
  · obtain ⟨x, l, more, n, z, b, e, c, rfl, _⟩ := h
    rfl
  · obtain ⟨x, l, more, n, z, b, e, c, rfl, hx, hl, lm, gw, bdb, bdm, bcc, q⟩ := h
    refine ⟨_, (pss_cons (ps_asg (pv 0) (pg_lst (by rfl) (pgs_cons (pg_name (i := 2) nd rfl (by first | exact Or.inl rfl | exact Or.inr rfl)) (pgs_cons (pg_name (i := 3) nd rfl (by first | exact Or.inl rfl | exact Or.inr rfl)) (pgs_cons (pg_name (i := 4) nd rfl (by first | exact Or.inl rfl | exact Or.inr rfl)) (pgs_cons (pg_name (i := 5) nd rfl (by first | exact Or.inl rfl | exact Or.inr rfl)) pgs_nil))))))
  (pss_cons (ps_set (i := 6) nd rfl (by first | exact Or.inl rfl | exact Or.inr rfl) (pe_lst pa_nil))
  (pss_cons (ps_for PassesOwn.never rfl (pi_range1 (by rfl) T.nrange (pa_cons (pe_callB call_len_str (by rfl) T.nlen (by decide +kernel) (pa_cons (pv 2) pa_nil)) pa_nil)) (pg_name (i := 7) nd rfl (by first | exact Or.inl rfl | exact Or.inr rfl)) (pss_one (ps_expr (pe_bm PySem.F.plainAttrs_list PySem.F.slot_list_append PySem.F.type_list_append mt_append (pv 6) (pa_cons (pe_lc (own := [("_law_line", 8)]) (g := gName 8) (tt := tYes) rfl nd (pi_list (pe_ix ix_list (pv 4) (pv 7) (fun _ _ => rfl))) (blkOk_by (own := [("_law_line", 8)]) (N := N__law_raised) (sc := defScope s__law_raised) (by decide +kernel)) (fun _ _ _ _ _ => (pg_name (i := 8) nd rfl (by first | exact Or.inl rfl | exact Or.inr rfl))) (fun _ _ _ _ _ => pts_nil) (fun _ _ _ _ _ => (pe_lc (own := [("_law_price", 9)]) (g := gName 9) (tt := tYes) rfl nd (show PI _ _ _ (iList K (tVar 8)) from pi_list (pv 8)) (blkOk_by (own := [("_law_price", 9)]) (N := N__law_raised) (sc := relC (defScope s__law_raised) (lcSc (arg0 (exAt (forBody (defBody s__law_raised) 2) 0)))) (by decide +kernel)) (fun _ _ _ _ _ => (pg_name (i := 9) nd rfl (by first | exact Or.inl rfl | exact Or.inr rfl))) (fun _ _ _ _ _ => pts_nil) (fun _ _ _ _ _ => (pe_op op_add (pv 9) (pe_ix (show IxR _ (rIxL K) from ix_list) (pv 1) (pv 7) (fun _ _ => rfl))))))) pa_nil)))))
  (pss_one (ps_ret (pe_lst (pa_cons (pv 2) (pa_cons (pe_lc (own := [("_law_price", 9)]) (g := gName 9) (tt := tYes) rfl nd (pi_list (pv 3)) (blkOk_by (own := [("_law_price", 9)]) (N := N__law_raised) (sc := defScope s__law_raised) (by decide +kernel)) (fun _ _ _ _ _ => (pg_name (i := 9) nd rfl (by first | exact Or.inl rfl | exact Or.inr rfl))) (fun _ _ _ _ _ => pts_nil) (fun _ _ _ _ _ => (pe_op op_add (pv 9) (pe_ix (show IxR _ (rIxL K) from ix_list) (pv 1) (pe_un un_neg pe_int) (fun _ _ => rfl))))) (pa_cons (pv 6) (pa_cons (pe_lc (own := [("_law_price", 9)]) (g := gName 9) (tt := tYes) rfl nd (pi_list (pv 5)) (blkOk_by (own := [("_law_price", 9)]) (N := N__law_raised) (sc := defScope s__law_raised) (by decide +kernel)) (fun _ _ _ _ _ => (pg_name (i := 9) nd rfl (by first | exact Or.inl rfl | exact Or.inr rfl))) (fun _ _ _ _ _ => pts_nil) (fun _ _ _ _ _ => (pe_op op_sub (pv 9) (pe_ix (show IxR _ (rIxL K) from ix_list) (pv 1) (pe_un un_neg pe_int) (fun _ _ => rfl))))) pa_nil)))))))))), ?_⟩
    obtain ⟨lw, vb, vc, ve, rfl, hw, zl, tb, tc, te⟩ := hx.wd
    obtain ⟨kb, rfl, hb⟩ := tb.il
    obtain ⟨ke, rfl, he⟩ := te.il
    obtain ⟨kc, cs, rfl, hc, rc⟩ := Th.lstOf tc
    have gn := gw.n2
    have gz := gw.zl
    have lcs : cs.length = z.length := by rw [rc.len, List.length_map]; exact gw.lc
    refine ⟨_, rfl, lw, _, rfl, SqL.of hw, rfl, ?_⟩
    refine ⟨_, _, rfl, _, _, rfl, _, _, rfl, _, _, rfl, rfl, ?_⟩
    refine ⟨(by show 0 ≤ sizeLine; decide), fun D hD => ?_⟩
    refine ⟨_, rfl, z, rfl, zl, (z.length : Int), rfl, by omega, by omega, for_range (lo := 0) (n := (z.length : Int).toNat) (fun i σ H' => (∃ o7 o8 o9, σ = [some (V.ref lw), some (V.ref l), some (V.str z), some (.ref kb), some (.ref kc), some (.ref ke), some (V.ref D), o7, o8, o9]) ∧ AccS D H (TabD 100000000000000000 n) i H') ⟨⟨_, _, _, rfl⟩, AccS.init hD⟩ ?_ ?_⟩
    · rintro i σ H2 hi ⟨⟨o7, o8, o9, rfl⟩, a⟩
      have aD : ∃ xs, H2 D = some (.lst xs) := by
        obtain ⟨acc, _, h, _⟩ := a.at_
        exact ⟨acc, h⟩
      obtain ⟨xs, hxs⟩ := aD
      have hi' : i < z.length := by omega
      obtain ⟨t, et⟩ : ∃ t, c[i]? = some t := ⟨_, List.getElem?_eq_getElem (by rw [gw.lc]; exact hi')⟩
      have st := gw.lt t (List.mem_of_getElem? et)
      obtain ⟨vt, evt, tt⟩ := rc.got (i := i) (d := TL' t) (by rw [List.getElem?_map, et]; rfl)
      obtain ⟨kt, ts, rfl, ht, rt⟩ := Th.lstOf tt
      have lt : ts.length = n := by rw [rt.len, List.length_map]; exact st.1
      refine ⟨_, rfl, .inl ⟨rfl, _, SqL.of hxs⟩, ?_⟩
      refine ⟨_, rfl, _, rfl, kc, _, _, _, rfl, rfl, SqL.of (a.same _ _ hc), (by rw [Int.zero_add]; exact atI_nat evt), kt, rfl, ⟨_, SqL.of (a.same _ _ ht)⟩, fun D2 hD2 => ?_⟩
      refine lc_list (K := K) (xs := ts) (AccS D2 H2 (LineD 100000000000000000 n)) (AccS.init hD2) (fun j H' _ b => SqL.of (b.same _ _ (a.same _ _ ht))) ?_ ?_
      · rintro j y H3 hy a3
        have hj : j < ts.length := (List.getElem?_eq_some_iff.mp hy).1
        obtain ⟨dy, ed, ty⟩ := rt.get hy
        rw [List.getElem?_map] at ed
        obtain ⟨row, er, rfl⟩ := Option.map_eq_some_iff.mp ed
        have lr : row.length = n := st.2 row (List.mem_of_getElem? er)
        obtain ⟨kr, rfl, hr2⟩ := Th.il ty
        have h3 := a3.same _ _ (a.same _ _ hr2)
        have hl3 := a3.same _ _ (a.same _ _ hl)
        refine ⟨rfl, yes_go ?_⟩
        refine ⟨_, rfl, kr, rfl, ⟨_, SqL.of h3⟩, fun D3 hD3 => ?_⟩
        refine lc_list (K := K) (xs := row.map V.int) (AccS D3 H3 (SmallD 100000000000000000)) (AccS.init hD3) (fun i H' _ b => SqL.of (b.same _ _ h3)) ?_ ?_
        · rintro jj y H4 hy b4
          rw [List.getElem?_map] at hy
          obtain ⟨i1, e1, rfl⟩ := Option.map_eq_some_iff.mp hy
          have hjj : jj < row.length := (List.getElem?_eq_some_iff.mp e1).1
          obtain ⟨mi, em⟩ : ∃ mi, more[i]? = some mi := ⟨_, List.getElem?_eq_getElem (by omega)⟩
          have k1 := bcc t (List.mem_of_getElem? et) row (List.mem_of_getElem? er) i1 (List.mem_of_getElem? e1)
          have k2 := bdm mi (List.mem_of_getElem? em)
          exact ⟨rfl, yes_go ⟨_, rfl, _, rfl, _, rfl, l, _, _, _, rfl, rfl, SqL.of (b4.same _ _ hl3), (by rw [Int.zero_add]; exact atI_nat (by rw [List.getElem?_map, em]; rfl)), _, _, rfl, rfl, b4.step (by omega) (Same.refl H4) (.int _) ⟨_, rfl, by omega, by omega⟩⟩⟩
        · rintro H4 b4
          obtain ⟨ds4, t4, l4, pd4⟩ := b4.done (by rw [List.length_map]; omega)
          obtain ⟨os, eo, los, bos⟩ := small_of pd4
          rw [eo] at t4
          rw [List.length_map] at l4
          exact a3.step (by omega) b4.same t4 ⟨os, rfl, by omega, bos⟩
      · rintro H3 a3
        obtain ⟨ds, td, ld, pd⟩ := a3.done (by omega)
        obtain ⟨m', em, lm', hm', bm'⟩ := tab_of pd
        rw [em] at td
        obtain ⟨acc, h3, l3, a4⟩ := a.step (by omega) a3.same td ⟨m', rfl, ⟨by omega, hm'⟩, bm'⟩
        exact ⟨D, acc, _, rfl, rfl, h3, l3, ⟨_, _, _, rfl⟩, a4⟩
    · rintro σ H2 ⟨⟨o7, o8, o9, rfl⟩, a⟩
      have en : (z.length : Int).toNat = z.length := Int.toNat_natCast _
      rw [en] at a
      obtain ⟨ds, td, ld, pd⟩ := a.done (by omega)
      obtain ⟨c', ec, lc, ct, bc'⟩ := costs_of pd
      rw [ec] at td
      have hb2 := a.same _ _ hb
      have he2 := a.same _ _ he
      have hl2 := a.same _ _ hl
      refine ⟨_, rfl, _, rfl, kb, rfl, ⟨_, SqL.of hb2⟩, fun D1 hD1 => ?_⟩
      have gb := gw.lb
      have ge := gw.le
      refine lc_list (K := K) (xs := b.map V.int) (AccS D1 H2 (SmallD 100000000000000000)) (AccS.init hD1) (fun i H' _ b => SqL.of (b.same _ _ hb2)) ?_ ?_
      · rintro j y H4 hy b4
        rw [List.getElem?_map] at hy
        obtain ⟨i1, e1, rfl⟩ := Option.map_eq_some_iff.mp hy
        have hj : j < b.length := (List.getElem?_eq_some_iff.mp e1).1
        obtain ⟨mi, em⟩ : ∃ mi, more[z.length + 1]? = some mi := ⟨_, List.getElem?_eq_getElem (by omega)⟩
        have k1 := bdb i1 (List.mem_of_getElem? e1)
        have k2 := bdm mi (List.mem_of_getElem? em)
        exact ⟨rfl, yes_go ⟨_, rfl, _, rfl, 1, rfl, l, _, _, _, rfl, rfl, SqL.of (b4.same _ _ hl2), atI_neg (k := 1) (j := z.length + 1) (by omega) (by rw [List.length_map]; omega) (by rw [List.getElem?_map, em]; rfl), _, _, rfl, rfl, b4.step (by omega) (Same.refl H4) (.int _) ⟨_, rfl, by omega, by omega⟩⟩⟩
      rintro H3 b3
      obtain ⟨ds3, t3, l3, pd3⟩ := b3.done (by rw [List.length_map]; omega)
      obtain ⟨bs, eb, lbs, bds⟩ := small_of pd3
      rw [eb] at t3
      rw [List.length_map] at l3
      have s3 := b3.same
      · refine ⟨_, rfl, _, rfl, ke, rfl, ⟨_, SqL.of (s3 _ _ he2)⟩, fun D3 hD3 => ?_⟩
        refine lc_ints hD3 (s3 _ _ he2) (by omega) (fun jj i1 H4 s4 R hR => ⟨rfl, yes_go ?_⟩) fun es H4 s4 t4 l4 => ?_
        · obtain ⟨mi, em⟩ : ∃ mi, more[z.length]? = some mi := ⟨_, List.getElem?_eq_getElem (by omega)⟩
          exact ⟨_, rfl, _, rfl, 2, rfl, l, _, _, _, rfl, rfl, SqL.of (s4 _ _ (s3 _ _ hl2)), atI_neg (k := 2) (j := z.length) (by omega) (by rw [List.length_map]; omega) (by rw [List.getElem?_map, em]; rfl), _, _, rfl, rfl, hR _⟩
        · refine ⟨(by show 4 ≤ sizeLine; decide), fun L hL => ?_⟩
          have sL := same_new (o := .lst [V.str z, .ref D1, .ref D, .ref D3]) hL
          have s24 := s3.trans (s4.trans sL)
          have sall := a.same.trans s24
          have f0 : H L = none := a.same.free (s3.free (s4.free hL))
          refine q (.ref L) bs c' es _ sall ?_ ⟨gw.n1, gn, gz, by omega, by omega, ct, by omega⟩ bds bc'
          exact .lst (by rw [nw_at f0, upd_same]) (by show 4 ≤ sizeLine; decide) (.cons (.str zl) (.cons (t3.mono ((nw_mono (s4.trans sL)).trans (nw_from a.same))) (.cons (td.mono (nw_mono s24)) (.cons (t4.mono ((nw_mono sL).trans (nw_from (a.same.trans s3)))) .nil))))
end
end As

namespace Ow
open PySem PySem.Spec PyProof.Rows L2
def spMoved : Sp := fun vs H Q _ => ∃ (p : Addr) (x : V) (Hz : Hp) (n : Nat) (z : Str) (b e : List Int) (c : List (List (List Int))), vs = [.ref p, x] ∧ Src H p ∧ (∃ o, Hz p = some o) ∧ Dom Hz H ∧ Th (nw Hz H) x (WD z b c e) ∧ Gw n z b c e ∧ Bd 1000000 b ∧ Bc 2000000 c ∧
  ∀ v b' c' e' H', Th (nw Hz H') v (WD z b' c' e') → Gw n z b' c' e' → Bd 100000000000000000 b' → Bc 100000000000000000 c' → Src H' p → But p H H' → Q v H'
/-- the lists of a world, each of its own -/
structure Lw (H H' : Hp) (L l1 D l2 : Addr) (Gc : Hp) (z : Str) (b : List Int) (c : List (List (List Int))) (e : List Int) : Prop where
  at_ : H' L = some (.lst [.str z, .ref l1, .ref D, .ref l2])
  a1 : H' l1 = some (.lst (b.map V.int))
  a2 : H' l2 = some (.lst (e.map V.int))
  tc : Th Gc (.ref D) (CL c)
  sub : Same Gc H'
  fr : ∀ a o, Gc a = some o → H a = none
  g1 : Gc l1 = none
  g2 : Gc l2 = none
  gL : Gc L = none
  f1 : H l1 = none
  f2 : H l2 = none
  fL : H L = none
  n12 : l1 ≠ l2
  n1L : l1 ≠ L
  n2L : l2 ≠ L
  zl : z.length ≤ sizeLine
theorem Lw.th {H H' : Hp} {L l1 D l2 : Addr} {Gc : Hp} {z : Str} {b e : List Int} {c : List (List (List Int))} (h : Lw H H' L l1 D l2 Gc z b c e) (zb : b.length ≤ 100000) (ze : e.length ≤ 100000) : Th H' (.ref L) (WD z b c e) :=
  .lst h.at_ (by show 4 ≤ sizeLine; decide) (.cons (.str h.zl) (.cons (il_th h.a1 zb) (.cons (h.tc.mono h.sub) (.cons (il_th h.a2 ze) .nil))))
def spLists : Sp := fun vs H Q _ => ∃ (x : V) (n : Nat) (z : Str) (b e : List Int) (c : List (List (List Int))), vs = [x] ∧ Th H x (WD z b c e) ∧ Gw n z b c e ∧ ∀ L l1 D l2 Gc H', Same H H' → Lw H H' L l1 D l2 Gc z b c e → Q (.ref L) H'
end Ow
namespace As
open PySem PySem.Spec PyProof.Rows L2 Ow
section
variable {P : Program} {w : World} {K : PySem.W.Frag} {mg : Str → Option Value} {base : Heap} {A : Ad}
abbrev N__law_moved : List Str := ["_law_source_here", "_law_world_here", "_law_more", "_law_k", "_law_number"]
theorem sc__law_moved : FnScope N__law_moved ["_law_source_here", "_law_world_here"] (defScope s__law_moved) := ⟨rfl, rfl, rfl, by decide +kernel, rfl, by decide +kernel, by decide +kernel⟩
theorem ok_moved {fd : FuncData} (F : Fun K "_law_moved" "_law_moved" s__law_moved A.f__law_moved fd) (T : Tx K mg A) (KDraw : Kp P w K mg base CX0 1 A.f__law_draw ["_law_source_here", "_law_many"] spDraw)
    (KR : Kp P w K mg base CX0 1 A.f__law_raised ["_law_world_here", "_law_more"] spRaised) : FnOk P w K mg base CX0 2 A.f__law_moved fd ["_law_source_here", "_law_world_here"] spMoved := by
  obtain ⟨fd1, G__law_draw, b__law_draw, k__law_draw⟩ := KDraw
  obtain ⟨fd2, G__law_raised, b__law_raised, k__law_raised⟩ := KR
  have nd := sc__law_moved.nd
  refine F.ok sc__law_moved (fun vs H Q E h => ?_) (fun cdv A' outer s H vs Q E hr h => ?_)
  · obtain ⟨p, x, Hz, n, z, b, e, c, rfl, _⟩ := h
    rfl
  · obtain ⟨p, x, Hz, n, z, b, e, c, rfl, hp, ⟨oz, hoz⟩, dz, hx, gw, bdb, bcc, q⟩ := h
    have gz := gw.zl
    have zl : z.length ≤ sizeLine := Nat.le_trans gz (by decide)
    obtain ⟨t3, d3, nxt⟩ : ∃ t, PSs (cxOf CX0 P w K mg base N__law_moved "_law_moved" (defScope s__law_moved) A.f__law_moved cdv A' outer s H E).nox ((defBody s__law_moved).drop 3) t ∧ ∀ (l : Addr) (ms : List Int) (H4 : Hp),
        H4 l = some (.lst (ms.map V.int)) → ms.length = z.length + 2 → Bd 10000000000000000 ms → Src H4 p → But p H H4 → t { nx := fun _ H' => Q .non H', rt := Q } [some (.ref p), some x, some (.ref l), none, none] H4 := by
      refine ⟨_, (pss_cons (ps_ret (pe_call G__law_raised (hr.mono (by omega)) rfl T.m_law_raised k__law_raised b__law_raised .nil pass0 (pa_cons (pv 1) (pa_cons (pv 2) pa_nil))))
  pss_nil), ?_⟩
      intro l ms H4 hl lm bm g4 b4
      have hx4 := hx.mono (nw_butP hoz b4)
      refine ⟨_, rfl, _, rfl, x, l, ms, n, z, b, e, c, rfl, hx4.mono nw_sub, hl, lm, gw, bdb, bm, bcc, fun v b' c' e' H5 s5 t5 gw5 bd5 bc5 => ?_⟩
      exact q v b' c' e' H5 (t5.mono (nw_fromD (dz.trans (Dom.but b4 g4)))) gw5 bd5 bc5 (g4.same s5) (b4.trans (But.of s5))
    refine ⟨_, (pss_cons (ps_if (pt_cmpR op_eq (pe_call G__law_draw (hr.mono (by omega)) rfl T.m_law_draw k__law_draw b__law_draw .nil pass0 (pa_cons (pv 0) (pa_cons pe_int pa_nil))) pe_int (nomark _)) (pss_one (ps_ret (pv 1))) pss_nil)
  (pss_cons (ps_setLc (i := 2) (own := [("_law_k", 3)]) (g := gName 3) (tt := tYes) rfl nd rfl rfl (sw_true rfl rfl rfl (by decide +kernel)) (pi_range1 (by rfl) T.nrange (pa_cons (pe_op op_add (pe_callB call_len_str (by rfl) T.nlen (by decide +kernel) (pa_cons (pe_ix ix_list (pv 1) pe_int (fun _ _ => rfl)) pa_nil)) pe_int) pa_nil)) (blkOk_by (own := [("_law_k", 3)]) (N := N__law_moved) (sc := defScope s__law_moved) (by decide +kernel)) (fun _ _ _ _ _ => (pg_name (i := 3) nd rfl (by first | exact Or.inl rfl | exact Or.inr rfl))) (fun _ _ _ _ _ => pts_nil) (fun _ _ _ _ _ => (pe_op op_sub (pe_call G__law_draw (hr.mono (by omega)) rfl T.m_law_draw k__law_draw b__law_draw .nil pass0 (pa_cons (pv 0) (pa_cons pe_int pa_nil))) pe_int)))
  (pss_cons (ps_if (pt_cmpR op_eq (pe_call G__law_draw (hr.mono (by omega)) rfl T.m_law_draw k__law_draw b__law_draw .nil pass0 (pa_cons (pv 0) (pa_cons pe_int pa_nil))) pe_int (nomark _)) (pss_one (ps_setLc (i := 2) (own := [("_law_number", 4)]) (g := gName 4) (tt := tYes) rfl nd rfl rfl (sw_true rfl rfl rfl (by decide +kernel)) (pi_list (pv 2)) (blkOk_by (own := [("_law_number", 4)]) (N := N__law_moved) (sc := defScope s__law_moved) (by decide +kernel)) (fun _ _ _ _ _ => (pg_name (i := 4) nd rfl (by first | exact Or.inl rfl | exact Or.inr rfl))) (fun _ _ _ _ _ => pts_nil) (fun _ _ _ _ _ => (pe_op op_mul (pv 4) (pe_op op_pow pe_int pe_int))))) pss_nil)
  d3))), ?_⟩
    refine ⟨_, rfl, p, 3, rfl, hp, by decide, by decide, fun d H1 _ _ g1 b1 => ⟨rfl, _, rfl, ite2 (fun k => ?_) (fun k => ?_)⟩⟩
    · exact ⟨_, rfl, q x b c e H1 (hx.mono (nw_butP hoz b1)) gw (fun i hi => ⟨by have := bdb i hi; omega, by have := bdb i hi; omega⟩) (fun t ht r hr i hi => ⟨by have := bcc t ht r hr i hi; omega, by have := bcc t ht r hr i hi; omega⟩) g1 b1⟩
    · have hx1 := (hx.mono (nw_butP hoz b1)).mono nw_sub
      obtain ⟨lw, vb, vc, ve, rfl, hw, _, tb, tc, te⟩ := hx1.wd
      refine ⟨_, rfl, lw, _, 0, .str z, rfl, rfl, SqL.of hw, atI_nat (j := 0) rfl, z, rfl, zl, ?_⟩
      refine ⟨_, _, rfl, rfl, (z.length : Int) + 2, rfl, by omega, by omega, fun D hD => ?_⟩
      refine lc_range (lo := 0) (n := ((z.length : Int) + 2).toNat) (Acc p D H1 (SmallD 4)) (Acc.init hD g1) ?_ ?_
      · rintro i H2 hi a
        exact ⟨rfl, yes_go ⟨_, rfl, p, 9, rfl, a.src, by decide, by decide, fun e H4 e0 e1 g4 b4 => ⟨_, _, rfl, rfl, a.step (by omega) g4 b4 (.int _) ⟨_, rfl, by omega, by omega⟩⟩⟩⟩
      · rintro H2 a
        obtain ⟨ds, td, ld, pd⟩ := a.done (by omega)
        obtain ⟨ms, em, lm, sm⟩ := small_of pd
        rw [em] at td
        have td := td.mono nw_sub
        obtain ⟨l2, e2, h2⟩ := td.il
        cases e2
        have nD := a.ne
        have lms : ms.length = z.length + 2 := by omega
        refine ⟨_, rfl, p, 8, rfl, a.src, by decide, by decide, fun d2 H3 _ _ g3 b3 => ⟨rfl, _, rfl, ite2 (fun k2 => ?_) (fun k2 => ?_)⟩⟩
        · have h3 := b3 _ _ h2 nD
          refine ⟨_, rfl, D, rfl, ⟨_, SqL.of h3⟩, fun D2 hD2 => ?_⟩
          refine lc_list (K := K) (xs := ms.map V.int) (AccS D2 H3 (SmallD 10000000000000000)) (AccS.init hD2) (fun i H' _ b => SqL.of (b.same _ _ h3)) ?_ ?_
          · rintro j y H4 hy b
            rw [List.getElem?_map] at hy
            obtain ⟨i1, e1, rfl⟩ := Option.map_eq_some_iff.mp hy
            have hj : j < ms.length := (List.getElem?_eq_some_iff.mp e1).1
            have hb := sm i1 (List.mem_of_getElem? e1)
            exact ⟨rfl, yes_go ⟨_, rfl, _, _, rfl, rfl, ⟨by decide, by decide, by decide⟩, _, _, rfl, rfl, .inl ⟨by omega, by omega⟩, b.step (by omega) (Same.refl H4) (.int _) ⟨_, rfl, (by show -10000000000000000 ≤ i1 * 1000000000000000; omega), (by show i1 * 1000000000000000 ≤ 10000000000000000; omega)⟩⟩⟩
          · rintro H4 b
            obtain ⟨ds4, td4, ld4, pd4⟩ := b.done (by rw [List.length_map]; omega)
            obtain ⟨os, eo, lo, bo⟩ := small_of pd4
            rw [eo] at td4
            rw [List.length_map] at ld4
            have td4 := td4.mono nw_sub
            obtain ⟨l4, e4, h4⟩ := td4.il
            cases e4
            exact nxt D2 os H4 h4 (by omega) bo (g3.same b.same) ((b1.trans a.but).trans (b3.trans (But.of b.same)))
        · exact nxt D ms H3 (b3 _ _ h2 nD) lms (fun i hi => ⟨by have := sm i hi; omega, by have := sm i hi; omega⟩) g3 ((b1.trans a.but).trans b3)
abbrev N__law_lists : List Str := ["_law_world_here", "_law_costs", "_law_table", "_law_line"]
theorem sc__law_lists : FnScope N__law_lists ["_law_world_here"] (defScope s__law_lists) := ⟨rfl, rfl, rfl, by decide +kernel, rfl, by decide +kernel, by decide +kernel⟩
theorem ok_lists {fd : FuncData} (F : Fun K "_law_lists" "_law_lists" s__law_lists A.f__law_lists fd) (T : Tx K mg A) : FnOk P w K mg base CX0 1 A.f__law_lists fd ["_law_world_here"] spLists := by
  have nd := sc__law_lists.nd
  refine F.ok sc__law_lists (fun vs H Q E h => ?_) (fun cdv A' outer s H vs Q E hr h => ?_)
  · obtain ⟨x, n, z, b, e, c, rfl, _⟩ := h
    rfl
  · obtain ⟨x, n, z, b, e, c, rfl, hx, gw, q⟩ := h
    refine ⟨_, (pss_cons (ps_setLc (i := 1) (own := [("_law_table", 2)]) (g := gName 2) (tt := tYes) rfl nd rfl rfl (sw_true rfl rfl rfl (by decide +kernel)) (pi_list (pe_ix ix_list (pv 0) pe_int (fun _ _ => rfl))) (blkOk_by (own := [("_law_table", 2)]) (N := N__law_lists) (sc := defScope s__law_lists) (by decide +kernel)) (fun _ _ _ _ _ => (pg_name (i := 2) nd rfl (by first | exact Or.inl rfl | exact Or.inr rfl))) (fun _ _ _ _ _ => pts_nil) (fun _ _ _ _ _ => (pe_lc (own := [("_law_line", 3)]) (g := gName 3) (tt := tYes) rfl nd (show PI _ _ _ (iList K (tVar 2)) from pi_list (pv 2)) (blkOk_by (own := [("_law_line", 3)]) (N := N__law_lists) (sc := lcSc (valAt (defBody s__law_lists) 0)) (by decide +kernel)) (fun _ _ _ _ _ => (pg_name (i := 3) nd rfl (by first | exact Or.inl rfl | exact Or.inr rfl))) (fun _ _ _ _ _ => pts_nil) (fun _ _ _ _ _ => (pe_callTy (show CallR _ (.type "list") (rLsOf K) from call_list_of) (by rfl) T.nlist (by decide +kernel) (pa_cons (pv 3) pa_nil))))))
  (pss_one (ps_ret (pe_lst (pa_cons (pe_ix ix_list (pv 0) pe_int (fun _ _ => rfl)) (pa_cons (pe_callTy (show CallR _ (.type "list") (rLsOf K) from call_list_of) (by rfl) T.nlist (by decide +kernel) (pa_cons (pe_ix ix_list (pv 0) pe_int (fun _ _ => rfl)) pa_nil)) (pa_cons (pv 1) (pa_cons (pe_callTy (show CallR _ (.type "list") (rLsOf K) from call_list_of) (by rfl) T.nlist (by decide +kernel) (pa_cons (pe_ix ix_list (pv 0) pe_int (fun _ _ => rfl)) pa_nil)) pa_nil)))))))), ?_⟩
    obtain ⟨lw, vb, vc, ve, rfl, hw, zl, tb, tc, te⟩ := hx.wd
    obtain ⟨kb, rfl, hb⟩ := tb.il
    obtain ⟨ke, rfl, he⟩ := te.il
    obtain ⟨kc, cs, rfl, hc, rc⟩ := Th.lstOf tc
    have gn := gw.n2
    have gz := gw.zl
    have lcs : cs.length = c.length := by rw [rc.len, List.length_map]
    have lcz := gw.lc
    refine ⟨_, rfl, lw, _, 2, _, rfl, rfl, SqL.of hw, atI_nat (j := 2) rfl, kc, rfl, ⟨_, SqL.of hc⟩, fun D hD => ?_⟩
    refine lc_list (K := K) (xs := cs) (AccS D H (fun k d => (c.map TL')[k]? = some d)) (AccS.init hD) (fun i H' _ b => SqL.of (b.same _ _ hc)) ?_ ?_
    · rintro i y H2 hy a
      have hi : i < cs.length := (List.getElem?_eq_some_iff.mp hy).1
      obtain ⟨dy, ed, ty⟩ := rc.get hy
      rw [List.getElem?_map] at ed
      obtain ⟨t, et, rfl⟩ := Option.map_eq_some_iff.mp ed
      have st := gw.lt t (List.mem_of_getElem? et)
      obtain ⟨kt, ts, rfl, ht, rt⟩ := Th.lstOf ty
      have lt : ts.length = t.length := by rw [rt.len, List.length_map]
      have st1 := st.1
      refine ⟨rfl, yes_go ?_⟩
      refine ⟨_, rfl, kt, rfl, ⟨_, SqL.of (a.same _ _ ht)⟩, fun D2 hD2 => ?_⟩
      refine lc_list (K := K) (xs := ts) (AccS D2 H2 (fun k d => (t.map IL)[k]? = some d)) (AccS.init hD2) (fun i H' _ b => SqL.of (b.same _ _ (a.same _ _ ht))) ?_ ?_
      · rintro j y H3 hy3 a3
        have hj : j < ts.length := (List.getElem?_eq_some_iff.mp hy3).1
        obtain ⟨dy, ed, ty⟩ := rt.get hy3
        rw [List.getElem?_map] at ed
        obtain ⟨row, er, rfl⟩ := Option.map_eq_some_iff.mp ed
        have lr : row.length = n := st.2 row (List.mem_of_getElem? er)
        obtain ⟨kr, rfl, hr2⟩ := Th.il ty
        refine ⟨rfl, yes_go ⟨_, rfl, kr, _, rfl, .inl (SqL.of (a3.same _ _ (a.same _ _ hr2))), fun l3 hl3 => ?_⟩⟩
        exact a3.step (by omega) (same_new hl3) (il_th (by rw [nw_at hl3, upd_same]) (by omega)) (by rw [List.getElem?_map, er]; rfl)
      · rintro H3 a3
        obtain ⟨ds, td, ld, pd⟩ := a3.done (by omega)
        obtain rfl : ds = t.map IL := List.ext_getElem? fun k => by
          by_cases hk : k < ds.length
          · rw [List.getElem?_eq_getElem hk]
            exact (pd k _ (List.getElem?_eq_getElem hk)).symm
          · rw [List.getElem?_eq_none (by omega), List.getElem?_eq_none (by rw [List.length_map]; omega)]
        exact a.step (by omega) a3.same td (by rw [List.getElem?_map, et]; rfl)
    · rintro H2 a
      obtain ⟨ds, td, ld, pd⟩ := a.done (by omega)
      obtain rfl : ds = c.map TL' := List.ext_getElem? fun k => by
        by_cases hk : k < ds.length
        · rw [List.getElem?_eq_getElem hk]
          exact (pd k _ (List.getElem?_eq_getElem hk)).symm
        · rw [List.getElem?_eq_none (by omega), List.getElem?_eq_none (by rw [List.length_map]; omega)]
      have gb := gw.lb
      have ge := gw.le
      have hw2 := a.same _ _ hw
      refine ⟨_, rfl, lw, _, 0, .str z, rfl, rfl, SqL.of hw2, atI_nat (j := 0) rfl, ?_⟩
      refine ⟨_, rfl, lw, _, 1, .ref kb, rfl, rfl, SqL.of hw2, atI_nat (j := 1) rfl, kb, _, rfl, .inl (SqL.of (a.same _ _ hb)), fun l1 hl1 => ?_⟩
      have s1 := same_new (o := .lst (b.map V.int)) hl1
      have hl1' : (upd H2 l1 (.lst (b.map V.int))) l1 = some (.lst (b.map V.int)) := upd_same
      generalize upd H2 l1 (.lst (b.map V.int)) = H3 at s1 hl1' ⊢
      refine ⟨_, rfl, _, rfl, lw, _, 3, .ref ke, rfl, rfl, SqL.of (s1 _ _ hw2), atI_nat (j := 3) rfl, ke, _, rfl, .inl (SqL.of (s1 _ _ (a.same _ _ he))), fun l2 hl2 => ?_⟩
      have s2 := same_new (o := .lst (e.map V.int)) hl2
      have hl2' : (upd H3 l2 (.lst (e.map V.int))) l2 = some (.lst (e.map V.int)) := upd_same
      generalize upd H3 l2 (.lst (e.map V.int)) = H4 at s2 hl2' ⊢
      refine ⟨(by show 4 ≤ sizeLine; decide), fun L hL => ?_⟩
      have sL := same_new (o := .lst [V.str z, .ref l1, .ref D, .ref l2]) hL
      have s24 := s1.trans (s2.trans sL)
      have f0 : H L = none := a.same.free (s1.free (s2.free hL))
      have sF := a.same.trans s24
      have none_of : ∀ {G : Hp} {x : Addr}, Same G H2 → H2 x = none → G x = none := fun s h => s.free h
      have sub2 : Same (nw H H2) H2 := nw_sub
      refine q L l1 D l2 (nw H H2) _ sF ⟨upd_same, sL _ _ (s2 _ _ hl1'), sL _ _ hl2', td, sub2.trans s24, fun x o hx => ?_, none_of sub2 hl1, none_of sub2 (s1.free hl2), none_of sub2 (s1.free (s2.free hL)), a.same.free hl1, a.same.free (s1.free hl2), f0, ?_, ?_, ?_, zl⟩
      · cases e : H x with
        | none => rfl
        | some u => unfold nw at hx; rw [e] at hx; cases hx
      · exact fun z => by rw [← z, hl1'] at hl2; cases hl2
      · exact fun z => by rw [← z, s2 _ _ hl1'] at hL; cases hL
      · exact fun z => by rw [← z, hl2'] at hL; cases hL
end
end As

namespace Ow
open PySem PySem.Spec PyProof.Rows L2
theorem deep_IL (l : List Int) : deepD (IL l) = IT l := by
  unfold IL IT
  rw [deepD, deepAll_map, List.map_map]
  rfl
theorem deep_TL (t : List (List Int)) : deepD (TL' t) = TTt t := by
  unfold TL' TTt
  rw [deepD, deepAll_map, List.map_map]
  congr 1
  exact List.map_congr_left fun r _ => deep_IL r
theorem deep_CL (c : List (List (List Int))) : deepD (CL c) = CTt c := by
  unfold CL CTt
  rw [deepD, deepAll_map, List.map_map]
  congr 1
  exact List.map_congr_left fun r _ => deep_TL r
theorem dep_IL (l : List Int) : (IL l).depth ≤ 1 := by unfold IL; rw [PyData.depth]; have := dep_map _ 0 dep_int l; omega
theorem dep_TL (l : List (List Int)) : (TL' l).depth ≤ 2 := by unfold TL'; rw [PyData.depth]; have := dep_map _ 1 dep_IL l; omega
theorem dep_CL (l : List (List (List Int))) : (CL l).depth ≤ 3 := by unfold CL; rw [PyData.depth]; have := dep_map _ 2 dep_TL l; omega
theorem pl_map {α : Type} (f : α → PyData) (h : ∀ a, plainD (f a) = true) : ∀ l : List α, plainAll (l.map f) = true
  | [] => by rw [List.map_nil, plainAll]
  | a :: r => by rw [List.map_cons, plainAll, h, pl_map f h r]; rfl
theorem pl_IL (l : List Int) : plainD (IL l) = true := by unfold IL; rw [plainD]; exact pl_map _ (fun a => rfl) l
theorem pl_TL (l : List (List Int)) : plainD (TL' l) = true := by unfold TL'; rw [plainD]; exact pl_map _ pl_IL l
theorem pl_CL (l : List (List (List Int))) : plainD (CL l) = true := by unfold CL; rw [plainD]; exact pl_map _ pl_TL l
def spStoreIs (C : Addr) : Sp := fun vs H Q _ => ∃ (g : Addr) (x : V) (n : Nat) (z : Str) (b e : List Int) (c : List (List (List Int))), vs = [.ref g, x] ∧ IsS C H g z b c e ∧ Th H x (WD z b c e) ∧ Gw n z b c e ∧ ∀ H', Same H H' → Q (.bl true) H'
end Ow
namespace As
open PySem PySem.Spec PyProof.Rows L2 Ow
section
variable {P : Program} {w : World} {K : PySem.W.Frag} {mg : Str → Option Value} {base : Heap} {A : Ad}
abbrev N__law_deep : List Str := ["_law_thing", "_law_part_here"]
theorem sc__law_deep : FnScope N__law_deep ["_law_thing"] (defScope s__law_deep) := ⟨rfl, rfl, rfl, by decide +kernel, rfl, by decide +kernel, by decide +kernel⟩
theorem ok_ldStep {fd : FuncData} {n k : Nat} {sp2 : Sp} (hk : 1 ≤ k) (F : Fun K "_law_deep" "_law_deep" s__law_deep A.f__law_deep fd) (T : Tx K mg A)
    (KA : Kp P w K mg base CX0 k A.f__law_deep ["_law_thing"] sp2) (hs : ∀ m vs H Q E, m + 1 = n → spDeep m vs H Q E → sp2 vs H Q E) : FnOk P w K mg base CX0 (k + 1) A.f__law_deep fd ["_law_thing"] (spDeep n) := by
  obtain ⟨fdE, G__law_deep, b__law_deep, k__law_deep⟩ := KA
  have nd := sc__law_deep.nd
  refine F.ok sc__law_deep (fun vs H Q E h => ?_) (fun cdv A' outer s H vs Q E hr h => ?_)
  · obtain ⟨x, d, rfl, _⟩ := h
    rfl
  · obtain ⟨x, d, rfl, hx, hn, hp, q⟩ := h
    refine ⟨_, (pss_cons (ps_if (pt_val (pe_callB call_isiT (by rfl) T.nisinstance (by decide +kernel) (pa_cons (pv 0) (pa_cons (pe_tup (pa_cons (pe_bltn (v := .ty "list") (by rfl) T.nlist (by decide +kernel) rfl) (pa_cons (pe_bltn (v := .ty "tuple") (by rfl) T.ntuple (by decide +kernel) rfl) pa_nil))) pa_nil)))) (pss_one (ps_ret (pe_callTy call_tuple_of (by rfl) T.ntuple (by decide +kernel) (pa_cons (pe_lc (own := [("_law_part_here", 1)]) (g := gName 1) (tt := tYes) rfl nd (pi_seq (pv 0)) (blkOk_by (own := [("_law_part_here", 1)]) (N := N__law_deep) (sc := defScope s__law_deep) (by decide +kernel)) (fun _ _ _ _ _ => (pg_name (i := 1) nd rfl (by first | exact Or.inl rfl | exact Or.inr rfl))) (fun _ _ _ _ _ => pts_nil) (fun _ _ _ _ _ => (pe_call G__law_deep (hr.mono (by omega)) rfl T.m_law_deep k__law_deep b__law_deep .nil pass0 (pa_cons (pv 1) pa_nil)))) pa_nil)))) pss_nil)
  (pss_one (ps_ret (pv 0)))), ?_⟩
    refine ⟨_, rfl, (by show 2 ≤ sizeLine; decide), fun p0 hp0 => ?_⟩
    have s1 := same_new (o := .tup [.ty "list", .ty "tuple"]) hp0
    have hx1 := hx.mono s1
    refine ⟨_, p0, _, _, _, _, rfl, upd_same, .cons (.ty _) (.cons (.ty _) .nil), hx1.ty, kit_tups d, _, rfl, ?_⟩
    generalize upd H p0 (.tup [.ty "list", .ty "tuple"]) = H1 at s1 hx1 ⊢
    cases t : isTupD d with
    | false =>
      refine iteF ⟨_, rfl, ?_⟩
      exact q _ H1 s1 (leaf_tt hx1 t hp)
    | true =>
      refine iteT ?_
      obtain ⟨m, rfl⟩ : ∃ m, m + 1 = n := depth_pos t hn
      obtain ⟨hd, hpl, ed⟩ := tup_parts t hn hp
      obtain ⟨a, xs, rfl, hsq, hz, r⟩ := hx1.seq (K := K) t
      rw [ed] at q
      have turn : ∀ D, H1 D = none → ∀ i x H2, xs[i]? = some x → TPv H1 D (itemsD d) i H2 → sp2 [x] H2 (fun y H4 => ∃ acc, H4 D = some (.lst acc) ∧ acc.length < sizeLine ∧ TPv H1 D (itemsD d) (i + 1) (upd H4 D (.lst (acc ++ [y])))) (fun _ _ _ => False) := by
        intro D hD i x H2 hx ⟨acc, h2, la, ta, sm⟩
        obtain ⟨e, ee, te⟩ := r.get hx
        have hi : i < xs.length := (List.getElem?_eq_some_iff.mp hx).1
        refine hs m _ _ _ _ rfl ⟨x, e, rfl, te.mono sm, Nat.le_trans (depth_le ee) hd, plainAll_get hpl ee, fun v H3 s3 tv => ⟨acc, s3 _ _ h2, by omega, acc ++ [v], upd_same, by rw [List.length_append, la]; rfl, ?_, same_upd (sm.trans s3) hD⟩⟩
        have kt := KeepT.upd (o := .lst (acc ++ [v])) (s3 _ _ h2)
        rw [take_get' ee, List.map_append]
        exact ((ta.keep (KeepT.of s3)).keep kt).snoc (tv.keep kt)
      have done : ∀ D H2, TPv H1 D (itemsD d) xs.length H2 → ∃ p ys, [V.ref D] = [.ref p] ∧ ((SqL K H2 p ys ∧ ∀ l, H2 l = none → Q (.ref l) (upd H2 l (.tup ys))) ∨ (SqT K H2 p ys ∧ Q (.ref p) H2)) := by
        intro D H2 ⟨acc, h2, la, ta, sm⟩
        rw [r.len, List.take_length] at ta
        refine ⟨D, acc, rfl, .inl ⟨SqL.of h2, fun l hl => q _ _ (s1.trans (sm.trans (same_new hl))) (.tup upd_same (by omega) (ta.keep (KeepT.of (same_new hl))))⟩⟩
      refine ⟨_, rfl, a, rfl, ?_⟩
      rcases hsq with hsq | hsq
      · refine .inl ⟨⟨xs, hsq⟩, fun D hD => ?_⟩
        refine lc_list (K := K) (xs := xs) (fun i H' => TPv H1 D (itemsD d) i H') ⟨[], upd_same, rfl, .nil, same_new hD⟩ (fun i H' _ ⟨_, _, _, _, sm⟩ => L2.Same.seq sm hsq) (fun i x H2 hx p => ⟨rfl, yes_go ?_⟩) (done D)
        exact ⟨_, rfl, turn D hD i x H2 hx p⟩
      · refine .inr ⟨⟨xs, hsq⟩, fun D hD => ?_⟩
        refine lc_tup (K := K) (xs := xs) (fun i H' => TPv H1 D (itemsD d) i H') ⟨[], upd_same, rfl, .nil, same_new hD⟩ (fun i H' _ ⟨_, _, _, _, sm⟩ => Ow.Same.sqT sm hsq) (fun i x H2 hx p => ⟨rfl, yes_go ?_⟩) (done D)
        exact ⟨_, rfl, turn D hD i x H2 hx p⟩
theorem ok_ld {fd : FuncData} (F : Fun K "_law_deep" "_law_deep" s__law_deep A.f__law_deep fd) (T : Tx K mg A) (b : Binds K fd ["_law_thing"] []) :
    ∀ n, FnOk P w K mg base CX0 (n + 2) A.f__law_deep fd ["_law_thing"] (spDeep n)
  | 0 => ok_ldStep (Nat.le_refl 1) F T ⟨fd, ok_never (k := 0) F sc__law_deep, b, F.kp⟩ fun m _ _ _ _ e => absurd e (by omega)
  | n + 1 => ok_ldStep (by omega) F T ⟨fd, ok_ld F T b n, b, F.kp⟩ fun m _ _ _ _ e h => by
    obtain rfl : m = n := by omega
    exact h
abbrev N__law_store_is : List Str := ["_law_store", "_law_world_here"]
theorem sc__law_store_is : FnScope N__law_store_is ["_law_store", "_law_world_here"] (defScope s__law_store_is) := ⟨rfl, rfl, rfl, by decide +kernel, rfl, by decide +kernel, by decide +kernel⟩
theorem ok_storeis {fd : FuncData} (F : Fun K "_law_store_is" "_law_store_is" s__law_store_is A.f__law_store_is fd) (T : Tx K mg A) (SC : SCls K A)
    (KE : Kp P w K mg base CX0 5 A.f__law_exact ["_law_told", "_law_due"] (spExD 3)) (KD : Kp P w K mg base CX0 5 A.f__law_deep ["_law_thing"] (spDeep 3)) : FnOk P w K mg base CX0 6 A.f__law_store_is fd ["_law_store", "_law_world_here"] (spStoreIs A.c_Store) := by
  obtain ⟨fd1, G__law_exact, b__law_exact, k__law_exact⟩ := KE
  obtain ⟨fd2, G__law_deep, b__law_deep, k__law_deep⟩ := KD
  have nd := sc__law_store_is.nd
  refine F.ok sc__law_store_is (fun vs H Q E h => ?_) (fun cdv A' outer s H vs Q E hr h => ?_)
  · obtain ⟨g, x, n, z, b, e, c, rfl, _⟩ := h
    rfl
  · obtain ⟨g, x, n, z, b, e, c, rfl, ⟨dx, w1, w2, w3, hg, t1, t2, t3⟩, hx, gw, q⟩ := h
    refine ⟨_, (pss_cons (ps_if (PW.pt (pw_or (pt_not (pt_val (pe_call G__law_exact (hr.mono (by omega)) rfl T.m_law_exact k__law_exact b__law_exact .nil pass0 (pa_cons (pe_fld (pv 0) (by rfl)) (pa_cons (pe_ix ix_list (pv 1) pe_int (fun _ _ => rfl)) pa_nil))))) (pw_or1 (pt_not (pt_val (pe_call G__law_exact (hr.mono (by omega)) rfl T.m_law_exact k__law_exact b__law_exact .nil pass0 (pa_cons (pe_fld (pv 0) (by rfl)) (pa_cons (pe_call G__law_deep (hr.mono (by omega)) rfl T.m_law_deep k__law_deep b__law_deep .nil pass0 (pa_cons (pe_ix ix_list (pv 1) pe_int (fun _ _ => rfl)) pa_nil)) pa_nil)))))))) (pss_one (ps_ret pe_bl)) pss_nil)
  (pss_one (ps_ret (pe_and (pe_call G__law_exact (hr.mono (by omega)) rfl T.m_law_exact k__law_exact b__law_exact .nil pass0 (pa_cons (pe_fld (pv 0) (by rfl)) (pa_cons (pe_call G__law_deep (hr.mono (by omega)) rfl T.m_law_deep k__law_deep b__law_deep .nil pass0 (pa_cons (pe_ix ix_list (pv 1) pe_int (fun _ _ => rfl)) pa_nil)) pa_nil))) (pe_one (pe_call G__law_exact (hr.mono (by omega)) rfl T.m_law_exact k__law_exact b__law_exact .nil pass0 (pa_cons (pe_fld (pv 0) (by rfl)) (pa_cons (pe_call G__law_deep (hr.mono (by omega)) rfl T.m_law_deep k__law_deep b__law_deep .nil pass0 (pa_cons (pe_ix ix_list (pv 1) pe_int (fun _ _ => rfl)) pa_nil)) pa_nil)))))))), ?_⟩
    obtain ⟨lw, vb, vc, ve, rfl, hw, zl, tb, tc, te⟩ := hx.wd
    refine ⟨_, rfl, g, A.c_Store, dx, _, _, rfl, hg, SC.cls, SC.nAsks, rfl, _, rfl, lw, _, 0, .str z, rfl, rfl, SqL.of hw, atI_nat (j := 0) rfl, .str z, .str z, .str z, rfl, .str z, .str z, (by rw [PyData.depth]; decide), fun H1 s1 => ⟨_, rfl, iteF ?_⟩⟩
    refine ⟨_, rfl, g, A.c_Store, dx, _, _, rfl, s1 _ _ hg, SC.cls, SC.nBeg, rfl, _, rfl, lw, _, 1, vb, rfl, rfl, SqL.of (s1 _ _ hw), atI_nat (j := 1) rfl, vb, IL b, rfl, tb.mono s1, Nat.le_trans (dep_IL b) (by decide), pl_IL b, fun v2 H2 s2 u2 => ?_⟩
    rw [deep_IL] at u2
    have s12 := s1.trans s2
    refine ⟨w1, v2, IT b, rfl, (t1.keep (KeepT.of s12)).dt, u2.dt, Nat.le_trans (dep_IT b) (by decide), fun H3 s3 => ⟨_, rfl, iteF ?_⟩⟩
    have s13 := s12.trans s3
    refine ⟨_, rfl, g, A.c_Store, dx, _, _, rfl, s13 _ _ hg, SC.cls, SC.nCost, rfl, _, rfl, lw, _, 2, vc, rfl, rfl, SqL.of (s13 _ _ hw), atI_nat (j := 2) rfl, vc, CL c, rfl, tc.mono s13, dep_CL c, pl_CL c, fun v4 H4 s4 u4 => ?_⟩
    rw [deep_CL] at u4
    have s14 := s13.trans s4
    refine ⟨w2, v4, CTt c, rfl, (t2.keep (KeepT.of s14)).dt, u4.dt, dep_CTt c, fun H5 s5 => ⟨_, rfl, iteT ?_⟩⟩
    have s15 := s14.trans s5
    refine ⟨_, rfl, g, A.c_Store, dx, _, _, rfl, s15 _ _ hg, SC.cls, SC.nEnds, rfl, _, rfl, lw, _, 3, ve, rfl, rfl, SqL.of (s15 _ _ hw), atI_nat (j := 3) rfl, ve, IL e, rfl, te.mono s15, Nat.le_trans (dep_IL e) (by decide), pl_IL e, fun v6 H6 s6 u6 => ?_⟩
    rw [deep_IL] at u6
    have s16 := s15.trans s6
    exact ⟨w3, v6, IT e, rfl, (t3.keep (KeepT.of s16)).dt, u6.dt, Nat.le_trans (dep_IT e) (by decide), fun H7 s7 => q H7 (s16.trans s7)⟩
end
end As

namespace As
open PySem PySem.Spec PyProof.Rows L2 Ow
/-- what the written part says of the errors' classes -/
structure Ex (K : PySem.W.Frag) (mg : Str → Option Value) (A : Ad) : Prop where
  LA : PySem.LowX.LowTxt K mg "BadAsks" A.c_BadAsks A.f_WrongThing_init
  LK : PySem.LowX.LowTxt K mg "BadAsk" A.c_BadAsk A.f_WrongThing_init
  LS : PySem.LowX.LowTxt K mg "BadState" A.c_BadState A.f_WrongThing_init
  LB : PySem.LowP.LowTxt K mg "BadStore" A.c_BadStore A.f_BadStore_init
  eA : ExcC K A.c_BadAsks
  eK : ExcC K A.c_BadAsk
  eS : ExcC K A.c_BadState
  eB : ExcC K A.c_BadStore
  kAT : PySem.W.kitOne K (.ref A.c_BadAsks) (.ref A.c_WrongThing) = some true
  kAI : PySem.W.kitOne K (.ref A.c_BadAsks) (.ref A.c_WrongItem) = some false
  kAB : PySem.W.kitOne K (.ref A.c_BadAsks) (.ref A.c_BadStore) = some false
  kBB : PySem.W.kitOne K (.ref A.c_BadStore) (.ref A.c_BadStore) = some true
  kBT : PySem.W.kitOne K (.ref A.c_BadStore) (.ref A.c_WrongThing) = some false
  kBV : PySem.W.kitOne K (.ref A.c_BadStore) (.type "ValueError") = some true
  kKT : PySem.W.kitOne K (.ref A.c_BadAsk) (.ref A.c_WrongThing) = some true
  kKS : PySem.W.kitOne K (.ref A.c_BadAsk) (.ref A.c_BadState) = some false
  kSS : PySem.W.kitOne K (.ref A.c_BadState) (.ref A.c_BadState) = some true
  kST : PySem.W.kitOne K (.ref A.c_BadState) (.ref A.c_WrongThing) = some true
  xAA : PySem.W.exmOne K (.ref A.c_BadAsks) (.ref A.c_BadAsks) = some true
  xBA : PySem.W.exmOne K (.ref A.c_BadStore) (.ref A.c_BadAsks) = some false
  xBF : PySem.W.exmOne K (.ref A.c_BadStore) (.ref A.c_AfterError) = some true
  xKK : PySem.W.exmOne K (.ref A.c_BadAsk) (.ref A.c_BadAsk) = some true
  xSK : PySem.W.exmOne K (.ref A.c_BadState) (.ref A.c_BadAsk) = some false
  xSF : PySem.W.exmOne K (.ref A.c_BadState) (.ref A.c_AfterError) = some true
section
variable {P : Program} {w : World} {K : PySem.W.Frag} {mg : Str → Option Value} {base : Heap} {A : Ad}
abbrev N__law_part : List Str := ["_law_asks_here", "_law_begins", "_law_costs", "_law_ends", "error"]
theorem sc__law_part : FnScope N__law_part ["_law_asks_here", "_law_begins", "_law_costs", "_law_ends"] (defScope s__law_part) := ⟨rfl, rfl, rfl, by decide +kernel, rfl, by decide +kernel, by decide +kernel⟩
def spPart (K : PySem.W.Frag) (g : List Code) : Sp := fun vs H Q _ => ∃ (x b c e : V) (db dc de : PyData), vs = [x, b, c, e] ∧ Known K H x ∧ Th H b db ∧ Th H c dc ∧ Th H e de ∧
  ((∃ f, asksV x = false ∧ RepI2 H x f ∧ ∀ H', Same H H' → Q (.str "asks") H') ∨
    ∃ z, x = .str z ∧ asksV x = true ∧
      ((¬ begOk db ∧ ∀ H', Same H H' → Q (.str "begins") H') ∨ (begOk db ∧ tablesD dc z.length (itemsD db).length = false ∧ ∀ H', Same H H' → Q (.str "costs") H') ∨
        (begOk db ∧ tablesD dc z.length (itemsD db).length = true ∧ intsD de (itemsD db).length = false ∧ ∀ H', Same H H' → Q (.str "ends") H')))
theorem ok_part {fd : FuncData} {g : List Code} (F : Fun K "_law_part" "_law_part" s__law_part A.f__law_part fd) (T : Tx K mg A) (X : Ex K mg A) (SC : SCls K A) (KG : Kp P w K mg base (L2.CX P w) 6 A.f_Store_init ["self", "asks", "begins", "costs", "ends"] (spSInit K A.c_Store A.c_BadAsks A.c_BadStore)) :
    FnG P w K mg base 8 A.f__law_part fd ["_law_asks_here", "_law_begins", "_law_costs", "_law_ends"] (spPart K g) g := by
  obtain ⟨fdG, G_Store_init, b_Store_init, k_Store_init⟩ := KG
  have LA := X.LA
  have LB := X.LB
  have nd := sc__law_part.nd
  refine okG F sc__law_part (fun vs H Q E h => ?_) (fun cdv A' outer s H vs Q E hgd hr h => ?_)
  · obtain ⟨x, b, c, e, db, dc, de, rfl, _⟩ := h
    rfl
  · obtain ⟨x, b, c, e, db, dc, de, rfl, kx, hb, hc, he, h⟩ := h
    refine ⟨_, (pss_cons (ps_try_clauses (i := 4) rfl rfl nd rfl rfl takes0 (fun W pn xe tk _ => (pss_one (ps_expr (pe_makeS SC.mkr G_Store_init (hr.mono (by omega)) (by rfl) T.mStore b_Store_init (fun σ => passAt tk σ) (pa_cons (pv 0) (pa_cons (pv 1) (pa_cons (pv 2) (pa_cons (pv 3) pa_nil))))))))
 (.cons ⟨rfl, by decide, Or.inl T.mBadAsks⟩ (fun a oe cls d pn hz hf => (pss_cons (ps_if (PW.pt (pw_or (pt_not (pt_val (pe_callB (call_isT hz hf) (by rfl) T.nisinstance (by decide +kernel) (pa_cons (pv 4) (pa_cons (pe_glob (v := .ref A.c_WrongThing) rfl T.mWrongThing rfl) pa_nil))))) (pw_or (pt_val (pe_callB (call_isT hz hf) (by rfl) T.nisinstance (by decide +kernel) (pa_cons (pv 4) (pa_cons (pe_glob (v := .ref A.c_WrongItem) rfl T.mWrongItem rfl) pa_nil)))) (pw_or1 (pt_val (pe_callB (call_isT hz hf) (by rfl) T.nisinstance (by decide +kernel) (pa_cons (pv 4) (pa_cons (pe_glob (v := .ref A.c_BadStore) rfl T.mBadStore rfl) pa_nil)))))))) (pss_one (ps_ret pe_str)) pss_nil)
  (pss_cons (ps_if (pt_cmpR op_ne (pe_callB (call_rep2 hgd hr.units) (by rfl) T.nrepr (by decide +kernel) (pa_cons (pe_thing LA hz hf (pv 4)) pa_nil)) (pe_callB (call_rep2 hgd hr.units) (by rfl) T.nrepr (by decide +kernel) (pa_cons (pv 0) pa_nil)) (nomark _)) (pss_one (ps_ret pe_str)) pss_nil)
  (pss_one (ps_ret pe_str)))))
 (.cons ⟨rfl, by decide, Or.inl T.mAfterError⟩ (fun a oe cls d pn hz hf => (pss_cons (ps_if (PW.pt (pw_or (pt_not (pt_val (pe_callB (call_isT hz hf) (by rfl) T.nisinstance (by decide +kernel) (pa_cons (pv 4) (pa_cons (pe_glob (v := .ref A.c_BadStore) rfl T.mBadStore rfl) pa_nil))))) (pw_or (pt_val (pe_callB (call_isT hz hf) (by rfl) T.nisinstance (by decide +kernel) (pa_cons (pv 4) (pa_cons (pe_glob (v := .ref A.c_WrongThing) rfl T.mWrongThing rfl) pa_nil)))) (pw_or1 (pt_not (pt_val (pe_callB (call_isT hz hf) (by rfl) T.nisinstance (by decide +kernel) (pa_cons (pv 4) (pa_cons (pe_bltn (v := .ty "ValueError") (by rfl) T.nValueError (by decide +kernel) rfl) pa_nil))))))))) (pss_one (ps_ret pe_str)) pss_nil)
  (pss_one (ps_ret (pe_thingP LB hz hf (pv 4))))))
 .nil)))
  (pss_one (ps_ret pe_str))), ?_⟩
    refine ⟨_, rfl, _, rfl, _, rfl, _, rfl, fun u dx hu hdx ne => ?_⟩
    have s0 : Same H (upd (upd H dx (.own u)) u (.ins A.c_Store dx [])) := fun b o hb => by
      rw [upd_ne (ne_of_none hb hu), upd_ne (ne_of_none hb hdx)]
      exact hb
    have part : ∀ (t : Str) (dd : Addr) (H1 : Hp), Same H H1 → H1 dd = some (.xd [(("part" : Str), .str t)]) → (∀ H', Same H H' → Q (.str t) H') → True := fun _ _ _ _ _ _ => trivial
    refine ⟨u, dx, x, b, c, e, db, dc, de, rfl, upd_same, kx.mono s0, hb.mono s0, hc.mono s0, he.mono s0, fun no dd H1 s1 h1 => ?_, fun z ez yes => ?_⟩
    · rcases h with ⟨f, _, rp, q⟩ | ⟨a, rfl, yes, _⟩
      · refine ⟨true, X.xAA, fun _ a0 _ => ?_, fun z => nomatch z⟩
        refine ⟨_, rfl, A.c_BadAsks, dd, _, _, _, true, rfl, rfl, h1, X.eA, rfl, fun u z => z, X.kAT, _, rfl, iteF ?_⟩
        refine ⟨_, rfl, A.c_BadAsks, dd, _, _, _, false, rfl, rfl, h1, X.eA, rfl, fun u z => z, X.kAI, _, rfl, iteF ?_⟩
        refine ⟨_, rfl, A.c_BadAsks, dd, _, _, _, false, rfl, rfl, h1, X.eA, rfl, fun u z => z, X.kAB, _, rfl, iteF ?_⟩
        refine ⟨_, rfl, rfl, rfl, dd, x, rfl, h1, x, f, rfl, rp.mono (s0.trans s1), _, rfl, x, f, rfl, rp.mono (s0.trans s1), ?_⟩
        exact ⟨rfl, _, rfl, iteNS rfl (q _ (s0.trans s1))⟩
      · rw [no] at yes
        cases yes
    · rcases h with ⟨f, no, _⟩ | ⟨a, rfl, _, h⟩
      · rw [no] at yes
        cases yes
      · cases ez
        rcases h with ⟨nb, q⟩ | ⟨b1, nt, q⟩ | ⟨b1, t1, ni, q⟩
        · refine ⟨fun _ => (fun dd H1 s1 h1 => by
            refine ⟨false, X.xBA, fun z => (nomatch z), fun _ => ⟨true, X.xBF, fun _ a0 _ => ?_, fun z => nomatch z⟩⟩
            refine ⟨_, rfl, A.c_BadStore, dd, _, _, _, true, rfl, rfl, h1, X.eB, rfl, fun u z => z, X.kBB, _, rfl, iteF ?_⟩
            refine ⟨_, rfl, A.c_BadStore, dd, _, _, _, false, rfl, rfl, h1, X.eB, rfl, fun u z => z, X.kBT, _, rfl, iteF ?_⟩
            refine ⟨_, rfl, A.c_BadStore, dd, _, _, _, true, rfl, rfl, h1, X.eB, rfl, fun u z => z, X.kBV, _, rfl, iteF ?_⟩
            exact ⟨_, rfl, rfl, rfl, dd, _, rfl, h1, q _ (s0.trans s1)⟩), fun b1 => absurd b1 nb⟩
        · refine ⟨fun nb => absurd b1 nb, fun _ => ⟨fun _ => (fun dd H1 s1 h1 => by
            refine ⟨false, X.xBA, fun z => (nomatch z), fun _ => ⟨true, X.xBF, fun _ a0 _ => ?_, fun z => nomatch z⟩⟩
            refine ⟨_, rfl, A.c_BadStore, dd, _, _, _, true, rfl, rfl, h1, X.eB, rfl, fun u z => z, X.kBB, _, rfl, iteF ?_⟩
            refine ⟨_, rfl, A.c_BadStore, dd, _, _, _, false, rfl, rfl, h1, X.eB, rfl, fun u z => z, X.kBT, _, rfl, iteF ?_⟩
            refine ⟨_, rfl, A.c_BadStore, dd, _, _, _, true, rfl, rfl, h1, X.eB, rfl, fun u z => z, X.kBV, _, rfl, iteF ?_⟩
            exact ⟨_, rfl, rfl, rfl, dd, _, rfl, h1, q _ (s0.trans s1)⟩), fun t1 => by rw [nt] at t1; cases t1⟩⟩
        · refine ⟨fun nb => absurd b1 nb, fun _ => ⟨fun nt => (by rw [t1] at nt; cases nt), fun _ => ⟨fun _ => (fun dd H1 s1 h1 => by
            refine ⟨false, X.xBA, fun z => (nomatch z), fun _ => ⟨true, X.xBF, fun _ a0 _ => ?_, fun z => nomatch z⟩⟩
            refine ⟨_, rfl, A.c_BadStore, dd, _, _, _, true, rfl, rfl, h1, X.eB, rfl, fun u z => z, X.kBB, _, rfl, iteF ?_⟩
            refine ⟨_, rfl, A.c_BadStore, dd, _, _, _, false, rfl, rfl, h1, X.eB, rfl, fun u z => z, X.kBT, _, rfl, iteF ?_⟩
            refine ⟨_, rfl, A.c_BadStore, dd, _, _, _, true, rfl, rfl, h1, X.eB, rfl, fun u z => z, X.kBV, _, rfl, iteF ?_⟩
            exact ⟨_, rfl, rfl, rfl, dd, _, rfl, h1, q _ (s0.trans s1)⟩), fun i1 => by rw [ni] at i1; cases i1⟩⟩⟩
abbrev N__law_price_error : List Str := ["_law_store", "_law_ask", "_law_one", "_law_other_here", "error"]
theorem sc__law_price_error : FnScope N__law_price_error ["_law_store", "_law_ask", "_law_one", "_law_other_here"] (defScope s__law_price_error) := ⟨rfl, rfl, rfl, by decide +kernel, rfl, by decide +kernel, by decide +kernel⟩
def spPriceE (K : PySem.W.Frag) (C : Addr) (g : List Code) : Sp := fun vs H Q _ => ∃ (gs : Addr) (x y1 y2 : V) (d1 d2 : PyData) (z : Str) (b e : List Int) (c : List (List (List Int))) (f : List Code → Str), vs = [.ref gs, x, y1, y2] ∧ IsS C H gs z b c e ∧ Known K H x ∧ Th H y1 d1 ∧ Th H y2 d2 ∧ (f g).length ≤ 100000 ∧
  ((askB z x = false ∧ RepI2 H x f ∧ ∀ H', Same H H' → Q (.str (Str.ofString "ask " ++ f g)) H') ∨
    (askB z x = true ∧ belowD b.length d1 = false ∧ RepI2 H y1 f ∧ ∀ H', Same H H' → Q (.str (Str.ofString "state " ++ f g)) H') ∨
    (askB z x = true ∧ belowD b.length d1 = true ∧ belowD b.length d2 = false ∧ RepI2 H y2 f ∧ ∀ H', Same H H' → Q (.str (Str.ofString "state " ++ f g)) H'))
theorem ok_pricee {fd : FuncData} {g : List Code} (F : Fun K "_law_price_error" "_law_price_error" s__law_price_error A.f__law_price_error fd) (T : Tx K mg A) (X : Ex K mg A) (SC : SCls K A) (KG : Kp P w K mg base (L2.CX P w) 4 A.f_Store_price ["self", "ask", "one", "other"] (spPrice K A.c_Store A.c_BadAsk A.c_BadState)) :
    FnG P w K mg base 6 A.f__law_price_error fd ["_law_store", "_law_ask", "_law_one", "_law_other_here"] (spPriceE K A.c_Store g) g := by
  obtain ⟨fdG, G_Store_price, b_Store_price, k_Store_price⟩ := KG
  have LK := X.LK
  have LS := X.LS
  have nd := sc__law_price_error.nd
  refine okG F sc__law_price_error (fun vs H Q E h => ?_) (fun cdv A' outer s H vs Q E hgd hr h => ?_)
  · obtain ⟨gs, x, y1, y2, d1, d2, z, b, e, c, f, rfl, _⟩ := h
    rfl
  · obtain ⟨gs, x, y1, y2, d1, d2, z, b, e, c, f, rfl, is, kx, h1, h2, lf, h⟩ := h
    refine ⟨_, (pss_cons (ps_try_clauses (i := 4) rfl rfl nd rfl rfl takes0 (fun W pn xe tk _ => (pss_one (ps_expr (pe_methX (pv 0) SC.cls SC.mPrice G_Store_price (hr.mono (by omega)) b_Store_price (fun σ => passAt tk σ) (pa_cons (pv 1) (pa_cons (pv 2) (pa_cons (pv 3) pa_nil)))))))
 (.cons ⟨rfl, by decide, Or.inl T.mBadAsk⟩ (fun a oe cls d pn hz hf => (pss_cons (ps_if (PW.pt (pw_or (pt_not (pt_val (pe_callB (call_isT hz hf) (by rfl) T.nisinstance (by decide +kernel) (pa_cons (pv 4) (pa_cons (pe_glob (v := .ref A.c_WrongThing) rfl T.mWrongThing rfl) pa_nil))))) (pw_or1 (pt_val (pe_callB (call_isT hz hf) (by rfl) T.nisinstance (by decide +kernel) (pa_cons (pv 4) (pa_cons (pe_glob (v := .ref A.c_BadState) rfl T.mBadState rfl) pa_nil))))))) (pss_one (ps_ret pe_str)) pss_nil)
  (pss_one (ps_ret (pe_op op_add_str pe_str (pe_callB (call_rep2 hgd hr.units) (by rfl) T.nrepr (by decide +kernel) (pa_cons (pe_thing LK hz hf (pv 4)) pa_nil)))))))
 (.cons ⟨rfl, by decide, Or.inl T.mAfterError⟩ (fun a oe cls d pn hz hf => (pss_cons (ps_if (PW.pt (pw_or (pt_not (pt_val (pe_callB (call_isT hz hf) (by rfl) T.nisinstance (by decide +kernel) (pa_cons (pv 4) (pa_cons (pe_glob (v := .ref A.c_BadState) rfl T.mBadState rfl) pa_nil))))) (pw_or1 (pt_not (pt_val (pe_callB (call_isT hz hf) (by rfl) T.nisinstance (by decide +kernel) (pa_cons (pv 4) (pa_cons (pe_glob (v := .ref A.c_WrongThing) rfl T.mWrongThing rfl) pa_nil)))))))) (pss_one (ps_ret pe_str)) pss_nil)
  (pss_one (ps_ret (pe_op op_add_str pe_str (pe_callB (call_rep2 hgd hr.units) (by rfl) T.nrepr (by decide +kernel) (pa_cons (pe_thing LS hz hf (pv 4)) pa_nil)))))))
 .nil)))
  (pss_one (ps_ret pe_str))), ?_⟩
    have lf6 : (6 : Nat) + (f g).length ≤ sizeLine := Nat.le_trans (show 6 + (f g).length ≤ 100006 by omega) (by decide)
    have lf4 : (4 : Nat) + (f g).length ≤ sizeLine := Nat.le_trans (show 4 + (f g).length ≤ 100006 by omega) (by decide)
    obtain ⟨dx, vb, vc, ve, hg, tb, tc, te⟩ := is
    have is : IsS A.c_Store H gs z b c e := ⟨dx, vb, vc, ve, hg, tb, tc, te⟩
    refine ⟨_, rfl, gs, dx, _, rfl, hg, rfl, _, rfl, _, rfl, _, rfl, gs, x, y1, y2, d1, d2, z, b, e, c, rfl, is, kx, h1, h2, fun no dd H1 s1 e1 => ?_, fun ya => ⟨fun n1 dd H1 s1 e1 => ?_, fun g1 => ⟨fun n2 dd H1 s1 e1 => ?_, fun g2 => ?_⟩⟩⟩
    · rcases h with ⟨_, rp, q⟩ | ⟨ya, _⟩ | ⟨ya, _⟩
      · refine ⟨true, X.xKK, fun _ a0 _ => ?_, fun z => nomatch z⟩
        refine ⟨_, rfl, A.c_BadAsk, dd, _, _, _, true, rfl, rfl, e1, X.eK, rfl, fun u z => z, X.kKT, _, rfl, iteF ?_⟩
        refine ⟨_, rfl, A.c_BadAsk, dd, _, _, _, false, rfl, rfl, e1, X.eK, rfl, fun u z => z, X.kKS, _, rfl, iteF ?_⟩
        exact ⟨_, rfl, rfl, rfl, dd, x, rfl, e1, x, f, rfl, rp.mono s1, _, _, rfl, rfl, lf4, q _ s1⟩
      · rw [no] at ya
        cases ya
      · rw [no] at ya
        cases ya
    · rcases h with ⟨no, _⟩ | ⟨_, _, rp, q⟩ | ⟨_, g1, _⟩
      · rw [no] at ya
        cases ya
      · refine ⟨false, X.xSK, fun z => (nomatch z), fun _ => ⟨true, X.xSF, fun _ a0 _ => ?_, fun z => nomatch z⟩⟩
        refine ⟨_, rfl, A.c_BadState, dd, _, _, _, true, rfl, rfl, e1, X.eS, rfl, fun u z => z, X.kSS, _, rfl, iteF ?_⟩
        refine ⟨_, rfl, A.c_BadState, dd, _, _, _, true, rfl, rfl, e1, X.eS, rfl, fun u z => z, X.kST, _, rfl, iteF ?_⟩
        exact ⟨_, rfl, rfl, rfl, dd, y1, rfl, e1, y1, f, rfl, rp.mono s1, _, _, rfl, rfl, lf6, q _ s1⟩
      · rw [n1] at g1
        cases g1
    · rcases h with ⟨no, _⟩ | ⟨_, n1, _⟩ | ⟨_, _, _, rp, q⟩
      · rw [no] at ya
        cases ya
      · rw [n1] at g1
        cases g1
      · refine ⟨false, X.xSK, fun z => (nomatch z), fun _ => ⟨true, X.xSF, fun _ a0 _ => ?_, fun z => nomatch z⟩⟩
        refine ⟨_, rfl, A.c_BadState, dd, _, _, _, true, rfl, rfl, e1, X.eS, rfl, fun u z => z, X.kSS, _, rfl, iteF ?_⟩
        refine ⟨_, rfl, A.c_BadState, dd, _, _, _, true, rfl, rfl, e1, X.eS, rfl, fun u z => z, X.kST, _, rfl, iteF ?_⟩
        exact ⟨_, rfl, rfl, rfl, dd, y2, rfl, e1, y2, f, rfl, rp.mono s1, _, _, rfl, rfl, lf6, q _ s1⟩
    · rcases h with ⟨no, _⟩ | ⟨_, n1, _⟩ | ⟨_, _, n2, _⟩
      · rw [no] at ya
        cases ya
      · rw [n1] at g1
        cases g1
      · rw [n2] at g2
        cases g2
end
end As

namespace Ow
open PySem PySem.Spec PyProof.Rows L2
/-! ## expressions that make data -/
/-- what G has, and what is new since H1 -/
def un (G H1 H2 : Hp) : Hp := fun b => match H1 b with
  | none => H2 b
  | some _ => G b
theorem un_new {G H1 H2 : Hp} {b : Addr} (h : H1 b = none) : un G H1 H2 b = H2 b := by unfold un; rw [h]
theorem un_old {G H1 H2 : Hp} {b : Addr} {o : HO} (h : H1 b = some o) : un G H1 H2 b = G b := by unfold un; rw [h]
theorem un_top {G H1 H2 : Hp} (s : Same G H1) (s2 : Same H1 H2) : Same (un G H1 H2) H2 := fun b o h => by
  cases e : H1 b with
  | none => rw [un_new e] at h; exact h
  | some u => rw [un_old e] at h; exact s2 _ _ (s _ _ h)
theorem un_mono {G H1 H2 H3 : Hp} (s : Same H2 H3) : Same (un G H1 H2) (un G H1 H3) := fun b o h => by
  cases e : H1 b with
  | none => rw [un_new e] at h ⊢; exact s _ _ h
  | some u => rw [un_old e] at h ⊢; exact h
theorem un_G {G H1 H2 : Hp} (s : Same G H1) : Same G (un G H1 H2) := fun b o h => by
  rw [un_old (s b o h)]
  exact h
theorem un_from {G H1 H2 H3 : Hp} (s : Same G H1) (s2 : Same H1 H2) : Same (un G H2 H3) (un G H1 H3) := fun b o h => by
  cases e : H1 b with
  | none =>
    rw [un_new e]
    cases e2 : H2 b with
    | none => rw [un_new e2] at h; exact h
    | some u =>
      rw [un_old e2] at h
      rw [s _ _ h] at e
      cases e
  | some u =>
    rw [un_old (s2 _ _ e)] at h
    rw [un_old e]
    exact h
def Gv (te : TE) (σ : L2.St) (G : Hp) (d : PyData) : Prop := ∀ H1 Q, Same G H1 → (∀ v H2, Same H1 H2 → Th (un G H1 H2) v d → Q v H2) → te σ H1 Q
def GvA (ta : TA) (σ : L2.St) (G : Hp) (ds : List PyData) : Prop := ∀ H1 Q, Same G H1 → (∀ vs H2, Same H1 H2 → ThAll (un G H1 H2) vs ds → Q vs H2) → ta σ H1 Q
theorem th_app {H : Hp} : ∀ {xs ys : List V} {ds es : List PyData}, ThAll H xs ds → ThAll H ys es → ThAll H (xs ++ ys) (ds ++ es)
  | _, _, _, _, .nil, b => b
  | _, _, _, _, .cons h r, b => .cons h (th_app r b)
theorem th_drop {H : Hp} : ∀ {xs : List V} {ds : List PyData} (k : Nat), ThAll H xs ds → ThAll H (xs.drop k) (ds.drop k)
  | _, _, 0, h => h
  | _, _, _ + 1, .nil => .nil
  | _, _, k + 1, .cons h r => th_drop k r
theorem small_sz {n : Nat} (h : n ≤ 2000) : n ≤ sizeLine := Nat.le_trans h (by decide)
theorem cut_from1 (xs : List V) : cutV xs (some 1) none = xs.drop 1 := by
  unfold cutV
  have e : HT.sIx xs.length 0 (some 1) = min 1 xs.length := HT.sIx_nat _ _ 1
  rw [e, HT.sIx_none]
  cases xs with
  | nil => rfl
  | cons x r =>
    have e1 : min 1 (x :: r).length = 1 := by rw [List.length_cons]; omega
    rw [e1]
    show List.take ((x :: r).length - 1) r = r
    rw [List.length_cons, Nat.add_sub_cancel, List.take_length]
section
variable {K : PySem.W.Frag} {σ : L2.St} {G : Hp} {te te2 : TE} {ta : TA} {d : PyData} {ds es : List PyData}
theorem gva_nil : GvA tNil σ G [] := fun H1 Q s q => q [] H1 (Same.refl H1) .nil
theorem gva_cons (a : Gv te σ G d) (b : GvA ta σ G ds) : GvA (tCons te ta) σ G (d :: ds) := fun H1 Q s q => a H1 _ s fun v H2 s2 t => b H2 _ (s.trans s2) fun vs H3 s3 ts => q (v :: vs) H3 (s2.trans s3) (.cons (t.mono (un_mono s3)) (ts.mono (un_from s s2)))
theorem gv_lst (a : GvA ta σ G ds) (z : ds.length ≤ 2000) : Gv (tLst ta) σ G (.list ds) := fun H1 Q s q => a H1 _ s fun vs H2 s2 ts => ⟨by rw [ts.len]; exact small_sz z, fun l hl => q _ _ (s2.trans (same_new hl)) (.lst (by rw [un_new (s2.free hl), upd_same]) (by rw [ts.len]; exact small_sz z) (ts.mono (un_mono (same_new hl))))⟩
theorem gv_c {v : V} (h : ∀ H, Th H v d) : Gv (tC v) σ G d := fun H1 Q s q => q v H1 (Same.refl H1) (h _)
theorem gv_var {i : Nat} {x : V} (hs : σ[i]? = some (some x)) (h : Th G x d) : Gv (tVar i) σ G d := fun H1 Q s q => ⟨x, hs, q x H1 (Same.refl H1) (h.mono (un_G s))⟩
theorem gv_dict : Gv tDNewK σ G (.dict []) := fun H1 Q s q => fun p hp => q _ _ (same_new hp) (.dct (by rw [un_new hp, upd_same]))
theorem gv_cat (a : Gv te σ G (.list ds)) (b : Gv te2 σ G (.list es)) (z : ds.length + es.length ≤ 2000) : Gv (tOp rCat te te2) σ G (.list (ds ++ es)) := fun H1 Q s q => a H1 _ s fun v H2 s2 t => b H2 _ (s.trans s2) fun v2 H3 s3 t2 => by
  obtain ⟨l, xs, rfl, hl, r⟩ := Th.lstOf t
  obtain ⟨l2, ys, rfl, hl2, r2⟩ := Th.lstOf t2
  have z2 : xs.length + ys.length ≤ sizeLine := by rw [r.len, r2.len]; exact small_sz z
  refine ⟨l, l2, xs, ys, rfl, rfl, s3 _ _ (un_top s s2 _ _ hl), un_top (s.trans s2) s3 _ _ hl2, z2, fun p hp => q _ _ (s2.trans (s3.trans (same_new hp))) (.lst (by rw [un_new (s2.free (s3.free hp)), upd_same]) (by rw [List.length_append]; exact z2) ?_)⟩
  exact th_app (r.mono (un_mono (s3.trans (same_new hp)))) ((r2.mono (un_from s s2)).mono (un_mono (same_new hp)))
theorem gv_list (a : Gv te σ G (.list ds)) (z : ds.length ≤ 2000) : Gv (tCB (rLsOf K) (tCons te tNil)) σ G (.list ds) := fun H1 Q s q => a H1 _ s fun v H2 s2 t => by
  obtain ⟨l, xs, rfl, hl, r⟩ := Th.lstOf t
  exact ⟨l, xs, rfl, .inl (SqL.of (un_top s s2 _ _ hl)), fun p hp => q _ _ (s2.trans (same_new hp)) (.lst (by rw [un_new (s2.free hp), upd_same]) (by rw [r.len]; exact small_sz z) (r.mono (un_mono (same_new hp))))⟩
theorem gv_cut (a : Gv te σ G (.list ds)) (z : ds.length ≤ 2000) : Gv (tSl (rSlL K) te tNoPart (tPart (tUn (rU fun i => V.int (-i)) (tC (V.int 1))))) σ G (.list (ds.take (ds.length - 1))) := fun H1 Q s q => a H1 _ s fun v H2 s2 t => by
  obtain ⟨l, xs, rfl, hl, r⟩ := Th.lstOf t
  refine ⟨1, rfl, -1, rfl, l, xs, rfl, SqL.of (un_top s s2 _ _ hl), fun p hp => ?_⟩
  rw [cut_last, r.len]
  exact q _ _ (s2.trans (same_new hp)) (.lst (by rw [un_new (s2.free hp), upd_same]) (by rw [List.length_take]; exact Nat.le_trans (Nat.min_le_right _ _) (by rw [r.len]; exact small_sz z)) ((r.take _).mono (un_mono (same_new hp))))
theorem gv_from1 (a : Gv te σ G (.list ds)) (z : ds.length ≤ 2000) : Gv (tSl (rSlL K) te (tPart (tC (V.int 1))) tNoPart) σ G (.list (ds.drop 1)) := fun H1 Q s q => a H1 _ s fun v H2 s2 t => by
  obtain ⟨l, xs, rfl, hl, r⟩ := Th.lstOf t
  refine ⟨1, rfl, l, xs, rfl, SqL.of (un_top s s2 _ _ hl), fun p hp => ?_⟩
  rw [cut_from1]
  exact q _ _ (s2.trans (same_new hp)) (.lst (by rw [un_new (s2.free hp), upd_same]) (by rw [List.length_drop, r.len]; exact Nat.le_trans (Nat.sub_le _ _) (small_sz z)) ((th_drop 1 r).mono (un_mono (same_new hp))))
theorem gv_at {k : Nat} (a : Gv te σ G (.list ds)) (e : ds[k]? = some d) : Gv (tOp (rIxL K) te (tC (V.int (k : Int)))) σ G d := fun H1 Q s q => a H1 _ s fun v H2 s2 t => by
  obtain ⟨l, xs, rfl, hl, r⟩ := Th.lstOf t
  obtain ⟨y, ey, ty⟩ := r.got e
  exact ⟨l, xs, _, y, rfl, rfl, SqL.of (un_top s s2 _ _ hl), atI_nat ey, q _ _ s2 ty⟩
theorem gv_last {k : Nat} (a : Gv te σ G (.list ds)) (hk : k + 1 = ds.length) (e : ds[k]? = some d) : Gv (tOp (rIxL K) te (tUn (rU fun i => V.int (-i)) (tC (V.int 1)))) σ G d := fun H1 Q s q => a H1 _ s fun v H2 s2 t => by
  obtain ⟨l, xs, rfl, hl, r⟩ := Th.lstOf t
  obtain ⟨y, ey, ty⟩ := r.got e
  exact ⟨1, rfl, l, xs, _, y, rfl, rfl, SqL.of (un_top s s2 _ _ hl), atI_neg (k := 1) (j := k) (by omega) (by rw [r.len]; omega) ey, q _ _ s2 ty⟩
theorem gv_mul {n : Nat} (a : Gv te σ G (.list ds)) (e : ds.length = n) (h1 : 1 ≤ n) (h2 : n ≤ 100) :
    Gv (tOp (fun x y H Q => ∃ (z : Str) (n : Nat), x = .str z ∧ y = .int (n : Int) ∧ 1 ≤ n ∧ n ≤ 100000 ∧ z.length ≤ 100 ∧ Q (.str (Txt.mul z (n : Int))) H) (tC (V.str "0")) (tCB (fun xs H Q => ∃ x n, xs = [x] ∧ LenV K x H n ∧ Q (.int n) H) (tCons te tNil))) σ G (.str (Txt.mul "0" (n : Int))) := fun H1 Q s q => a H1 _ s fun v H2 s2 t => by
  obtain ⟨l, xs, rfl, hl, r⟩ := Th.lstOf t
  have ex : xs.length = n := by rw [r.len, e]
  have mul0 : (Txt.mul (Str.ofString "0") (n : Int)).length ≤ sizeLine := by
    have : ∀ n : Fin 101, (Txt.mul (Str.ofString "0") ((n.val : Nat) : Int)).length ≤ 2000 := by decide +kernel
    exact small_sz (this ⟨n, by omega⟩)
  exact ⟨.ref l, xs.length, rfl, .inl ⟨_, SqL.of (un_top s s2 _ _ hl), rfl⟩, _, n, rfl, by rw [ex], h1, by omega, (by show 1 ≤ 100; decide), q _ _ s2 (.str mul0)⟩
theorem gv_lc {ti : TE} {j : Nat} {ws : List Nat} {f : PyData → PyData} (a : Gv ti σ G (.list ds)) (z : ds.length ≤ 2000) (hw : ∀ y, wipe ((wipe σ ws).set j (some y)) ws = wipe σ ws)
    (hte : ∀ y dy G', Same G G' → dy ∈ ds → Th G' y dy → Gv te ((wipe σ ws).set j (some y)) G' (f dy)) : Gv (tLc (iList K ti) (gName j) tYes te ws) σ G (.list (ds.map f)) := fun H1 Q s q => a H1 _ s fun v H2 s2 t => by
  obtain ⟨l, xs, rfl, hl, r⟩ := Th.lstOf t
  have hl2 := un_top s s2 _ _ hl
  have sG : Same (un G H1 H2) H2 := un_top s s2
  refine ⟨l, rfl, ⟨xs, SqL.of hl2⟩, fun D hD => ?_⟩
  have gD : un G H1 H2 D = none := sG.free hD
  refine lc_list (K := K) (xs := xs) (fun k H' => ∃ acc, H' D = some (.lst acc) ∧ acc.length = k ∧ ThAll (un (un G H1 H2) (upd H2 D (.lst [])) H') acc ((ds.take k).map f) ∧ Same H2 H' ∧ Dom (upd H2 D (.lst [])) H') ⟨[], upd_same, rfl, .nil, same_new hD, Dom.refl⟩ (fun k H' _ ⟨_, _, _, _, sm, _⟩ => SqL.of (sm _ _ hl2)) ?_ ?_
  · rintro k y H3 hy ⟨acc, h3, la, ta, sm, dm⟩
    obtain ⟨dy, ed, ty⟩ := r.get hy
    have hk : k < xs.length := (List.getElem?_eq_some_iff.mp hy).1
    have hk2 : k < 2000 := by rw [r.len] at hk; omega
    refine ⟨hw y, yes_go ?_⟩
    refine hte y dy (un G H1 H2) (un_G s) (List.mem_of_getElem? ed) ty H3 _ (sG.trans sm) fun v H4 s4 t4 => ⟨acc, s4 _ _ h3, by rw [la]; exact Nat.lt_of_lt_of_le hk2 (by decide), acc ++ [v], upd_same, by rw [List.length_append, la]; rfl, ?_, same_upd (sm.trans s4) hD, (dm.trans (Dom.of s4)).trans Dom.upd⟩
    have u1 : Same (un (un G H1 H2) (upd H2 D (.lst [])) H4) (un (un G H1 H2) (upd H2 D (.lst [])) (upd H4 D (.lst (acc ++ [v])))) := fun b o hb => by
      cases e : upd H2 D (.lst []) b with
      | none =>
        rw [un_new e] at hb ⊢
        have : b ≠ D := fun z => by rw [z, upd_same] at e; cases e
        rw [upd_ne this]
        exact hb
      | some u => rw [un_old e] at hb ⊢; exact hb
    have u2 : Same (un (un G H1 H2) H3 H4) (un (un G H1 H2) (upd H2 D (.lst [])) H4) := fun b o hb => by
      cases e : H3 b with
      | none =>
        rw [un_new e] at hb
        rw [un_new (dm.free e)]
        exact hb
      | some u =>
        rw [un_old e] at hb
        have hD2 : b ≠ D := fun z => by rw [z, gD] at hb; cases hb
        have h2 := sG _ _ hb
        rw [un_old (o := o) (by rw [upd_ne hD2]; exact h2)]
        exact hb
    rw [take_get' ed, List.map_append]
    exact th_app ((ta.mono (un_mono s4)).mono u1) (.cons ((t4.mono u2).mono u1) .nil)
  · rintro H3 ⟨acc, h3, la, ta, sm, dm⟩
    rw [r.len, List.take_length] at ta
    have u3 : Same (un (un G H1 H2) (upd H2 D (.lst [])) H3) (un G H1 H3) := fun b o hb => by
      cases e : upd H2 D (.lst []) b with
      | none =>
        rw [un_new e] at hb
        have hD2 : b ≠ D := fun z => by rw [z, upd_same] at e; cases e
        rw [upd_ne hD2] at e
        rw [un_new (s2.free e)]
        exact hb
      | some u =>
        rw [un_old e] at hb
        exact un_mono sm _ _ hb
    exact q _ _ (s2.trans sm) (.lst (by rw [un_new (s2.free hD)]; exact h3) (by rw [la, r.len]; exact small_sz z) (ta.mono u3))
end
theorem fmod_small {j n : Nat} (h : j < n) : ((j : Nat) : Int).fmod ((n : Nat) : Int) = (j : Int) := by
  rw [Int.fmod_eq_emod_of_nonneg _ (by omega), Int.emod_eq_of_lt (by omega) (by omega)]
/-- menu[int(number) % len(menu)] -/
theorem pick {K : PySem.W.Frag} {σ : L2.St} {i j n : Nat} {m : V} {ds : List PyData} {H : Hp} {Q : VK} (h0 : σ[0]? = some (some (.int (j : Int)))) (hi : σ[i]? = some (some m)) (hm : Th H m (.list ds)) (hn : ds.length = n) (hj : j < n) (q : ∀ v d, d ∈ ds → Th H v d → Q v H) :
    tOp (rIxL K) (tVar i) (tOp (rI (fun x j => j ≠ 0) fun i j => V.int (i.fmod j)) (tCB (fun xs H Q => (∃ i, xs = [V.int i] ∧ Q (V.int i) H) ∨ ∃ k, xs = [V.bl k] ∧ Q (V.int (if k = true then 1 else 0)) H) (tCons (tVar 0) tNil)) (tCB (fun xs H Q => ∃ x n, xs = [x] ∧ LenV K x H n ∧ Q (.int n) H) (tCons (tVar i) tNil))) σ H Q := by
  obtain ⟨l, xs, rfl, hl, r⟩ := Th.lstOf hm
  have hx : xs.length = n := by rw [r.len, hn]
  obtain ⟨d, ed⟩ : ∃ d, ds[j]? = some d := ⟨_, List.getElem?_eq_getElem (by omega)⟩
  obtain ⟨y, ey, ty⟩ := r.got ed
  refine ⟨_, hi, _, h0, .inl ⟨_, rfl, _, hi, .ref l, xs.length, rfl, .inl ⟨_, SqL.of hl, rfl⟩, _, _, rfl, rfl, (by omega), l, xs, _, y, rfl, rfl, SqL.of hl, ?_, q y d (List.mem_of_getElem? ed) ty⟩⟩
  rw [hx, fmod_small hj]
  exact atI_nat ey
end Ow

namespace Ow
open PySem PySem.Spec PyProof.Rows L2
theorem nb_odd {xs : List PyData} {x : PyData} (h : x ∈ xs) (o : isIntD x = false) : ¬ begOk (.list xs) := fun b => by
  have := List.all_eq_true.mp b.2.2.2 x h
  rw [o] at this
  cases this
theorem ni_odd {xs : List PyData} {x : PyData} {n : Int} (h : x ∈ xs) (o : isIntD x = false) : intsD (.list xs) n = false := by
  cases e : intsD (.list xs) n with
  | false => rfl
  | true =>
    have := List.all_eq_true.mp (ints_parts e).2.1 x h
    rw [o] at this
    cases this
theorem ni_len {xs : List PyData} {n : Int} (h : (xs.length : Int) ≠ n) : intsD (.list xs) n = false := by
  cases e : intsD (.list xs) n with
  | false => rfl
  | true => exact absurd (ints_parts e).2.2 h
theorem nt_odd {xs : List PyData} {x : PyData} {n : Int} (h : x ∈ xs) (o : intsD x n = false) : tableD (.list xs) n = false := by
  cases e : tableD (.list xs) n with
  | false => rfl
  | true =>
    have := (tab_parts e).2.2 x h
    rw [o] at this
    cases this
theorem nt_len {xs : List PyData} {n : Int} (h : (xs.length : Int) ≠ n) : tableD (.list xs) n = false := by
  cases e : tableD (.list xs) n with
  | false => rfl
  | true => exact absurd (tab_parts e).2.1 h
theorem nc_odd {xs : List PyData} {x : PyData} {a n : Int} (h : x ∈ xs) (o : tableD x n = false) : tablesD (.list xs) a n = false := by
  cases e : tablesD (.list xs) a n with
  | false => rfl
  | true =>
    have := (tabs_parts e).2.2 x h
    rw [o] at this
    cases this
theorem nc_len {xs : List PyData} {a n : Int} (h : (xs.length : Int) ≠ a) : tablesD (.list xs) a n = false := by
  cases e : tablesD (.list xs) a n with
  | false => rfl
  | true => exact absurd (tabs_parts e).2.1 h
theorem log_small {i : Int} (h : -100000000000000000 ≤ i ∧ i ≤ 100000000000000000) : i.natAbs.log2 < 1920 := by
  by_cases e : i.natAbs = 0
  · rw [e]; decide
  · exact Nat.lt_trans ((Nat.log2_lt e).mpr (show i.natAbs < 2 ^ 64 by omega)) (by decide)
def strD : PyData → PyData
  | .int i => .str (toString i)
  | d => d
def spBadLine : Sp := fun vs H Q _ => ∃ (j : Nat) (l : Addr) (ns : List Int), vs = [.int (j : Int), .ref l] ∧ j < 10 ∧ H l = some (.lst (ns.map V.int)) ∧ 1 ≤ ns.length ∧ ns.length ≤ 100 ∧ Bd 100000000000000000 ns ∧ ∀ v d H', Same H H' → Th H' v d → ¬ begOk d → Q v H'
def spBadEnds : Sp := fun vs H Q _ => ∃ (j : Nat) (l : Addr) (ns : List Int), vs = [.int (j : Int), .ref l] ∧ j < 8 ∧ H l = some (.lst (ns.map V.int)) ∧ 1 ≤ ns.length ∧ ns.length ≤ 100 ∧ ∀ v d H', Same H H' → Th H' v d → intsD d ns.length = false → Q v H'
end Ow
namespace As
open PySem PySem.Spec PyProof PyProof.Rows L2 Ow
section
variable {P : Program} {w : World} {K : PySem.W.Frag} {mg : Str → Option Value} {base : Heap} {A : Ad}
abbrev N__law_bad_line : List Str := ["_law_number", "_law_line", "_law_menu", "_law_x"]
theorem sc__law_bad_line : FnScope N__law_bad_line ["_law_number", "_law_line"] (defScope s__law_bad_line) := ⟨rfl, rfl, rfl, by decide +kernel, rfl, by decide +kernel, by decide +kernel⟩
theorem ok_badline {fd : FuncData} (F : Fun K "_law_bad_line" "_law_bad_line" s__law_bad_line A.f__law_bad_line fd) (T : Tx K mg A) : FnOk P w K mg base CX0 1 A.f__law_bad_line fd ["_law_number", "_law_line"] spBadLine := by
  have nd := sc__law_bad_line.nd
  refine F.ok sc__law_bad_line (fun vs H Q E h => ?_) (fun cdv A' outer s H vs Q E hr h => ?_)
  · obtain ⟨j, l, ns, rfl, _⟩ := h
    rfl
  · obtain ⟨j, l, ns, rfl, hj, hl, h1, h2, bd, q⟩ := h
    refine ⟨_, (pss_cons (ps_set (i := 2) nd rfl (by first | exact Or.inl rfl | exact Or.inr rfl) (pe_lst (pa_cons (pe_lst pa_nil) (pa_cons pe_non (pa_cons pe_int (pa_cons (pe_op op_mulStrN pe_str (pe_callB call_len (by rfl) T.nlen (by decide +kernel) (pa_cons (pv 1) pa_nil))) (pa_cons (pe_op op_cat (pe_callTy (show CallR _ (.type "list") (rLsOf K) from call_list_of) (by rfl) T.nlist (by decide +kernel) (pa_cons (pv 1) pa_nil)) (pe_lst (pa_cons pe_bl pa_nil))) (pa_cons (pe_lc (own := [("_law_x", 3)]) (g := gName 3) (tt := tYes) rfl nd (pi_list (pv 1)) (blkOk_by (own := [("_law_x", 3)]) (N := N__law_bad_line) (sc := defScope s__law_bad_line) (by decide +kernel)) (fun _ _ _ _ _ => (pg_name (i := 3) nd rfl (by first | exact Or.inl rfl | exact Or.inr rfl))) (fun _ _ _ _ _ => pts_nil) (fun _ _ _ _ _ => (pe_callTy call_str_int (by rfl) T.nstr (by decide +kernel) (pa_cons (pv 3) pa_nil)))) (pa_cons (pe_op op_cat (pe_slice sl_list (pe_callTy (show CallR _ (.type "list") (rLsOf K) from call_list_of) (by rfl) T.nlist (by decide +kernel) (pa_cons (pv 1) pa_nil)) po_none (po_some (pe_un un_neg pe_int))) (pe_lst (pa_cons pe_non pa_nil))) pa_nil)))))))))
  (pss_cons (ps_set (i := 2) nd rfl (by first | exact Or.inl rfl | exact Or.inr rfl) (pe_op op_cat (pv 2) (pe_lst (pa_cons (pe_op op_cat (pe_slice sl_list (pe_callTy (show CallR _ (.type "list") (rLsOf K) from call_list_of) (by rfl) T.nlist (by decide +kernel) (pa_cons (pv 1) pa_nil)) po_none (po_some (pe_un un_neg pe_int))) (pe_lst (pa_cons pe_bl pa_nil))) (pa_cons pe_dnewK (pa_cons (pe_lst (pa_cons (pe_callTy (show CallR _ (.type "list") (rLsOf K) from call_list_of) (by rfl) T.nlist (by decide +kernel) (pa_cons (pv 1) pa_nil)) pa_nil)) pa_nil))))))
  (pss_one (ps_ret (pe_ix ix_list (pv 2) (pe_op op_modN (pe_callTy call_int1 (by rfl) T.nint (by decide +kernel) (pa_cons (pv 0) pa_nil)) (pe_callB call_len (by rfl) T.nlen (by decide +kernel) (pa_cons (pv 2) pa_nil))) (fun _ _ => rfl)))))), ?_⟩
    have tl : Th H (.ref l) (.list (ns.map .int)) := il_th hl (by omega)
    have tstr : Gv (tLc (iList K (tVar 1)) (gName 3) tYes (tCB (fun xs H Q => ∃ i, xs = [.int i] ∧ i.natAbs.log2 < 1920 ∧ Q (.str (toString i)) H) (tCons (tVar 3) tNil)) [3]) (L2.start N__law_bad_line [V.int (j : Int), V.ref l]) H (.list ((ns.map PyData.int).map strD)) := by
      refine gv_lc (gv_var rfl tl) (by simp only [List.length_cons, List.length_nil, List.length_append, List.length_map, List.length_take, List.length_drop, List.length_replicate]; omega) (fun y => rfl) fun y dy G' sG mem ty => ?_
      obtain ⟨i, hi, rfl⟩ := List.mem_map.mp mem
      cases ty with
      | int => exact fun H1 Q s q => ⟨_, rfl, i, rfl, log_small (bd i hi), q _ H1 (Same.refl H1) (.str (int_text_fits (log_small (bd i hi))))⟩
    dsimp only [tSeq, tAsg]
    refine gv_lst (gva_cons (gv_lst gva_nil (by decide)) (gva_cons (gv_c fun _ => .non) (gva_cons (gv_c fun _ => .int 7) (gva_cons (gv_mul (gv_var rfl tl) rfl (by simp only [List.length_cons, List.length_nil, List.length_append, List.length_map, List.length_take, List.length_drop, List.length_replicate]; omega) (by simp only [List.length_cons, List.length_nil, List.length_append, List.length_map, List.length_take, List.length_drop, List.length_replicate]; omega)) (gva_cons (gv_cat (gv_list (gv_var rfl tl) (by simp only [List.length_cons, List.length_nil, List.length_append, List.length_map, List.length_take, List.length_drop, List.length_replicate]; omega)) (gv_lst (gva_cons (gv_c fun _ => .bl true) gva_nil) (by decide)) (by simp only [List.length_cons, List.length_nil, List.length_append, List.length_map, List.length_take, List.length_drop, List.length_replicate]; omega))
      (gva_cons tstr (gva_cons (gv_cat (gv_cut (gv_list (gv_var rfl tl) (by simp only [List.length_cons, List.length_nil, List.length_append, List.length_map, List.length_take, List.length_drop, List.length_replicate]; omega)) (by simp only [List.length_cons, List.length_nil, List.length_append, List.length_map, List.length_take, List.length_drop, List.length_replicate]; omega)) (gv_lst (gva_cons (gv_c fun _ => .non) gva_nil) (by decide)) (by simp only [List.length_cons, List.length_nil, List.length_append, List.length_map, List.length_take, List.length_drop, List.length_replicate]; omega)) gva_nil))))))) (by simp only [List.length_cons, List.length_nil, List.length_append, List.length_map, List.length_take, List.length_drop, List.length_replicate]; omega) H _ (Same.refl H) fun m H2 s2 t2 => ?_
    have t2 := t2.mono (un_top (Same.refl H) s2)
    have tl2 := tl.mono s2
    dsimp only [tSeq, tAsg, gName]
    refine gv_cat (gv_var rfl t2) (gv_lst (gva_cons (gv_cat (gv_cut (gv_list (gv_var rfl tl2) (by simp only [List.length_cons, List.length_nil, List.length_append, List.length_map, List.length_take, List.length_drop, List.length_replicate]; omega)) (by simp only [List.length_cons, List.length_nil, List.length_append, List.length_map, List.length_take, List.length_drop, List.length_replicate]; omega)) (gv_lst (gva_cons (gv_c fun _ => .bl false) gva_nil) (by decide)) (by simp only [List.length_cons, List.length_nil, List.length_append, List.length_map, List.length_take, List.length_drop, List.length_replicate]; omega)) (gva_cons gv_dict (gva_cons (gv_lst (gva_cons (gv_list (gv_var rfl tl2) (by simp only [List.length_cons, List.length_nil, List.length_append, List.length_map, List.length_take, List.length_drop, List.length_replicate]; omega)) gva_nil) (by simp only [List.length_cons, List.length_nil, List.length_append, List.length_map, List.length_take, List.length_drop, List.length_replicate]; omega)) gva_nil))) (by simp only [List.length_cons, List.length_nil, List.length_append, List.length_map, List.length_take, List.length_drop, List.length_replicate]; omega)) (by simp only [List.length_cons, List.length_nil, List.length_append, List.length_map, List.length_take, List.length_drop, List.length_replicate]; omega) H2 _ (Same.refl H2) fun m3 H3 s3 t3 => ?_
    have t3 := t3.mono (un_top (Same.refl H2) s3)
    refine pick (n := 10) rfl rfl t3 rfl hj fun v d hd tv => q v d H3 (s2.trans s3) tv ?_
    simp only [List.cons_append, List.nil_append, List.mem_cons, List.not_mem_nil, or_false] at hd
    obtain ⟨i0, hi0⟩ : ∃ i0, i0 ∈ ns := ⟨ns[0], List.getElem_mem _⟩
    rcases hd with rfl | rfl | rfl | rfl | rfl | rfl | rfl | rfl | rfl | rfl
    · exact fun b => absurd b.2.1 (by decide)
    · exact fun b => nomatch b.1
    · exact fun b => nomatch b.1
    · exact fun b => nomatch b.1
    · exact nb_odd (List.mem_append_right _ List.mem_cons_self) rfl
    · exact nb_odd (List.mem_map.mpr ⟨_, List.mem_map.mpr ⟨i0, hi0, rfl⟩, rfl⟩) rfl
    · exact nb_odd (List.mem_append_right _ List.mem_cons_self) rfl
    · exact nb_odd (List.mem_append_right _ List.mem_cons_self) rfl
    · exact fun b => nomatch b.1
    · exact nb_odd List.mem_cons_self rfl
abbrev N__law_bad_ends : List Str := ["_law_number", "_law_line", "_law_menu"]
theorem sc__law_bad_ends : FnScope N__law_bad_ends ["_law_number", "_law_line"] (defScope s__law_bad_ends) := ⟨rfl, rfl, rfl, by decide +kernel, rfl, by decide +kernel, by decide +kernel⟩
theorem ok_badends {fd : FuncData} (F : Fun K "_law_bad_ends" "_law_bad_ends" s__law_bad_ends A.f__law_bad_ends fd) (T : Tx K mg A) : FnOk P w K mg base CX0 1 A.f__law_bad_ends fd ["_law_number", "_law_line"] spBadEnds := by
  have nd := sc__law_bad_ends.nd
  refine F.ok sc__law_bad_ends (fun vs H Q E h => ?_) (fun cdv A' outer s H vs Q E hr h => ?_)
  · obtain ⟨j, l, ns, rfl, _⟩ := h
    rfl
  · obtain ⟨j, l, ns, rfl, hj, hl, h1, h2, q⟩ := h
    refine ⟨_, (pss_cons (ps_set (i := 2) nd rfl (by first | exact Or.inl rfl | exact Or.inr rfl) (pe_lst (pa_cons (pe_lst pa_nil) (pa_cons pe_non (pa_cons (pe_op op_cat (pe_callTy (show CallR _ (.type "list") (rLsOf K) from call_list_of) (by rfl) T.nlist (by decide +kernel) (pa_cons (pv 1) pa_nil)) (pe_lst (pa_cons pe_int pa_nil))) (pa_cons (pe_slice sl_list (pe_callTy (show CallR _ (.type "list") (rLsOf K) from call_list_of) (by rfl) T.nlist (by decide +kernel) (pa_cons (pv 1) pa_nil)) po_none (po_some (pe_un un_neg pe_int))) (pa_cons (pe_op op_cat (pe_slice sl_list (pe_callTy (show CallR _ (.type "list") (rLsOf K) from call_list_of) (by rfl) T.nlist (by decide +kernel) (pa_cons (pv 1) pa_nil)) po_none (po_some (pe_un un_neg pe_int))) (pe_lst (pa_cons pe_bl pa_nil))) (pa_cons (pe_op op_mulStrN pe_str (pe_callB call_len (by rfl) T.nlen (by decide +kernel) (pa_cons (pv 1) pa_nil))) (pa_cons pe_int (pa_cons (pe_lst (pa_cons (pe_callTy (show CallR _ (.type "list") (rLsOf K) from call_list_of) (by rfl) T.nlist (by decide +kernel) (pa_cons (pv 1) pa_nil)) pa_nil)) pa_nil))))))))))
  (pss_one (ps_ret (pe_ix ix_list (pv 2) (pe_op op_modN (pe_callTy call_int1 (by rfl) T.nint (by decide +kernel) (pa_cons (pv 0) pa_nil)) (pe_callB call_len (by rfl) T.nlen (by decide +kernel) (pa_cons (pv 2) pa_nil))) (fun _ _ => rfl))))), ?_⟩
    have tl : Th H (.ref l) (.list (ns.map .int)) := il_th hl (by omega)
    have lm : (ns.map PyData.int).length = ns.length := List.length_map _
    dsimp only [tSeq, tAsg]
    refine gv_lst (gva_cons (gv_lst gva_nil (by decide)) (gva_cons (gv_c fun _ => .non) (gva_cons (gv_cat (gv_list (gv_var rfl tl) (by simp only [List.length_cons, List.length_nil, List.length_append, List.length_map, List.length_take, List.length_drop, List.length_replicate]; omega)) (gv_lst (gva_cons (gv_c fun _ => .int 0) gva_nil) (by decide)) (by simp only [List.length_cons, List.length_nil, List.length_append, List.length_map, List.length_take, List.length_drop, List.length_replicate]; omega)) (gva_cons (gv_cut (gv_list (gv_var rfl tl) (by simp only [List.length_cons, List.length_nil, List.length_append, List.length_map, List.length_take, List.length_drop, List.length_replicate]; omega)) (by simp only [List.length_cons, List.length_nil, List.length_append, List.length_map, List.length_take, List.length_drop, List.length_replicate]; omega))
      (gva_cons (gv_cat (gv_cut (gv_list (gv_var rfl tl) (by simp only [List.length_cons, List.length_nil, List.length_append, List.length_map, List.length_take, List.length_drop, List.length_replicate]; omega)) (by simp only [List.length_cons, List.length_nil, List.length_append, List.length_map, List.length_take, List.length_drop, List.length_replicate]; omega)) (gv_lst (gva_cons (gv_c fun _ => .bl true) gva_nil) (by decide)) (by simp only [List.length_cons, List.length_nil, List.length_append, List.length_map, List.length_take, List.length_drop, List.length_replicate]; omega)) (gva_cons (gv_mul (gv_var rfl tl) rfl (by simp only [List.length_cons, List.length_nil, List.length_append, List.length_map, List.length_take, List.length_drop, List.length_replicate]; omega) (by simp only [List.length_cons, List.length_nil, List.length_append, List.length_map, List.length_take, List.length_drop, List.length_replicate]; omega)) (gva_cons (gv_c fun _ => .int 0) (gva_cons (gv_lst (gva_cons (gv_list (gv_var rfl tl) (by simp only [List.length_cons, List.length_nil, List.length_append, List.length_map, List.length_take, List.length_drop, List.length_replicate]; omega)) gva_nil) (by simp only [List.length_cons, List.length_nil, List.length_append, List.length_map, List.length_take, List.length_drop, List.length_replicate]; omega)) gva_nil)))))))) (by simp only [List.length_cons, List.length_nil, List.length_append, List.length_map, List.length_take, List.length_drop, List.length_replicate]; omega) H _ (Same.refl H) fun m H2 s2 t2 => ?_
    have t2 := t2.mono (un_top (Same.refl H) s2)
    dsimp only [gName]
    refine pick (n := 8) rfl rfl t2 rfl hj fun v d hd tv => q v d H2 s2 tv ?_
    simp only [List.mem_cons, List.not_mem_nil, or_false] at hd
    rcases hd with rfl | rfl | rfl | rfl | rfl | rfl | rfl | rfl
    · exact ni_len (by show ((0 : Nat) : Int) ≠ _; omega)
    · rfl
    · exact ni_len (by rw [List.length_append, lm]; show ((ns.length + 1 : Nat) : Int) ≠ _; omega)
    · exact ni_len (by rw [List.length_take, lm]; omega)
    · exact ni_odd (List.mem_append_right _ List.mem_cons_self) rfl
    · rfl
    · rfl
    · exact ni_odd List.mem_cons_self rfl
end
end As

namespace Ow
open PySem PySem.Spec PyProof PyProof.Rows L2
def cutD : PyData → PyData
  | .list xs => .list (xs.take (xs.length - 1))
  | d => d
def moreD : PyData → PyData
  | .list xs => .list (xs ++ [.int 0])
  | d => d
def spBadCosts : Sp := fun vs H Q _ => ∃ (j : Nat) (x : V) (n : Nat) (c : List (List (List Int))), vs = [.int (j : Int), x] ∧ j < 12 ∧ Th H x (CL c) ∧ 1 ≤ c.length ∧ c.length ≤ 100 ∧ 1 ≤ n ∧ n ≤ 100 ∧ (∀ t ∈ c, Sq n t) ∧ ∀ v d H', Same H H' → Th H' v d → tablesD d c.length n = false → Q v H'
def spBadAsks (K : PySem.W.Frag) : Sp := fun vs H Q _ => ∃ (j : Nat), vs = [.int (j : Int)] ∧ j < 15 ∧ ∀ v f H', Same H H' → Known K H' v → asksV v = false → RepI2 H' v f → Q v H'
theorem map_same {α : Type} (l : List α) : l.map (fun d => d) = l := by simp
end Ow
namespace As
open PySem PySem.Spec PyProof PyProof.Rows L2 Ow
section
variable {P : Program} {w : World} {K : PySem.W.Frag} {mg : Str → Option Value} {base : Heap} {A : Ad}
abbrev N__law_bad_asks : List Str := ["_law_number", "_law_menu"]
theorem sc__law_bad_asks : FnScope N__law_bad_asks ["_law_number"] (defScope s__law_bad_asks) := ⟨rfl, rfl, rfl, by decide +kernel, rfl, by decide +kernel, by decide +kernel⟩
theorem ok_badasks {fd : FuncData} (F : Fun K "_law_bad_asks" "_law_bad_asks" s__law_bad_asks A.f__law_bad_asks fd) (T : Tx K mg A) : FnOk P w K mg base CX0 1 A.f__law_bad_asks fd ["_law_number"] (spBadAsks K) := by
  have nd := sc__law_bad_asks.nd
  refine F.ok sc__law_bad_asks (fun vs H Q E h => ?_) (fun cdv A' outer s H vs Q E hr h => ?_)
  · obtain ⟨j, rfl, _⟩ := h
    rfl
  · obtain ⟨j, rfl, hj, q⟩ := h
    refine ⟨_, (pss_cons (ps_set (i := 1) nd rfl (by first | exact Or.inl rfl | exact Or.inr rfl) (pe_lst (pa_cons pe_str (pa_cons pe_str (pa_cons pe_str (pa_cons pe_str (pa_cons pe_str (pa_cons pe_str (pa_cons pe_int (pa_cons pe_non (pa_cons (pe_lst (pa_cons pe_str pa_nil)) (pa_cons (pe_tup (pa_cons pe_str (pa_cons pe_str pa_nil))) (pa_cons pe_str (pa_cons pe_bl (pa_cons pe_str (pa_cons pe_str (pa_cons pe_str pa_nil)))))))))))))))))
  (pss_one (ps_ret (pe_ix ix_list (pv 1) (pe_op op_modN (pe_callTy call_int1 (by rfl) T.nint (by decide +kernel) (pa_cons (pv 0) pa_nil)) (pe_callB call_len (by rfl) T.nlen (by decide +kernel) (pa_cons (pv 1) pa_nil))) (fun _ _ => rfl))))), ?_⟩
    refine ⟨(by show 1 ≤ sizeLine; decide), fun l1 h1 => ?_⟩
    have s1 := same_new (o := .lst [.str "a"]) h1
    have e1 : (upd H l1 (.lst [.str "a"])) l1 = some (.lst [.str "a"]) := upd_same
    generalize upd H l1 (.lst [.str "a"]) = H1 at s1 e1 ⊢
    refine ⟨(by show 2 ≤ sizeLine; decide), fun l2 h2 => ?_⟩
    have s2 := same_new (o := .tup [.str "a", .str "b"]) h2
    have e2 : (upd H1 l2 (.tup [.str "a", .str "b"])) l2 = some (.tup [.str "a", .str "b"]) := upd_same
    generalize upd H1 l2 (.tup [.str "a", .str "b"]) = H2 at s2 e2 ⊢
    refine ⟨(by show 15 ≤ sizeLine; decide), fun m hm => ?_⟩
    have s3 := same_new (o := .lst [V.str "", .str "ba", .str "aa", .str "abcde", .str "i", .str "aB", .int 5, .non, .ref l1, .ref l2, .str "a ", .bl true, .str "hgf", .str "ax", .str "abbc"]) hm
    have e3 : (upd H2 m (.lst [V.str "", .str "ba", .str "aa", .str "abcde", .str "i", .str "aB", .int 5, .non, .ref l1, .ref l2, .str "a ", .bl true, .str "hgf", .str "ax", .str "abbc"])) m = some (.lst [V.str "", .str "ba", .str "aa", .str "abcde", .str "i", .str "aB", .int 5, .non, .ref l1, .ref l2, .str "a ", .bl true, .str "hgf", .str "ax", .str "abbc"]) := upd_same
    show gName 1 (V.ref m) _ (upd H2 m (.lst [V.str "", .str "ba", .str "aa", .str "abcde", .str "i", .str "aB", .int 5, .non, .ref l1, .ref l2, .str "a ", .bl true, .str "hgf", .str "ax", .str "abbc"])) _
    generalize upd H2 m (.lst [V.str "", .str "ba", .str "aa", .str "abcde", .str "i", .str "aB", .int 5, .non, .ref l1, .ref l2, .str "a ", .bl true, .str "hgf", .str "ax", .str "abbc"]) = H3 at s3 e3 ⊢
    have e13 := s3 _ _ (s2 _ _ e1)
    have e23 := s3 _ _ e2
    have all : ∀ v ∈ [V.str "", .str "ba", .str "aa", .str "abcde", .str "i", .str "aB", .int 5, .non, .ref l1, .ref l2, .str "a ", .bl true, .str "hgf", .str "ax", .str "abbc"], Q v H3 := by
      intro v hv
      have st : ∀ z : Str, asksV (.str z) = false → z.length ≤ sizeLine → (reprText z).length ≤ sizeLine → Q (.str z) H3 := fun z a b c => q _ _ _ (s1.trans (s2.trans s3)) (.inl ⟨z, rfl, b⟩) a (.base (.str c))
      have ot : ∀ (v : V) (t : String) f, (∀ z, v ≠ .str z) → TyX K H3 v (.type t) → kitB t "str" = some false → asksV v = false → RepI2 H3 v f → Q v H3 := fun v t f a b c d e => q _ _ _ (s1.trans (s2.trans s3)) (.inr ⟨a, _, b, kit_ty c⟩) d e
      simp only [List.mem_cons, List.not_mem_nil, or_false] at hv
      rcases hv with rfl | rfl | rfl | rfl | rfl | rfl | rfl | rfl | rfl | rfl | rfl | rfl | rfl | rfl | rfl
      · exact st _ (by decide +kernel) (by decide +kernel) (by decide +kernel)
      · exact st _ (by decide +kernel) (by decide +kernel) (by decide +kernel)
      · exact st _ (by decide +kernel) (by decide +kernel) (by decide +kernel)
      · exact st _ (by decide +kernel) (by decide +kernel) (by decide +kernel)
      · exact st _ (by decide +kernel) (by decide +kernel) (by decide +kernel)
      · exact st _ (by decide +kernel) (by decide +kernel) (by decide +kernel)
      · exact ot _ _ _ nofun (Th.int 5 : Th H3 _ _).ty rfl rfl (.base (.int (by decide)))
      · exact ot _ _ _ nofun (Th.non : Th H3 _ _).ty rfl rfl (.base .non)
      · exact ot _ _ _ nofun (Th.lst e13 (by show 1 ≤ sizeLine; decide) (.cons (.str (z := "a") (by decide +kernel)) .nil) : Th H3 _ _).ty rfl rfl (.base (.lst e13 (by decide +kernel) (by decide +kernel)))
      · exact ot _ _ _ nofun (Th.tup e23 (by show 2 ≤ sizeLine; decide) (.cons (.str (z := "a") (by decide +kernel)) (.cons (.str (z := "b") (by decide +kernel)) .nil)) : Th H3 _ _).ty rfl rfl (.pair e23 (by decide +kernel) (by decide +kernel) (by decide +kernel))
      · exact st _ (by decide +kernel) (by decide +kernel) (by decide +kernel)
      · exact ot _ _ _ nofun (Th.bl true : Th H3 _ _).ty rfl rfl (.base .bl)
      · exact st _ (by decide +kernel) (by decide +kernel) (by decide +kernel)
      · exact st _ (by decide +kernel) (by decide +kernel) (by decide +kernel)
      · exact st _ (by decide +kernel) (by decide +kernel) (by decide +kernel)
    have hj' : j < [V.str "", .str "ba", .str "aa", .str "abcde", .str "i", .str "aB", .int 5, .non, .ref l1, .ref l2, .str "a ", .bl true, .str "hgf", .str "ax", .str "abbc"].length := hj
    refine ⟨_, rfl, _, rfl, .inl ⟨_, rfl, _, rfl, .ref m, 15, rfl, .inl ⟨_, SqL.of e3, rfl⟩, _, _, rfl, rfl, (by show (15 : Int) ≠ 0; decide), m, _, _, _, rfl, rfl, SqL.of e3, ?_, all _ (List.getElem_mem hj')⟩⟩
    show atI _ ((j : Int).fmod ((15 : Nat) : Int)) = _
    rw [fmod_small hj]
    exact atI_nat (List.getElem?_eq_getElem hj')
abbrev N__law_bad_costs : List Str := ["_law_number", "_law_costs", "_law_first", "_law_rest", "_law_menu", "_law_line", "_law_table"]
theorem sc__law_bad_costs : FnScope N__law_bad_costs ["_law_number", "_law_costs"] (defScope s__law_bad_costs) := ⟨rfl, rfl, rfl, by decide +kernel, rfl, by decide +kernel, by decide +kernel⟩
theorem ok_badcosts {fd : FuncData} (F : Fun K "_law_bad_costs" "_law_bad_costs" s__law_bad_costs A.f__law_bad_costs fd) (T : Tx K mg A) : FnOk P w K mg base CX0 1 A.f__law_bad_costs fd ["_law_number", "_law_costs"] spBadCosts := by
  have nd := sc__law_bad_costs.nd
  refine F.ok sc__law_bad_costs (fun vs H Q E h => ?_) (fun cdv A' outer s H vs Q E hr h => ?_)
  · obtain ⟨j, x, n, c, rfl, _⟩ := h
    rfl
  · obtain ⟨j, x, n, c, rfl, hj, hx, c1, c2, n1, n2, sq, q⟩ := h
    refine ⟨_, (pss_cons (ps_setLc (i := 2) (own := [("_law_line", 5)]) (g := gName 5) (tt := tYes) rfl nd rfl rfl (sw_true rfl rfl rfl (by decide +kernel)) (pi_list (pe_ix ix_list (pv 1) pe_int (fun _ _ => rfl))) (blkOk_by (own := [("_law_line", 5)]) (N := N__law_bad_costs) (sc := defScope s__law_bad_costs) (by decide +kernel)) (fun _ _ _ _ _ => (pg_name (i := 5) nd rfl (by first | exact Or.inl rfl | exact Or.inr rfl))) (fun _ _ _ _ _ => pts_nil) (fun _ _ _ _ _ => (pe_callTy (show CallR _ (.type "list") (rLsOf K) from call_list_of) (by rfl) T.nlist (by decide +kernel) (pa_cons (pv 5) pa_nil))))
  (pss_cons (ps_setLc (i := 3) (own := [("_law_table", 6)]) (g := gName 6) (tt := tYes) rfl nd rfl rfl (sw_true rfl rfl rfl (by decide +kernel)) (pi_list (pe_slice sl_list (pv 1) (po_some pe_int) po_none)) (blkOk_by (own := [("_law_table", 6)]) (N := N__law_bad_costs) (sc := defScope s__law_bad_costs) (by decide +kernel)) (fun _ _ _ _ _ => (pg_name (i := 6) nd rfl (by first | exact Or.inl rfl | exact Or.inr rfl))) (fun _ _ _ _ _ => pts_nil) (fun _ _ _ _ _ => (pe_lc (own := [("_law_line", 5)]) (g := gName 5) (tt := tYes) rfl nd (show PI _ _ _ (iList K (tVar 6)) from pi_list (pv 6)) (blkOk_by (own := [("_law_line", 5)]) (N := N__law_bad_costs) (sc := lcSc (valAt (defBody s__law_bad_costs) 1)) (by decide +kernel)) (fun _ _ _ _ _ => (pg_name (i := 5) nd rfl (by first | exact Or.inl rfl | exact Or.inr rfl))) (fun _ _ _ _ _ => pts_nil) (fun _ _ _ _ _ => (pe_callTy (show CallR _ (.type "list") (rLsOf K) from call_list_of) (by rfl) T.nlist (by decide +kernel) (pa_cons (pv 5) pa_nil))))))
  (pss_cons (ps_set (i := 4) nd rfl (by first | exact Or.inl rfl | exact Or.inr rfl) (pe_lst (pa_cons (pe_lst pa_nil) (pa_cons pe_non (pa_cons pe_int (pa_cons (pe_op op_cat (pe_op op_cat (pe_lst (pa_cons (pv 2) pa_nil)) (pv 3)) (pe_lst (pa_cons (pv 2) pa_nil))) (pa_cons (pv 3) (pa_cons (pe_op op_cat (pe_lst (pa_cons (pe_slice sl_list (pv 2) po_none (po_some (pe_un un_neg pe_int))) pa_nil)) (pv 3)) (pa_cons (pe_op op_cat (pe_lst (pa_cons (pe_op op_cat (pv 2) (pe_lst (pa_cons (pe_ix ix_list (pv 2) pe_int (fun _ _ => rfl)) pa_nil))) pa_nil)) (pv 3)) pa_nil)))))))))
  (pss_cons (ps_set (i := 4) nd rfl (by first | exact Or.inl rfl | exact Or.inr rfl) (pe_op op_cat (pv 4) (pe_lst (pa_cons (pe_op op_cat (pe_lst (pa_cons (pe_lc (own := [("_law_line", 5)]) (g := gName 5) (tt := tYes) rfl nd (pi_list (pv 2)) (blkOk_by (own := [("_law_line", 5)]) (N := N__law_bad_costs) (sc := defScope s__law_bad_costs) (by decide +kernel)) (fun _ _ _ _ _ => (pg_name (i := 5) nd rfl (by first | exact Or.inl rfl | exact Or.inr rfl))) (fun _ _ _ _ _ => pts_nil) (fun _ _ _ _ _ => (pe_slice (show SlR _ (rSlL K) from sl_list) (pv 5) po_none (po_some (pe_un un_neg pe_int))))) pa_nil)) (pv 3)) (pa_cons (pe_op op_cat (pe_lst (pa_cons (pe_lc (own := [("_law_line", 5)]) (g := gName 5) (tt := tYes) rfl nd (pi_list (pv 2)) (blkOk_by (own := [("_law_line", 5)]) (N := N__law_bad_costs) (sc := defScope s__law_bad_costs) (by decide +kernel)) (fun _ _ _ _ _ => (pg_name (i := 5) nd rfl (by first | exact Or.inl rfl | exact Or.inr rfl))) (fun _ _ _ _ _ => pts_nil) (fun _ _ _ _ _ => (pe_op op_cat (pv 5) (pe_lst (pa_cons pe_int pa_nil))))) pa_nil)) (pv 3)) pa_nil)))))
  (pss_cons (ps_set (i := 4) nd rfl (by first | exact Or.inl rfl | exact Or.inr rfl) (pe_op op_cat (pv 4) (pe_lst (pa_cons (pe_op op_cat (pe_lst (pa_cons (pe_op op_cat (pe_slice sl_list (pv 2) po_none (po_some (pe_un un_neg pe_int))) (pe_lst (pa_cons (pe_op op_cat (pe_slice sl_list (pe_ix ix_list (pv 2) (pe_un un_neg pe_int) (fun _ _ => rfl)) po_none (po_some (pe_un un_neg pe_int))) (pe_lst (pa_cons pe_bl pa_nil))) pa_nil))) pa_nil)) (pv 3)) (pa_cons (pe_op op_cat (pe_lst (pa_cons (pe_op op_cat (pe_slice sl_list (pv 2) po_none (po_some (pe_un un_neg pe_int))) (pe_lst (pa_cons (pe_op op_mulStrN pe_str (pe_callB call_len (by rfl) T.nlen (by decide +kernel) (pa_cons (pv 2) pa_nil))) pa_nil))) pa_nil)) (pv 3)) (pa_cons pe_str pa_nil))))))
  (pss_one (ps_ret (pe_ix ix_list (pv 4) (pe_op op_modN (pe_callTy call_int1 (by rfl) T.nint (by decide +kernel) (pa_cons (pv 0) pa_nil)) (pe_callB call_len (by rfl) T.nlen (by decide +kernel) (pa_cons (pv 4) pa_nil))) (fun _ _ => rfl))))))))), ?_⟩
    cases c with
    | nil => exact absurd c1 (by decide)
    | cons t cr =>
      have st := sq t List.mem_cons_self
      have st1 := st.1
      have lt : (t.map IL).length = n := by rw [List.length_map]; exact st1
      have lr : (cr.map TL').length + 1 ≤ 100 := by rw [List.length_map]; exact c2
      have hx : Th H x (.list (TL' t :: cr.map TL')) := hx
      have lcr0 : cr.length + 1 ≤ 100 := c2
      dsimp only [tSeq, tAsg]
      refine gv_lc (f := fun d => d) (gv_at (k := 0) (d := .list (t.map IL)) (gv_var rfl hx) rfl) (by omega) (fun y => by rfl) (fun y dy G' sG mem ty => ?_) H _ (Same.refl H) fun m2 H2 s2 t2 => ?_
      · obtain ⟨row, hrow, rfl⟩ := List.mem_map.mp mem
        have lrow := st.2 row hrow
        exact gv_list (ds := row.map .int) (gv_var rfl ty) (by simp only [List.length_cons, List.length_nil, List.length_append, List.length_map, List.length_take, List.length_drop, List.length_replicate]; omega)
      rw [map_same] at t2
      have t2 := t2.mono (un_top (Same.refl H) s2)
      have hx2 := hx.mono s2
      try dsimp only [tSeq, tAsg, gName]
      refine gv_lc (f := fun d => d) (gv_from1 (gv_var rfl hx2) (by simp only [List.length_cons, List.length_nil, List.length_append, List.length_map, List.length_take, List.length_drop, List.length_replicate]; omega)) (by simp only [List.length_cons, List.length_nil, List.length_append, List.length_map, List.length_take, List.length_drop, List.length_replicate]; omega) (fun y => by rfl) (fun y dy G' sG mem ty => ?_) H2 _ (Same.refl H2) fun m3 H3 s3 t3 => ?_
      · have mem : dy ∈ cr.map TL' := mem
        obtain ⟨tab, htab, rfl⟩ := List.mem_map.mp mem
        have stb := sq tab (List.mem_cons_of_mem _ htab)
        have stb1 := stb.1
        have el : PyData.list ((tab.map IL).map fun d => d) = TL' tab := by rw [map_same]; rfl
        rw [← el]
        refine gv_lc (f := fun d => d) (ds := tab.map IL) (gv_var rfl ty) (by simp only [List.length_cons, List.length_nil, List.length_append, List.length_map, List.length_take, List.length_drop, List.length_replicate]; omega) (fun y => by rfl) (fun y dy G' sG mem ty => ?_)
        obtain ⟨row, hrow, rfl⟩ := List.mem_map.mp mem
        have lrow := stb.2 row hrow
        exact gv_list (ds := row.map .int) (gv_var rfl ty) (by simp only [List.length_cons, List.length_nil, List.length_append, List.length_map, List.length_take, List.length_drop, List.length_replicate]; omega)
      rw [map_same] at t3
      have t3 : Th (un H2 H2 H3) m3 (.list (cr.map TL')) := t3
      have t3 := t3.mono (un_top (Same.refl H2) s3)
      have t2 := t2.mono s3
      try dsimp only [tSeq, tAsg, gName]
      have t2' : Th H3 m2 (.list (t.map IL)) := t2
      have lt2 : (t.map IL).length ≤ 100 := by omega
      obtain ⟨r0, hr0⟩ : ∃ r0, r0 ∈ t := ⟨t[0], List.getElem_mem _⟩
      have lr0 := st.2 r0 hr0
      have hk0 : ∃ d0 ds0, t.map IL = d0 :: ds0 := by
        cases t with
        | nil => exact absurd hr0 nofun
        | cons a b => exact ⟨_, _, rfl⟩
      have g0 : ∃ rr, (t.map IL)[0]? = some (IL rr) ∧ rr.length = n := by
        cases t with
        | nil => exact absurd hr0 nofun
        | cons a b => exact ⟨a, rfl, st.2 a List.mem_cons_self⟩
      obtain ⟨rr, grr, lrr⟩ := g0
      refine gv_lst (gva_cons (gv_lst gva_nil (by decide)) (gva_cons (gv_c fun _ => .non) (gva_cons (gv_c fun _ => .int 3) (gva_cons (gv_cat (gv_cat (gv_lst (gva_cons (gv_var rfl t2') gva_nil) (by simp only [List.length_cons, List.length_nil, List.length_append, List.length_map, List.length_take, List.length_drop, List.length_replicate]; omega)) (gv_var rfl t3) (by simp only [List.length_cons, List.length_nil, List.length_append, List.length_map, List.length_take, List.length_drop, List.length_replicate]; omega)) (gv_lst (gva_cons (gv_var rfl t2') gva_nil) (by simp only [List.length_cons, List.length_nil, List.length_append, List.length_map, List.length_take, List.length_drop, List.length_replicate]; omega)) (by simp only [List.length_cons, List.length_nil, List.length_append, List.length_map, List.length_take, List.length_drop, List.length_replicate]; omega))
        (gva_cons (gv_var rfl t3) (gva_cons (gv_cat (gv_lst (gva_cons (gv_cut (gv_var rfl t2') (by omega)) gva_nil) (by simp only [List.length_cons, List.length_nil, List.length_append, List.length_map, List.length_take, List.length_drop, List.length_replicate]; omega)) (gv_var rfl t3) (by simp only [List.length_cons, List.length_nil, List.length_append, List.length_map, List.length_take, List.length_drop, List.length_replicate]; omega))
        (gva_cons (gv_cat (gv_lst (gva_cons (gv_cat (gv_var rfl t2') (gv_lst (gva_cons (gv_at (k := 0) (gv_var rfl t2') grr) gva_nil) (by simp only [List.length_cons, List.length_nil, List.length_append, List.length_map, List.length_take, List.length_drop, List.length_replicate]; omega)) (by rw [lt]; show n + 1 ≤ 2000; omega)) gva_nil) (by simp only [List.length_cons, List.length_nil, List.length_append, List.length_map, List.length_take, List.length_drop, List.length_replicate]; omega)) (gv_var rfl t3) (by simp only [List.length_cons, List.length_nil, List.length_append, List.length_map, List.length_take, List.length_drop, List.length_replicate]; omega)) gva_nil))))))) (by simp only [List.length_cons, List.length_nil, List.length_append, List.length_map, List.length_take, List.length_drop, List.length_replicate]; omega) H3 _ (Same.refl H3) fun m4 H4 s4 t4 => ?_
      have t4 := t4.mono (un_top (Same.refl H3) s4)
      have t2' := t2'.mono s4
      have t3 := t3.mono s4
      try dsimp only [tSeq, tAsg, gName]
      refine gv_cat (gv_var rfl t4) (gv_lst (gva_cons (gv_cat (gv_lst (gva_cons (gv_lc (f := cutD) (gv_var rfl t2') (by omega) (fun y => by rfl) (fun y dy G' sG mem ty => ?A)) gva_nil) (by simp only [List.length_cons, List.length_nil, List.length_append, List.length_map, List.length_take, List.length_drop, List.length_replicate]; omega)) (gv_var rfl t3) (by simp only [List.length_cons, List.length_nil, List.length_append, List.length_map, List.length_take, List.length_drop, List.length_replicate]; omega)) (gva_cons (gv_cat (gv_lst (gva_cons (gv_lc (f := moreD) (gv_var rfl t2') (by omega) (fun y => by rfl) (fun y dy G' sG mem ty => ?B)) gva_nil) (by simp only [List.length_cons, List.length_nil, List.length_append, List.length_map, List.length_take, List.length_drop, List.length_replicate]; omega)) (gv_var rfl t3) (by simp only [List.length_cons, List.length_nil, List.length_append, List.length_map, List.length_take, List.length_drop, List.length_replicate]; omega)) gva_nil)) (by simp only [List.length_cons, List.length_nil, List.length_append, List.length_map, List.length_take, List.length_drop, List.length_replicate]; omega)) (by simp only [List.length_cons, List.length_nil, List.length_append, List.length_map, List.length_take, List.length_drop, List.length_replicate]; omega) H4 _ (Same.refl H4) fun m5 H5 s5 t5 => ?C
      case A =>
        obtain ⟨row, hrow, rfl⟩ := List.mem_map.mp mem
        have lrow := st.2 row hrow
        exact gv_cut (ds := row.map .int) (gv_var rfl ty) (by simp only [List.length_cons, List.length_nil, List.length_append, List.length_map, List.length_take, List.length_drop, List.length_replicate]; omega)
      case B =>
        obtain ⟨row, hrow, rfl⟩ := List.mem_map.mp mem
        have lrow := st.2 row hrow
        exact gv_cat (ds := row.map .int) (gv_var rfl ty) (gv_lst (gva_cons (gv_c fun _ => .int 0) gva_nil) (by simp only [List.length_cons, List.length_nil, List.length_append, List.length_map, List.length_take, List.length_drop, List.length_replicate]; omega)) (by simp only [List.length_cons, List.length_nil, List.length_append, List.length_map, List.length_take, List.length_drop, List.length_replicate]; omega)
      have t5 := t5.mono (un_top (Same.refl H4) s5)
      have t2' := t2'.mono s5
      have t3 := t3.mono s5
      try dsimp only [tSeq, tAsg, gName]
      obtain ⟨rl, grl, lrl⟩ : ∃ rl, (t.map IL)[n - 1]? = some (IL rl) ∧ rl.length = n := by
        have : n - 1 < t.length := by omega
        exact ⟨t[n - 1], by rw [List.getElem?_map, List.getElem?_eq_getElem this]; rfl, st.2 _ (List.getElem_mem this)⟩
      have grl : (t.map IL)[n - 1]? = some (.list (rl.map PyData.int)) := grl
      refine gv_cat (gv_var rfl t5) (gv_lst (gva_cons (gv_cat (gv_lst (gva_cons (gv_cat (gv_cut (gv_var rfl t2') (by omega)) (gv_lst (gva_cons (gv_cat (gv_cut (gv_last (k := n - 1) (gv_var rfl t2') (by omega) grl) (by simp only [List.length_cons, List.length_nil, List.length_append, List.length_map, List.length_take, List.length_drop, List.length_replicate]; omega)) (gv_lst (gva_cons (gv_c fun _ => .bl true) gva_nil) (by simp only [List.length_cons, List.length_nil, List.length_append, List.length_map, List.length_take, List.length_drop, List.length_replicate]; omega)) (by simp only [List.length_cons, List.length_nil, List.length_append, List.length_map, List.length_take, List.length_drop, List.length_replicate]; omega)) gva_nil) (by simp only [List.length_cons, List.length_nil, List.length_append, List.length_map, List.length_take, List.length_drop, List.length_replicate]; omega)) (by simp only [List.length_cons, List.length_nil, List.length_append, List.length_map, List.length_take, List.length_drop, List.length_replicate]; omega)) gva_nil) (by simp only [List.length_cons, List.length_nil, List.length_append, List.length_map, List.length_take, List.length_drop, List.length_replicate]; omega)) (gv_var rfl t3) (by simp only [List.length_cons, List.length_nil, List.length_append, List.length_map, List.length_take, List.length_drop, List.length_replicate]; omega))
        (gva_cons (gv_cat (gv_lst (gva_cons (gv_cat (gv_cut (gv_var rfl t2') (by omega)) (gv_lst (gva_cons (gv_mul (gv_var rfl t2') rfl (by omega) (by omega)) gva_nil) (by simp only [List.length_cons, List.length_nil, List.length_append, List.length_map, List.length_take, List.length_drop, List.length_replicate]; omega)) (by simp only [List.length_cons, List.length_nil, List.length_append, List.length_map, List.length_take, List.length_drop, List.length_replicate]; omega)) gva_nil) (by simp only [List.length_cons, List.length_nil, List.length_append, List.length_map, List.length_take, List.length_drop, List.length_replicate]; omega)) (gv_var rfl t3) (by simp only [List.length_cons, List.length_nil, List.length_append, List.length_map, List.length_take, List.length_drop, List.length_replicate]; omega)) (gva_cons (gv_c fun _ => .str (z := "ab") (by decide +kernel)) gva_nil))) (by simp only [List.length_cons, List.length_nil, List.length_append, List.length_map, List.length_take, List.length_drop, List.length_replicate]; omega)) (by simp only [List.length_cons, List.length_nil, List.length_append, List.length_map, List.length_take, List.length_drop, List.length_replicate]; omega) H5 _ (Same.refl H5) fun m6 H6 s6 t6 => ?_
      have t6 := t6.mono (un_top (Same.refl H5) s6)
      try dsimp only [tSeq, tAsg, gName]
      refine pick (n := 12) rfl rfl t6 rfl hj fun v d hd tv => q v d H6 (s2.trans (s3.trans (s4.trans (s5.trans s6)))) tv ?_
      have lc0 : (t :: cr).length = cr.length + 1 := rfl
      have lcr : (cr.map TL').length = cr.length := List.length_map _
      simp only [List.cons_append, List.nil_append, List.mem_cons, List.not_mem_nil, or_false] at hd
      rcases hd with rfl | rfl | rfl | rfl | rfl | rfl | rfl | rfl | rfl | rfl | rfl | rfl
      · exact nc_len (by show ((0 : Nat) : Int) ≠ _; omega)
      · rfl
      · rfl
      · exact nc_len (by rw [List.length_cons, List.length_append, lcr]; show ((cr.length + 1 + 1 : Nat) : Int) ≠ _; omega)
      · exact nc_len (by rw [lcr]; omega)
      · exact nc_odd List.mem_cons_self (nt_len (by rw [List.length_take, lt]; omega))
      · exact nc_odd List.mem_cons_self (nt_len (by rw [List.length_append, lt]; show ((n + 1 : Nat) : Int) ≠ _; omega))
      · exact nc_odd List.mem_cons_self (nt_odd (List.mem_map.mpr ⟨_, List.mem_map.mpr ⟨r0, hr0, rfl⟩, rfl⟩) (ni_len (by rw [List.length_take, List.length_map]; omega)))
      · exact nc_odd List.mem_cons_self (nt_odd (List.mem_map.mpr ⟨_, List.mem_map.mpr ⟨r0, hr0, rfl⟩, rfl⟩) (ni_len (by rw [List.length_append, List.length_map]; show ((r0.length + 1 : Nat) : Int) ≠ _; omega)))
      · exact nc_odd List.mem_cons_self (nt_odd (List.mem_append_right _ List.mem_cons_self) (ni_odd (List.mem_append_right _ List.mem_cons_self) rfl))
      · exact nc_odd List.mem_cons_self (nt_odd (List.mem_append_right _ List.mem_cons_self) rfl)
      · rfl
end
end As

namespace Ow
open PySem PySem.Spec PyProof PyProof.Rows L2
theorem knownS {K : PySem.W.Frag} {z : Str} {H : Hp} (h : z.length ≤ sizeLine) : Known K H (.str z) := .inl ⟨z, rfl, h⟩
theorem all_ints : ∀ ns : List Int, (ns.map PyData.int).all isIntD = true
  | [] => rfl
  | n :: ns => by rw [List.map_cons, List.all_cons, all_ints ns]; rfl
theorem beg_IL {b : List Int} (h1 : 1 ≤ b.length) (h2 : b.length ≤ 1000) : begOk (IL b) := ⟨rfl, by show 1 ≤ (b.map PyData.int).length; rw [List.length_map]; exact h1, by show (b.map PyData.int).length ≤ 1000; rw [List.length_map]; exact h2, all_ints b⟩
theorem ints_IL {b : List Int} {n : Int} (h : (b.length : Int) = n) : intsD (IL b) n = true := by
  unfold intsD tupOfD
  show ((true && decide (((b.map PyData.int).length : Int) = n)) && (b.map PyData.int).all isIntD) = true
  rw [all_ints, List.length_map, decide_eq_true h]
  rfl
theorem tab_TL {t : List (List Int)} {n : Nat} (h : Sq n t) : tableD (TL' t) n = true := by
  unfold tableD tupOfD
  show ((true && decide (((t.map IL).length : Int) = n)) && (t.map IL).all (fun r => intsD r n)) = true
  rw [List.length_map, decide_eq_true (by rw [h.1]), Bool.true_and, Bool.true_and]
  refine List.all_eq_true.mpr fun r hr => ?_
  obtain ⟨row, hrow, rfl⟩ := List.mem_map.mp hr
  exact ints_IL (by rw [h.2 row hrow])
theorem tabs_CL {c : List (List (List Int))} {a n : Nat} (h : c.length = a) (hs : ∀ t ∈ c, Sq n t) : tablesD (CL c) a n = true := by
  unfold tablesD tupOfD
  show ((true && decide (((c.map TL').length : Int) = a)) && (c.map TL').all (fun r => tableD r n)) = true
  rw [List.length_map, decide_eq_true (by rw [h]), Bool.true_and, Bool.true_and]
  refine List.all_eq_true.mpr fun r hr => ?_
  obtain ⟨t, ht, rfl⟩ := List.mem_map.mp hr
  exact tab_TL (hs t ht)
def spRefused : Sp := fun vs H Q _ => ∃ (p : Addr) (x : V) (n : Nat) (z : Str) (b e : List Int) (c : List (List (List Int))), vs = [.ref p, x] ∧ Src H p ∧ Th (wo H p) x (WD z b c e) ∧ Gw n z b c e ∧ n ≤ 100 ∧ 1 ≤ z.length ∧ asksV (.str z) = true ∧ Bd 100000000000000000 b ∧ ∀ H', But p H H' → Q (.bl true) H'
end Ow
namespace As
open PySem PySem.Spec PyProof PyProof.Rows L2 Ow
section
variable {P : Program} {w : World} {K : PySem.W.Frag} {mg : Str → Option Value} {base : Heap} {A : Ad}
abbrev N__law_refused : List Str := ["_law_source_here", "_law_world_here", "_law_asks_here", "_law_begins", "_law_costs", "_law_ends", "_law_turn", "_law_wrong"]
theorem sc__law_refused : FnScope N__law_refused ["_law_source_here", "_law_world_here"] (defScope s__law_refused) := ⟨rfl, rfl, rfl, by decide +kernel, rfl, by decide +kernel, by decide +kernel⟩
theorem ok_refused {fd : FuncData} {g : List Code} (F : Fun K "_law_refused" "_law_refused" s__law_refused A.f__law_refused fd) (T : Tx K mg A) (KDraw : Kp P w K mg base CX0 1 A.f__law_draw ["_law_source_here", "_law_many"] spDraw)
    (KA : Kp P w K mg base CX0 1 A.f__law_bad_asks ["_law_number"] (spBadAsks K)) (KL : Kp P w K mg base CX0 1 A.f__law_bad_line ["_law_number", "_law_line"] spBadLine) (KC : Kp P w K mg base CX0 1 A.f__law_bad_costs ["_law_number", "_law_costs"] spBadCosts)
    (KE : Kp P w K mg base CX0 1 A.f__law_bad_ends ["_law_number", "_law_line"] spBadEnds)
    (KP : ∀ g, ∃ fd, FnG P w K mg base 8 A.f__law_part fd ["_law_asks_here", "_law_begins", "_law_costs", "_law_ends"] (spPart K g) g ∧ Binds K fd ["_law_asks_here", "_law_begins", "_law_costs", "_law_ends"] [] ∧ PySem.W.keepIn K (.ref A.f__law_part) = true) :
    FnG P w K mg base 9 A.f__law_refused fd ["_law_source_here", "_law_world_here"] spRefused g := by
  obtain ⟨fd1, G__law_draw, b__law_draw, k__law_draw⟩ := KDraw
  obtain ⟨fd2, G__law_bad_asks, b__law_bad_asks, k__law_bad_asks⟩ := KA
  obtain ⟨fd3, G__law_bad_line, b__law_bad_line, k__law_bad_line⟩ := KL
  obtain ⟨fd4, G__law_bad_costs, b__law_bad_costs, k__law_bad_costs⟩ := KC
  obtain ⟨fd5, G__law_bad_ends, b__law_bad_ends, k__law_bad_ends⟩ := KE
  obtain ⟨fd6, G__law_part, b__law_part, k__law_part⟩ := KP g
  have nd := sc__law_refused.nd
  refine okG F sc__law_refused (fun vs H Q E h => ?_) (fun cdv A' outer s H vs Q E hgd hr h => ?_)
  · obtain ⟨p, x, n, z, b, e, c, rfl, _⟩ := h
    rfl
  · obtain ⟨p, x, n, z, b, e, c, rfl, hp, hx, gw, n100, z1, az, bd, q⟩ := h
    refine ⟨_, (pss_cons (ps_asg (pv 1) (pg_lst (by rfl) (pgs_cons (pg_name (i := 2) nd rfl (by first | exact Or.inl rfl | exact Or.inr rfl)) (pgs_cons (pg_name (i := 3) nd rfl (by first | exact Or.inl rfl | exact Or.inr rfl)) (pgs_cons (pg_name (i := 4) nd rfl (by first | exact Or.inl rfl | exact Or.inr rfl)) (pgs_cons (pg_name (i := 5) nd rfl (by first | exact Or.inl rfl | exact Or.inr rfl)) pgs_nil))))))
  (pss_cons (ps_for PassesOwn.never rfl (pi_range1 (by rfl) T.nrange (pa_cons pe_int pa_nil)) (pg_name (i := 6) nd rfl (by first | exact Or.inl rfl | exact Or.inr rfl)) (pss_cons (ps_set (i := 7) nd rfl (by first | exact Or.inl rfl | exact Or.inr rfl) (pe_call G__law_bad_asks (hr.mono (by omega)) rfl T.m_law_bad_asks k__law_bad_asks b__law_bad_asks .nil pass0 (pa_cons (pe_call G__law_draw (hr.mono (by omega)) rfl T.m_law_draw k__law_draw b__law_draw .nil pass0 (pa_cons (pv 0) (pa_cons pe_int pa_nil))) pa_nil)))
  (pss_cons (ps_if (pt_cmpR op_ne (pe_callG G__law_part hgd (hr.mono (by omega)) rfl T.m_law_part k__law_part b__law_part (pa_cons (pv 7) (pa_cons (pe_lst pa_nil) (pa_cons pe_non (pa_cons pe_int pa_nil))))) pe_str (nomark _)) (pss_one (ps_ret pe_bl)) pss_nil)
  (pss_cons (ps_if (pt_cmpR op_ne (pe_callG G__law_part hgd (hr.mono (by omega)) rfl T.m_law_part k__law_part b__law_part (pa_cons (pv 2) (pa_cons (pe_call G__law_bad_line (hr.mono (by omega)) rfl T.m_law_bad_line k__law_bad_line b__law_bad_line .nil pass0 (pa_cons (pe_call G__law_draw (hr.mono (by omega)) rfl T.m_law_draw k__law_draw b__law_draw .nil pass0 (pa_cons (pv 0) (pa_cons pe_int pa_nil))) (pa_cons (pv 3) pa_nil))) (pa_cons pe_non (pa_cons pe_non pa_nil))))) pe_str (nomark _)) (pss_one (ps_ret pe_bl)) pss_nil)
  (pss_cons (ps_if (pt_cmpR op_ne (pe_callG G__law_part hgd (hr.mono (by omega)) rfl T.m_law_part k__law_part b__law_part (pa_cons (pv 2) (pa_cons (pv 3) (pa_cons (pe_call G__law_bad_costs (hr.mono (by omega)) rfl T.m_law_bad_costs k__law_bad_costs b__law_bad_costs .nil pass0 (pa_cons (pe_call G__law_draw (hr.mono (by omega)) rfl T.m_law_draw k__law_draw b__law_draw .nil pass0 (pa_cons (pv 0) (pa_cons pe_int pa_nil))) (pa_cons (pv 4) pa_nil))) (pa_cons pe_str pa_nil))))) pe_str (nomark _)) (pss_one (ps_ret pe_bl)) pss_nil)
  (pss_one (ps_if (pt_cmpR op_ne (pe_callG G__law_part hgd (hr.mono (by omega)) rfl T.m_law_part k__law_part b__law_part (pa_cons (pv 2) (pa_cons (pv 3) (pa_cons (pv 4) (pa_cons (pe_call G__law_bad_ends (hr.mono (by omega)) rfl T.m_law_bad_ends k__law_bad_ends b__law_bad_ends .nil pass0 (pa_cons (pe_call G__law_draw (hr.mono (by omega)) rfl T.m_law_draw k__law_draw b__law_draw .nil pass0 (pa_cons (pv 0) (pa_cons pe_int pa_nil))) (pa_cons (pv 5) pa_nil))) pa_nil))))) pe_str (nomark _)) (pss_one (ps_ret pe_bl)) pss_nil)))))))
  (pss_cons (ps_if (pt_cmpR op_ne (pe_callG G__law_part hgd (hr.mono (by omega)) rfl T.m_law_part k__law_part b__law_part (pa_cons (pv 2) (pa_cons (pe_op op_rep (pe_lst (pa_cons pe_int pa_nil)) pe_int) (pa_cons (pv 4) (pa_cons (pv 5) pa_nil))))) pe_str (nomark _)) (pss_one (ps_ret pe_bl)) pss_nil)
  (pss_one (ps_ret (pe_cmpR op_eq (pe_callG G__law_part hgd (hr.mono (by omega)) rfl T.m_law_part k__law_part b__law_part (pa_cons (pv 2) (pa_cons (pe_op op_rep (pe_lst (pa_cons pe_int pa_nil)) pe_int) (pa_cons (pe_lst pa_nil) (pa_cons (pv 5) pa_nil))))) pe_str (nomark _))))))), ?_⟩
    obtain ⟨lw, vb, vc, ve, rfl, hw, zl, tb, tc, te⟩ := hx.wd
    obtain ⟨kb, rfl, hb⟩ := tb.il
    obtain ⟨ke, rfl, he⟩ := te.il
    have gn1 := gw.n1
    have gb := gw.lb
    have ge := gw.le
    have gc := gw.lc
    have gz := gw.zl
    have ib : (itemsD (IL b)).length = n := by show (b.map PyData.int).length = n; rw [List.length_map]; exact gb
    have okb : begOk (IL b) := beg_IL (by omega) (by omega)
    have okc : tablesD (CL c) z.length (itemsD (IL b)).length = true := by rw [ib]; exact tabs_CL gc gw.lt
    refine ⟨_, rfl, lw, _, rfl, SqL.of (wo_sub _ _ hw), rfl, ?_⟩
    refine ⟨_, _, rfl, _, _, rfl, _, _, rfl, _, _, rfl, rfl, ?_⟩
    refine ⟨2, rfl, by decide, by decide, for_range (lo := 0) (n := (2 : Int).toNat) (fun i σ H' => (∃ o6 o7, σ = [some (V.ref p), some (V.ref lw), some (V.str z), some (.ref kb), some vc, some (.ref ke), o6, o7]) ∧ Src H' p ∧ But p H H') ⟨⟨_, _, rfl⟩, hp, But.of (Same.refl H)⟩ ?_ ?_⟩
    · rintro i σ H1 hi ⟨⟨o6, o7, rfl⟩, g1, b1⟩
      refine ⟨_, rfl, p, 15, rfl, g1, by decide, by decide, fun d2 H2 e20 e21 g2 b2 => ?_⟩
      obtain ⟨j2, rfl⟩ : ∃ j : Nat, d2 = (j : Int) := ⟨d2.toNat, by omega⟩
      refine ⟨j2, rfl, by omega, fun v f H3 s3 kn no rp => ?_⟩
      refine ⟨_, rfl, (by show 0 ≤ sizeLine; decide), fun l hl => ?_⟩
      have s4 := same_new (o := .lst []) hl
      refine ⟨v, .ref l, .non, .int 5, .list [], .none, .int 5, rfl, kn.mono s4, .lst upd_same (Nat.zero_le _) .nil, .non, .int 5, .inl ⟨f, no, rp.mono s4, fun H4 s4' => ⟨rfl, _, rfl, iteNS rfl ?_⟩⟩⟩
      have g4 : Src H4 p := (g2.same (s3.trans (s4.trans s4')))
      have b4 : But p H H4 := (b1.trans b2).trans (But.of (s3.trans (s4.trans s4')))
      clear s4' s4 hl
      have hb4 := wo_sub _ _ (wo_but b4 _ _ hb)
      refine ⟨_, rfl, _, rfl, p, 10, rfl, g4, by decide, by decide, fun d5 H5 e50 e51 g5 b5 => ?_⟩
      obtain ⟨j5, rfl⟩ : ∃ j : Nat, d5 = (j : Int) := ⟨d5.toNat, by omega⟩
      have b05 := b4.trans b5
      refine ⟨_, rfl, j5, kb, b, rfl, by omega, wo_sub _ _ (wo_but b05 _ _ hb), by omega, by omega, bd, fun v6 d6 H6 s6 t6 nb6 => ?_⟩
      refine ⟨.str z, v6, .non, .non, d6, .none, .none, rfl, knownS zl, t6, .non, .non, .inr ⟨z, rfl, az, .inl ⟨nb6, fun H7 s7 => ⟨rfl, _, rfl, iteNS rfl ?_⟩⟩⟩⟩
      have b07 := b05.trans (But.of (s6.trans s7))
      have g7 := g5.same (s6.trans s7)
      refine ⟨_, rfl, _, rfl, _, rfl, p, 12, rfl, g7, by decide, by decide, fun d8 H8 e80 e81 g8 b8 => ?_⟩
      obtain ⟨j8, rfl⟩ : ∃ j : Nat, d8 = (j : Int) := ⟨d8.toNat, by omega⟩
      have b08 := b07.trans b8
      refine ⟨_, rfl, j8, vc, n, c, rfl, by omega, (tc.mono (wo_but b08)).mono wo_sub, by omega, by omega, gn1, n100, gw.lt, fun v9 d9 H9 s9 t9 nt9 => ?_⟩
      have b09 := b08.trans (But.of s9)
      refine ⟨.str z, .ref kb, v9, .str "", IL b, d9, .str "", rfl, knownS zl, (tb.mono (wo_but b09)).mono wo_sub, t9, .str (by decide +kernel), .inr ⟨z, rfl, az, .inr (.inl ⟨okb, (by rw [ib, ← gc]; exact nt9), fun H10 s10 => ⟨rfl, _, rfl, iteNS rfl ?_⟩⟩)⟩⟩
      have b010 := b09.trans (But.of s10)
      have g10 := g8.same (s9.trans s10)
      refine ⟨_, rfl, _, rfl, _, rfl, _, rfl, p, 8, rfl, g10, by decide, by decide, fun d11 H11 e110 e111 g11 b11 => ?_⟩
      obtain ⟨j11, rfl⟩ : ∃ j : Nat, d11 = (j : Int) := ⟨d11.toNat, by omega⟩
      have b011 := b010.trans b11
      refine ⟨_, rfl, j11, ke, e, rfl, by omega, wo_sub _ _ (wo_but b011 _ _ he), by omega, by omega, fun v12 d12 H12 s12 t12 ni12 => ?_⟩
      have b012 := b011.trans (But.of s12)
      refine ⟨.str z, .ref kb, vc, v12, IL b, CL c, d12, rfl, knownS zl, (tb.mono (wo_but b012)).mono wo_sub, (tc.mono (wo_but b012)).mono wo_sub, t12, .inr ⟨z, rfl, az, .inr (.inr ⟨okb, okc, (by rw [ib, ← ge]; exact ni12), fun H13 s13 => ⟨rfl, _, rfl, iteNS rfl ?_⟩⟩)⟩⟩
      exact ⟨⟨_, _, rfl⟩, g11.same (s12.trans s13), b012.trans (But.of s13)⟩
    · rintro σ H1 ⟨⟨o6, o7, rfl⟩, g1, b1⟩
      refine ⟨_, rfl, (by show 1 ≤ sizeLine; decide), fun l1 hl1 => ?_⟩
      refine ⟨l1, 1001, _, rfl, rfl, upd_same, by decide, by decide, (by show 1 * 1001 ≤ sizeLine; decide), fun l2 hl2 => ?_⟩
      rw [show (List.replicate (1001 : Int).toNat [V.int 0]).flatten = (List.replicate 1001 (0 : Int)).map V.int from by simp]
      have s2 := (same_new (o := .lst [.int 0]) hl1).trans (same_new (o := .lst ((List.replicate 1001 (0 : Int)).map V.int)) hl2)
      have e2 : (upd (upd H1 l1 (.lst [.int 0])) l2 (.lst ((List.replicate 1001 (0 : Int)).map V.int))) l2 = some (.lst ((List.replicate 1001 (0 : Int)).map V.int)) := upd_same
      generalize upd (upd H1 l1 (.lst [.int 0])) l2 (.lst ((List.replicate 1001 (0 : Int)).map V.int)) = H2 at s2 e2 ⊢
      have b2 := b1.trans (But.of s2)
      refine ⟨_, rfl, _, rfl, .str z, .ref l2, vc, .ref ke, IL (List.replicate 1001 0), CL c, IL e, rfl, knownS zl, il_th e2 (by rw [List.length_replicate]; decide), (tc.mono (wo_but b2)).mono wo_sub, (te.mono (wo_but b2)).mono wo_sub, .inr ⟨z, rfl, az, .inl ⟨fun bo => ?_, fun H3 s3 => ⟨rfl, _, rfl, iteNS rfl ?_⟩⟩⟩⟩
      · have := bo.2.2.1
        have e : (itemsD (IL (List.replicate 1001 0))).length = 1001 := by show ((List.replicate 1001 (0 : Int)).map PyData.int).length = 1001; rw [List.length_map, List.length_replicate]
        omega
      · refine ⟨_, rfl, (by show 1 ≤ sizeLine; decide), fun l3 hl3 => ?_⟩
        refine ⟨l3, 1000, _, rfl, rfl, upd_same, by decide, by decide, (by show 1 * 1000 ≤ sizeLine; decide), fun l4 hl4 => ?_⟩
        rw [show (List.replicate (1000 : Int).toNat [V.int 0]).flatten = (List.replicate 1000 (0 : Int)).map V.int from by simp]
        have s4 := (same_new (o := .lst [.int 0]) hl3).trans (same_new (o := .lst ((List.replicate 1000 (0 : Int)).map V.int)) hl4)
        have e4 : (upd (upd H3 l3 (.lst [.int 0])) l4 (.lst ((List.replicate 1000 (0 : Int)).map V.int))) l4 = some (.lst ((List.replicate 1000 (0 : Int)).map V.int)) := upd_same
        generalize upd (upd H3 l3 (.lst [.int 0])) l4 (.lst ((List.replicate 1000 (0 : Int)).map V.int)) = H4 at s4 e4 ⊢
        refine ⟨(by show 0 ≤ sizeLine; decide), fun l5 hl5 => ?_⟩
        have s5 := same_new (o := .lst []) hl5
        have b5 := b2.trans (But.of (s3.trans (s4.trans s5)))
        have it : (itemsD (IL (List.replicate 1000 0))).length = 1000 := by show ((List.replicate 1000 (0 : Int)).map PyData.int).length = 1000; rw [List.length_map, List.length_replicate]
        refine ⟨_, rfl, .str z, .ref l4, .ref l5, .ref ke, IL (List.replicate 1000 0), .list [], IL e, rfl, knownS zl, il_th (s5 _ _ e4) (by rw [List.length_replicate]; decide), .lst upd_same (Nat.zero_le _) .nil, (te.mono (wo_but b5)).mono wo_sub, .inr ⟨z, rfl, az, .inr (.inl ⟨beg_IL (by rw [List.length_replicate]; decide) (by rw [List.length_replicate]; decide), nc_len (by show ((0 : Nat) : Int) ≠ _; omega), fun H6 s6 => ⟨rfl, ?_⟩⟩)⟩⟩
        show Q (.bl (decide (V.str "costs" = V.str "costs"))) H6
        rw [decide_eq_true rfl]
        exact q H6 (b5.trans (But.of s6))
end
end As

namespace Ow
open PySem PySem.Spec PyProof PyProof.Rows L2 As
def endsOk (z : Str) : Bool := match z.cps.toList[0]?, z.cps.toList[z.length - 1]? with
  | some a, some b => askB z (.str ⟨#[a]⟩) && askB z (.str ⟨#[b]⟩) && decide ((reprText ⟨#[a]⟩).length ≤ 100) && decide ((listText [reprText ⟨#[a]⟩]).length ≤ 100)
  | _, _ => false
theorem menu_ends : ∀ z ∈ menuA, endsOk z = true ∧ askB z (.str "") = false ∧ askB z (.str "g") = false ∧ askB z (.str "A") = false ∧ askB z (.str (z ++ z)) = false ∧ (reprText (z ++ z)).length ≤ 100 ∧ z.length ≤ 4 ∧ 1 ≤ z.length ∧ (z ++ z).length ≤ 100 := by decide +kernel
theorem belowD_int (n i : Int) : belowD n (.int i) = (decide (0 ≤ i) && decide (i < n)) := rfl
/-- a thing, what repr tells of it is short -/
def Rs (H : Hp) (v : V) (f : List Code → Str) : Prop := RepI2 H v f ∧ ∀ g, (f g).length ≤ 100000
theorem Rs.mono {H H' : Hp} {v : V} {f : List Code → Str} (e : Same H H') (h : Rs H v f) : Rs H' v f := ⟨h.1.mono e, h.2⟩
theorem rs_str {H : Hp} {z : Str} (h : (reprText z).length ≤ 100) : Rs H (.str z) fun _ => reprText z := ⟨.base (.str (Nat.le_trans h (by decide))), fun _ => Nat.le_trans h (by decide)⟩
theorem rs_int {H : Hp} {i : Int} (h : -100000000000000000 ≤ i ∧ i ≤ 100000000000000000) : Rs H (.int i) fun _ => toString i := ⟨.base (.int (log_small h)), fun _ => Nat.le_trans (int_text_len_1921 (log_small h)) (by decide)⟩
theorem rs_bl {H : Hp} {b : Bool} : Rs H (.bl b) fun _ => if b then "True" else "False" := ⟨.base .bl, fun _ => by cases b with | true => exact (by decide +kernel : (Str.ofString "True").length ≤ 100000) | false => exact (by decide +kernel : (Str.ofString "False").length ≤ 100000)⟩
theorem rs_non {H : Hp} : Rs H .non fun _ => "None" := ⟨.base .non, fun _ => (by decide +kernel : (Str.ofString "None").length ≤ 100000)⟩
def spPriceR (C : Addr) : Sp := fun vs H Q _ => ∃ (p s : Addr) (x : V) (n : Nat) (z : Str) (b e : List Int) (c : List (List (List Int))), vs = [.ref p, .ref s, x] ∧ Src H p ∧ IsS C H s z b c e ∧ Th (wo H p) x (WD z b c e) ∧ Gw n z b c e ∧ n ≤ 100 ∧ z ∈ menuA ∧ ∀ H', Q (.bl true) H'
end Ow
namespace As
open PySem PySem.Spec PyProof PyProof.Rows L2 Ow
section
variable {P : Program} {w : World} {K : PySem.W.Frag} {mg : Str → Option Value} {base : Heap} {A : Ad}
abbrev N__law_price_refused : List Str := ["_law_source_here", "_law_store", "_law_world_here", "_law_asks_here", "_law_many", "_law_bad", "_law_odd"]
theorem sc__law_price_refused : FnScope N__law_price_refused ["_law_source_here", "_law_store", "_law_world_here"] (defScope s__law_price_refused) := ⟨rfl, rfl, rfl, by decide +kernel, rfl, by decide +kernel, by decide +kernel⟩
theorem ok_pricer {fd : FuncData} {g : List Code} (F : Fun K "_law_price_refused" "_law_price_refused" s__law_price_refused A.f__law_price_refused fd) (T : Tx K mg A) (KDraw : Kp P w K mg base CX0 1 A.f__law_draw ["_law_source_here", "_law_many"] spDraw)
    (KP : ∀ g, ∃ fd, FnG P w K mg base 6 A.f__law_price_error fd ["_law_store", "_law_ask", "_law_one", "_law_other_here"] (spPriceE K A.c_Store g) g ∧ Binds K fd ["_law_store", "_law_ask", "_law_one", "_law_other_here"] [] ∧ PySem.W.keepIn K (.ref A.f__law_price_error) = true) :
    FnG P w K mg base 7 A.f__law_price_refused fd ["_law_source_here", "_law_store", "_law_world_here"] (spPriceR A.c_Store) g := by
  obtain ⟨fd1, G__law_draw, b__law_draw, k__law_draw⟩ := KDraw
  obtain ⟨fd6, G__law_price_error, b__law_price_error, k__law_price_error⟩ := KP g
  have nd := sc__law_price_refused.nd
  refine okG F sc__law_price_refused (fun vs H Q E h => ?_) (fun cdv A' outer s H vs Q E hgd hr h => ?_)
  · obtain ⟨p, st, x, n, z, b, e, c, rfl, _⟩ := h
    rfl
  · obtain ⟨p, st, x, n, z, b, e, c, rfl, hp, is, hx, gw, n100, mem, q⟩ := h
    refine ⟨_, (pss_cons (ps_set (i := 3) nd rfl (by first | exact Or.inl rfl | exact Or.inr rfl) (pe_ix ix_list (pv 2) pe_int (fun _ _ => rfl)))
  (pss_cons (ps_set (i := 4) nd rfl (by first | exact Or.inl rfl | exact Or.inr rfl) (pe_callB call_len (by rfl) T.nlen (by decide +kernel) (pa_cons (pe_ix ix_list (pv 2) pe_int (fun _ _ => rfl)) pa_nil)))
  (pss_cons (ps_set (i := 5) nd rfl (by first | exact Or.inl rfl | exact Or.inr rfl) (pe_ix ix_list (pe_lst (pa_cons pe_str (pa_cons pe_str (pa_cons pe_str (pa_cons (pe_op op_add_str (pv 3) (pv 3)) (pa_cons pe_int (pa_cons pe_non (pa_cons (pe_lst (pa_cons (pe_ix ix_str (pv 3) pe_int (fun _ _ => rfl)) pa_nil)) (pa_cons pe_bl pa_nil))))))))) (pe_call G__law_draw (hr.mono (by omega)) rfl T.m_law_draw k__law_draw b__law_draw .nil pass0 (pa_cons (pv 0) (pa_cons pe_int pa_nil))) (fun _ _ => rfl)))
  (pss_cons (ps_set (i := 6) nd rfl (by first | exact Or.inl rfl | exact Or.inr rfl) (pe_ix ix_list (pe_lst (pa_cons (pe_un un_neg pe_int) (pa_cons (pv 4) (pa_cons pe_bl (pa_cons pe_non (pa_cons pe_str (pa_cons (pe_lst (pa_cons pe_int pa_nil)) (pa_cons (pe_op op_add (pv 4) (pe_op op_pow pe_int pe_int)) pa_nil)))))))) (pe_call G__law_draw (hr.mono (by omega)) rfl T.m_law_draw k__law_draw b__law_draw .nil pass0 (pa_cons (pv 0) (pa_cons pe_int pa_nil))) (fun _ _ => rfl)))
  (pss_cons (ps_if (pt_cmpR op_ne (pe_callG G__law_price_error hgd (hr.mono (by omega)) rfl T.m_law_price_error k__law_price_error b__law_price_error (pa_cons (pv 1) (pa_cons (pv 5) (pa_cons (pv 6) (pa_cons (pv 6) pa_nil))))) (pe_op op_add_str pe_str (pe_callB (call_rep2 hgd hr.units) (by rfl) T.nrepr (by decide +kernel) (pa_cons (pv 5) pa_nil))) (nomark _)) (pss_one (ps_ret pe_bl)) pss_nil)
  (pss_cons (ps_if (pt_cmpR op_ne (pe_callG G__law_price_error hgd (hr.mono (by omega)) rfl T.m_law_price_error k__law_price_error b__law_price_error (pa_cons (pv 1) (pa_cons (pe_ix ix_str (pv 3) (pe_un un_neg pe_int) (fun _ _ => rfl)) (pa_cons (pv 6) (pa_cons (pe_un un_neg pe_int) pa_nil))))) (pe_op op_add_str pe_str (pe_callB (call_rep2 hgd hr.units) (by rfl) T.nrepr (by decide +kernel) (pa_cons (pv 6) pa_nil))) (nomark _)) (pss_one (ps_ret pe_bl)) pss_nil)
  (pss_one (ps_ret (pe_cmpR op_eq (pe_callG G__law_price_error hgd (hr.mono (by omega)) rfl T.m_law_price_error k__law_price_error b__law_price_error (pa_cons (pv 1) (pa_cons (pe_ix ix_str (pv 3) pe_int (fun _ _ => rfl)) (pa_cons (pe_op op_sub (pv 4) pe_int) (pa_cons (pv 6) pa_nil))))) (pe_op op_add_str pe_str (pe_callB (call_rep2 hgd hr.units) (by rfl) T.nrepr (by decide +kernel) (pa_cons (pv 6) pa_nil))) (nomark _)))))))))), ?_⟩
    obtain ⟨eo, a0, a1, a2, a3, r0, z4, z1, zz⟩ := menu_ends z mem
    obtain ⟨lw, vb, vc, ve, rfl, hw, zl, tb, tc, te⟩ := (hx.mono wo_sub).wd
    obtain ⟨kb, rfl, hb⟩ := tb.il
    have gb := gw.lb
    have gn1 := gw.n1
    obtain ⟨ca, cb, eca, ecb, ya, yb, ra, rl⟩ : ∃ ca cb, z.cps.toList[0]? = some ca ∧ z.cps.toList[z.length - 1]? = some cb ∧ askB z (.str ⟨#[ca]⟩) = true ∧ askB z (.str ⟨#[cb]⟩) = true ∧ (reprText ⟨#[ca]⟩).length ≤ 100 ∧ (listText [reprText ⟨#[ca]⟩]).length ≤ 100 := by
      unfold endsOk at eo
      cases e1 : z.cps.toList[0]? with
      | none => rw [e1] at eo; cases eo
      | some ca =>
        cases e2 : z.cps.toList[z.length - 1]? with
        | none => rw [e1, e2] at eo; cases eo
        | some cb =>
          rw [e1, e2] at eo
          simp only [Bool.and_eq_true, decide_eq_true_eq] at eo
          exact ⟨ca, cb, rfl, rfl, eo.1.1.1, eo.1.1.2, eo.1.2, eo.2⟩
    refine ⟨_, rfl, lw, _, 0, .str z, rfl, rfl, SqL.of hw, atI_nat (j := 0) rfl, ?_⟩
    refine ⟨_, rfl, lw, _, 1, .ref kb, rfl, rfl, SqL.of hw, atI_nat (j := 1) rfl, .ref kb, b.length, rfl, .inl ⟨_, SqL.of hb, by rw [List.length_map]⟩, ?_⟩
    -- the bad ask
    refine ⟨_, rfl, _, rfl, z, z, rfl, rfl, (by show z.length + z.length ≤ sizeLine; exact Nat.le_trans (show z.length + z.length ≤ 8 by omega) (by decide)), _, rfl, z, 0, ca, rfl, rfl, zl, atI_nat (j := 0) eca, (by show 1 ≤ sizeLine; decide), fun l1 h1 => ?_⟩
    have s1 := same_new (o := .lst [.str ⟨#[ca]⟩]) h1
    have e1 : (upd H l1 (.lst [.str ⟨#[ca]⟩])) l1 = some (.lst [.str ⟨#[ca]⟩]) := upd_same
    have f1 : H l1 = none := h1
    generalize upd H l1 (.lst [.str ⟨#[ca]⟩]) = H1 at s1 e1 ⊢
    refine ⟨(by show 8 ≤ sizeLine; decide), fun m hm => ?_⟩
    have s2 := same_new (o := .lst [.str "", .str "g", .str "A", .str (z ++ z), .int 0, .non, .ref l1, .bl true]) hm
    have e2 : (upd H1 m (.lst [.str "", .str "g", .str "A", .str (z ++ z), .int 0, .non, .ref l1, .bl true])) m = some (.lst [.str "", .str "g", .str "A", .str (z ++ z), .int 0, .non, .ref l1, .bl true]) := upd_same
    have f2 : H m = none := s1.free hm
    show tCall spDraw _ _ _ _ (upd H1 m (.lst [.str "", .str "g", .str "A", .str (z ++ z), .int 0, .non, .ref l1, .bl true])) _
    generalize upd H1 m (.lst [.str "", .str "g", .str "A", .str (z ++ z), .int 0, .non, .ref l1, .bl true]) = H2 at s2 e2 ⊢
    have s02 := s1.trans s2
    obtain ⟨po, hpo⟩ := hp.some
    refine ⟨_, rfl, p, 8, rfl, hp.same s02, by decide, by decide, fun d H3 d0 d1 g3 b3 => ?_⟩
    obtain ⟨j, rfl⟩ : ∃ j : Nat, d = (j : Int) := ⟨d.toNat, by omega⟩
    have e13 := b3 _ _ (s2 _ _ e1) (ne_of_none hpo f1).symm
    have e23 := b3 _ _ e2 (ne_of_none hpo f2).symm
    have b03 : But p H H3 := (But.of s02).trans b3
    have all : ∀ H3 : Hp, H3 l1 = some (.lst [.str ⟨#[ca]⟩]) → ∀ v ∈ [V.str "", .str "g", .str "A", .str (z ++ z), .int 0, .non, .ref l1, .bl true], ∃ f, Known K H3 v ∧ askB z v = false ∧ Rs H3 v f := by
      intro H3 e13 v hv
      simp only [List.mem_cons, List.not_mem_nil, or_false] at hv
      rcases hv with rfl | rfl | rfl | rfl | rfl | rfl | rfl | rfl
      · exact ⟨_, knownS (by decide +kernel), a0, rs_str (by decide +kernel)⟩
      · exact ⟨_, knownS (by decide +kernel), a1, rs_str (by decide +kernel)⟩
      · exact ⟨_, knownS (by decide +kernel), a2, rs_str (by decide +kernel)⟩
      · exact ⟨_, knownS (Nat.le_trans zz (by decide)), a3, rs_str r0⟩
      · exact ⟨_, .inr ⟨nofun, _, (Th.int 0 : Th H3 _ _).ty, kit_ty rfl⟩, rfl, rs_int (by decide)⟩
      · exact ⟨_, .inr ⟨nofun, _, (Th.non : Th H3 _ _).ty, kit_ty rfl⟩, rfl, rs_non⟩
      · refine ⟨_, .inr ⟨nofun, _, (Th.lst e13 (by show 1 ≤ sizeLine; decide) (.cons (.str (z := ⟨#[ca]⟩) (by show 1 ≤ sizeLine; decide)) .nil) : Th H3 _ _).ty, kit_ty rfl⟩, rfl, .base (.lst e13 (Nat.le_trans rl (by decide)) (Nat.le_trans ra (by decide))), fun g => ?_⟩
        split
        · decide +kernel
        · exact Nat.le_trans rl (by decide)
      · exact ⟨_, .inr ⟨nofun, _, (Th.bl true : Th H3 _ _).ty, kit_ty rfl⟩, rfl, rs_bl⟩
    have hj : j < [V.str "", .str "g", .str "A", .str (z ++ z), .int 0, .non, .ref l1, .bl true].length := by show j < 8; omega
    have allj := fun H' h => all H' h _ (List.getElem_mem hj)
    refine ⟨m, _, _, _, rfl, rfl, SqL.of e23, atI_nat (List.getElem?_eq_getElem hj), ?_⟩
    generalize [V.str "", .str "g", .str "A", .str (z ++ z), .int 0, .non, .ref l1, .bl true][j] = bad at allj ⊢
    -- the odd state
    refine ⟨1, rfl, _, rfl, (by show 1 ≤ sizeLine; decide), fun l3 h3 => ?_⟩
    have s4 := same_new (o := .lst [.int 0]) h3
    have e4 : (upd H3 l3 (.lst [.int 0])) l3 = some (.lst [.int 0]) := upd_same
    have f4 : H3 l3 = none := h3
    generalize upd H3 l3 (.lst [.int 0]) = H4 at s4 e4 ⊢
    refine ⟨_, rfl, _, _, rfl, rfl, ⟨by decide, by decide, by decide⟩, _, _, rfl, rfl, (by show 7 ≤ sizeLine; decide), fun m2 hm2 => ?_⟩
    have s5 := same_new (o := .lst [.int (-1), .int (b.length : Int), .bl true, .non, .str "0", .ref l3, .int ((b.length : Int) + 10 ^ (9 : Int).toNat)]) hm2
    have e5 : (upd H4 m2 (.lst [.int (-1), .int (b.length : Int), .bl true, .non, .str "0", .ref l3, .int ((b.length : Int) + 10 ^ (9 : Int).toNat)])) m2 = some (.lst [.int (-1), .int (b.length : Int), .bl true, .non, .str "0", .ref l3, .int ((b.length : Int) + 10 ^ (9 : Int).toNat)]) := upd_same
    have f5 : H3 m2 = none := s4.free hm2
    show tCall spDraw _ _ _ _ (upd H4 m2 (.lst [.int (-1), .int (b.length : Int), .bl true, .non, .str "0", .ref l3, .int ((b.length : Int) + 10 ^ (9 : Int).toNat)])) _
    generalize upd H4 m2 (.lst [.int (-1), .int (b.length : Int), .bl true, .non, .str "0", .ref l3, .int ((b.length : Int) + 10 ^ (9 : Int).toNat)]) = H5 at s5 e5 ⊢
    have s35 := s4.trans s5
    obtain ⟨po3, hpo3⟩ := g3.some
    refine ⟨_, rfl, p, 7, rfl, g3.same s35, by decide, by decide, fun d6 H6 d60 d61 g6 b6 => ?_⟩
    obtain ⟨j6, rfl⟩ : ∃ j : Nat, d6 = (j : Int) := ⟨d6.toNat, by omega⟩
    have e46 := b6 _ _ (s5 _ _ e4) (ne_of_none hpo3 f4).symm
    have e56 := b6 _ _ e5 (ne_of_none hpo3 f5).symm
    have b36 : But p H3 H6 := (But.of s35).trans b6
    have b06 : But p H H6 := b03.trans b36
    have all2 : ∀ v ∈ [V.int (-1), .int (b.length : Int), .bl true, .non, .str "0", .ref l3, .int ((b.length : Int) + 10 ^ (9 : Int).toNat)], ∃ d f, Th H6 v d ∧ belowD b.length d = false ∧ Rs H6 v f := by
      intro v hv
      simp only [List.mem_cons, List.not_mem_nil, or_false] at hv
      rcases hv with rfl | rfl | rfl | rfl | rfl | rfl | rfl
      · exact ⟨_, _, .int _, rfl, rs_int (by decide)⟩
      · refine ⟨_, _, .int _, ?_, rs_int (by omega)⟩
        rw [belowD_int]
        rw [decide_eq_false (Int.lt_irrefl _), Bool.and_false]
      · exact ⟨_, _, .bl _, rfl, rs_bl⟩
      · exact ⟨_, _, .non, rfl, rs_non⟩
      · exact ⟨_, _, .str (by decide +kernel), rfl, rs_str (by decide +kernel)⟩
      · refine ⟨_, _, .lst e46 (by show 1 ≤ sizeLine; decide) (.cons (.int 0) .nil), rfl, .lsti e46 (by decide) (by decide +kernel), fun g => ?_⟩
        split
        · decide +kernel
        · decide +kernel
      · refine ⟨_, _, .int _, ?_, rs_int (by show -100000000000000000 ≤ (b.length : Int) + 1000000000 ∧ (b.length : Int) + 1000000000 ≤ 100000000000000000; omega)⟩
        have e9 : (10 : Int) ^ (9 : Int).toNat = 1000000000 := by decide
        rw [belowD_int, e9, decide_eq_false (show ¬ (b.length : Int) + 1000000000 < b.length by omega), Bool.and_false]
    have hj6 : j6 < [V.int (-1), .int (b.length : Int), .bl true, .non, .str "0", .ref l3, .int ((b.length : Int) + 10 ^ (9 : Int).toNat)].length := by show j6 < 7; omega
    obtain ⟨dd, f6, td, nb, rs6⟩ := all2 _ (List.getElem_mem hj6)
    refine ⟨m2, _, _, _, rfl, rfl, SqL.of e56, atI_nat (List.getElem?_eq_getElem hj6), ?_⟩
    generalize [V.int (-1), .int (b.length : Int), .bl true, .non, .str "0", .ref l3, .int ((b.length : Int) + 10 ^ (9 : Int).toNat)][j6] = odd at td rs6 ⊢
    obtain ⟨x1, x2, x3, hx1, _⟩ := hp
    have is6 : IsS A.c_Store H6 st z b c e := is.keep (KeepX.but hx1 b06)
    obtain ⟨f, kn, no, rs⟩ := allj H6 (b36 _ _ e13 (ne_of_none hpo f1).symm)
    have bz : (((b.length : Nat) : Int)) = ((b.length : Nat) : Int) := rfl
    have sz4 : ∀ g, (Str.ofString "ask ").length + (f g).length ≤ sizeLine := fun g => by
      have := rs.2 g
      exact Nat.le_trans (show 4 + (f g).length ≤ 100006 by omega) (by decide)
    have sz6 : ∀ g, (Str.ofString "state ").length + (f6 g).length ≤ sizeLine := fun g => by
      have := rs6.2 g
      exact Nat.le_trans (show 6 + (f6 g).length ≤ 100006 by omega) (by decide)
    refine ⟨_, rfl, _, rfl, _, rfl, _, rfl, st, bad, odd, odd, dd, dd, z, b, e, c, f, rfl, is6, kn, td, td, rs.2 g, .inl ⟨no, rs.1, fun H7 s7 => ⟨_, rfl, bad, f, rfl, rs.1.mono s7, _, _, rfl, rfl, sz4 g, rfl, _, rfl, iteNS rfl ?_⟩⟩⟩
    have is7 : IsS A.c_Store H7 st z b c e := is6.keep (KeepX.of s7)
    refine ⟨_, rfl, _, rfl, 1, rfl, z, -1, cb, rfl, rfl, zl, atI_neg (k := 1) (j := z.length - 1) (by omega) (by show z.length - 1 + 1 = z.cps.toList.length; rw [Array.length_toList]; show z.length - 1 + 1 = z.length; omega) ecb, _, rfl, 2, rfl, st, .str ⟨#[cb]⟩, odd, .int (-2), dd, .int (-2), z, b, e, c, f6, rfl, is7, knownS (by show 1 ≤ sizeLine; decide), td.mono s7, .int _, rs6.2 g,
      .inr (.inl ⟨yb, nb, rs6.1.mono s7, fun H8 s8 => ⟨_, rfl, odd, f6, rfl, rs6.1.mono (s7.trans s8), _, _, rfl, rfl, sz6 g, rfl, _, rfl, iteNS rfl ?_⟩⟩)⟩
    have s78 := s7.trans s8
    refine ⟨_, rfl, _, rfl, z, 0, ca, rfl, rfl, zl, atI_nat (j := 0) eca, _, rfl, _, _, rfl, rfl, _, rfl, st, .str ⟨#[ca]⟩, _, odd, .int ((b.length : Int) - 1), dd, z, b, e, c, f6, rfl, is6.keep (KeepX.of s78), knownS (by show 1 ≤ sizeLine; decide), .int _, td.mono s78, rs6.2 g,
      .inr (.inr ⟨ya, ?_, nb, rs6.1.mono s78, fun H9 s9 => ⟨_, rfl, odd, f6, rfl, rs6.1.mono (s78.trans s9), _, _, rfl, rfl, sz6 g, rfl, ?_⟩⟩)⟩
    · rw [belowD_int, decide_eq_true (show (0 : Int) ≤ (b.length : Int) - 1 by omega), decide_eq_true (show (b.length : Int) - 1 < b.length by omega)]
      rfl
    · show Q (.bl (decide (V.str (Str.ofString "state " ++ f6 g) = V.str (Str.ofString "state " ++ f6 g)))) H9
      rw [decide_eq_true rfl]
      exact q H9
end
end As

namespace Ow
open PySem PySem.Spec PyProof PyProof.Rows L2 As
section
variable {G : Hp} {a : Addr} {r0 : List Int} {n k : Nat} {v : Int}
theorem set_ints (k : Nat) (v : Int) (r : List Int) : (r.map V.int).set k (V.int v) = (r.set k v).map V.int := by rw [List.map_set]
theorem row_set (ha : G a = some (.lst (r0.map V.int))) (l0 : r0.length = n) (hn : n ≤ 1000) {x : V} {r : List Int} (h : Th G x (IL r)) (hl : r.length = n) :
    ∃ r' : List Int, Th (upd G a (.lst ((r0.map V.int).set k (.int v)))) x (IL r') ∧ r'.length = n ∧ (x = .ref a → r' = r0.set k v) := by
  obtain ⟨l, rfl, h1⟩ := h.il
  by_cases e : l = a
  · subst e
    exact ⟨r0.set k v, il_th (by rw [upd_same, set_ints]) (by rw [List.length_set]; omega), by rw [List.length_set]; exact l0, fun _ => rfl⟩
  · exact ⟨r, il_th (by rw [upd_ne e]; exact h1) (by omega), hl, fun z => absurd (V.ref.inj z) e⟩
theorem rows_set (ha : G a = some (.lst (r0.map V.int))) (l0 : r0.length = n) (hn : n ≤ 1000) : ∀ {xs : List V} {t : List (List Int)}, ThAll G xs (t.map IL) → (∀ r ∈ t, r.length = n) →
    ∃ t' : List (List Int), ThAll (upd G a (.lst ((r0.map V.int).set k (.int v)))) xs (t'.map IL) ∧ t'.length = t.length ∧ (∀ r ∈ t', r.length = n) ∧ ∀ j : Nat, xs[j]? = some (V.ref a) → t'[j]? = some (r0.set k v)
  | _, [], .nil, _ => ⟨[], .nil, rfl, nofun, fun j h => by simp at h⟩
  | _, r :: t, .cons h hr, hs => by
    obtain ⟨r', h1, h2, h3⟩ := row_set (k := k) (v := v) ha l0 hn h (hs r List.mem_cons_self)
    obtain ⟨t', g1, g2, g3, g4⟩ := rows_set ha l0 hn hr fun r hr => hs r (List.mem_cons_of_mem _ hr)
    refine ⟨r' :: t', .cons h1 g1, by rw [List.length_cons, List.length_cons, g2], fun q hq => ?_, fun j hj => ?_⟩
    · rcases List.mem_cons.mp hq with rfl | hq
      · exact h2
      · exact g3 q hq
    · cases j with
      | zero =>
        have := Option.some.inj hj
        show some r' = _
        rw [h3 this]
      | succ j => exact g4 j hj
theorem not_refs (ha : G a = some (.lst (r0.map V.int))) (l0 : r0.length = n) (n1 : 1 ≤ n) {l : Addr} {xs : List V} (hl : G l = some (.lst xs)) {q : Addr} (hx : xs[0]? = some (.ref q)) : l ≠ a := fun e => by
  subst e
  rw [ha] at hl
  cases hl
  rw [List.getElem?_map] at hx
  obtain ⟨i, _, hi⟩ := Option.map_eq_some_iff.mp hx
  cases hi
theorem tab_set (ha : G a = some (.lst (r0.map V.int))) (l0 : r0.length = n) (n1 : 1 ≤ n) (hn : n ≤ 1000) {x : V} {t : List (List Int)} (h : Th G x (TL' t)) (st : Sq n t) :
    ∃ t' : List (List Int), Th (upd G a (.lst ((r0.map V.int).set k (.int v)))) x (TL' t') ∧ Sq n t' ∧ ∀ (l : Addr) (ys : List V) (j : Nat), x = V.ref l → G l = some (.lst ys) → ys[j]? = some (V.ref a) → t'[j]? = some (r0.set k v) := by
  obtain ⟨l, xs, rfl, hl, r⟩ := Th.lstOf h
  obtain ⟨t', g1, g2, g3, g4⟩ := rows_set (k := k) (v := v) ha l0 hn r st.2
  obtain ⟨q, hq⟩ : ∃ q, xs[0]? = some (.ref q) := by
    obtain ⟨r0', er⟩ : ∃ r0', t[0]? = some r0' := ⟨_, List.getElem?_eq_getElem (by rw [st.1]; exact n1)⟩
    obtain ⟨y, ey, ty⟩ := r.got (i := 0) (d := IL r0') (by rw [List.getElem?_map, er]; rfl)
    obtain ⟨q, rfl, _⟩ := ty.il
    exact ⟨q, ey⟩
  have ne := not_refs ha l0 n1 hl hq
  refine ⟨t', .lst (by rw [upd_ne ne]; exact hl) (by rw [g1.len, List.length_map, g2, st.1]; exact Nat.le_trans hn (by decide)) g1, ⟨by rw [g2]; exact st.1, g3⟩, fun l' ys j e hl' hj => ?_⟩
  cases e
  rw [hl] at hl'
  cases hl'
  exact g4 j hj
theorem tabs_set (ha : G a = some (.lst (r0.map V.int))) (l0 : r0.length = n) (n1 : 1 ≤ n) (hn : n ≤ 1000) : ∀ {xs : List V} {c : List (List (List Int))}, ThAll G xs (c.map TL') → (∀ t ∈ c, Sq n t) →
    ∃ c' : List (List (List Int)), ThAll (upd G a (.lst ((r0.map V.int).set k (.int v)))) xs (c'.map TL') ∧ c'.length = c.length ∧ (∀ t ∈ c', Sq n t) ∧ ∀ (i : Nat) (l : Addr) (ys : List V) (j : Nat), xs[i]? = some (V.ref l) → G l = some (.lst ys) → ys[j]? = some (V.ref a) → ∃ t', c'[i]? = some t' ∧ t'[j]? = some (r0.set k v)
  | _, [], .nil, _ => ⟨[], .nil, rfl, nofun, fun i l ys j h => by simp at h⟩
  | _, t :: c, .cons h hr, hs => by
    obtain ⟨t', h1, h2, h3⟩ := tab_set (k := k) (v := v) ha l0 n1 hn h (hs t List.mem_cons_self)
    obtain ⟨c', g1, g2, g3, g4⟩ := tabs_set ha l0 n1 hn hr fun r hr => hs r (List.mem_cons_of_mem _ hr)
    refine ⟨t' :: c', .cons h1 g1, by rw [List.length_cons, List.length_cons, g2], fun q hq => ?_, fun i l ys j hi hl hj => ?_⟩
    · rcases List.mem_cons.mp hq with rfl | hq
      · exact h2
      · exact g3 q hq
    · cases i with
      | zero => exact ⟨t', rfl, h3 l ys j (Option.some.inj hi) hl hj⟩
      | succ i => exact g4 i l ys j hi hl hj
/-- an entry of the costs is changed in place -/
theorem costs_set (ha : G a = some (.lst (r0.map V.int))) (l0 : r0.length = n) (n1 : 1 ≤ n) (hn : n ≤ 1000) {D : Addr} {c : List (List (List Int))} (h : Th G (.ref D) (CL c)) (hc : ∀ t ∈ c, Sq n t) (c1 : 1 ≤ c.length) (c2 : c.length ≤ 1000) {i j : Nat} {xs ys : List V} {l : Addr} (hD : G D = some (.lst xs)) (hi : xs[i]? = some (.ref l)) (hl : G l = some (.lst ys)) (hj : ys[j]? = some (.ref a)) :
    ∃ c' : List (List (List Int)), Th (upd G a (.lst ((r0.map V.int).set k (.int v)))) (.ref D) (CL c') ∧ c'.length = c.length ∧ (∀ t ∈ c', Sq n t) ∧ ∃ t', c'[i]? = some t' ∧ t'[j]? = some (r0.set k v) := by
  obtain ⟨D', xs', e, hD', r⟩ := Th.lstOf h
  cases e
  rw [hD] at hD'
  cases hD'
  obtain ⟨c', g1, g2, g3, g4⟩ := tabs_set (k := k) (v := v) ha l0 n1 hn r hc
  obtain ⟨q, hq⟩ : ∃ q, xs[0]? = some (.ref q) := by
    obtain ⟨t0, er⟩ : ∃ t0, c[0]? = some t0 := ⟨_, List.getElem?_eq_getElem c1⟩
    obtain ⟨y, ey, ty⟩ := r.got (i := 0) (d := TL' t0) (by rw [List.getElem?_map, er]; rfl)
    obtain ⟨q, _, rfl, _⟩ := Th.lstOf ty
    exact ⟨q, ey⟩
  have ne := not_refs ha l0 n1 hD hq
  exact ⟨c', .lst (by rw [upd_ne ne]; exact hD) (by rw [g1.len, List.length_map, g2]; exact Nat.le_trans c2 (by decide)) g1, g2, g3, g4 i l ys j hi hl hj⟩
end
theorem deep_IT (l : List Int) : deepD (IT l) = IT l := by
  unfold IT
  rw [deepD, deepAll_map, List.map_map]
  rfl
theorem deep_TT (t : List (List Int)) : deepD (TTt t) = TTt t := by
  unfold TTt
  rw [deepD, deepAll_map, List.map_map]
  congr 1
  exact List.map_congr_left fun r _ => deep_IT r
theorem deep_CT (c : List (List (List Int))) : deepD (CTt c) = CTt c := by
  unfold CTt
  rw [deepD, deepAll_map, List.map_map]
  congr 1
  exact List.map_congr_left fun r _ => deep_TT r
theorem beg_IT {b : List Int} (h1 : 1 ≤ b.length) (h2 : b.length ≤ 1000) : begOk (IT b) := ⟨rfl, by show 1 ≤ (b.map PyData.int).length; rw [List.length_map]; exact h1, by show (b.map PyData.int).length ≤ 1000; rw [List.length_map]; exact h2, all_ints b⟩
theorem ints_IT {b : List Int} {n : Int} (h : (b.length : Int) = n) : intsD (IT b) n = true := by
  unfold intsD tupOfD
  show ((true && decide (((b.map PyData.int).length : Int) = n)) && (b.map PyData.int).all isIntD) = true
  rw [all_ints, List.length_map, decide_eq_true h]
  rfl
theorem tab_TT {t : List (List Int)} {n : Nat} (h : Sq n t) : tableD (TTt t) n = true := by
  unfold tableD tupOfD
  show ((true && decide (((t.map IT).length : Int) = n)) && (t.map IT).all (fun r => intsD r n)) = true
  rw [List.length_map, decide_eq_true (by rw [h.1]), Bool.true_and, Bool.true_and]
  refine List.all_eq_true.mpr fun r hr => ?_
  obtain ⟨row, hrow, rfl⟩ := List.mem_map.mp hr
  exact ints_IT (by rw [h.2 row hrow])
theorem tabs_CT {c : List (List (List Int))} {a n : Nat} (h : c.length = a) (hs : ∀ t ∈ c, Sq n t) : tablesD (CTt c) a n = true := by
  unfold tablesD tupOfD
  show ((true && decide (((c.map TTt).length : Int) = a)) && (c.map TTt).all (fun r => tableD r n)) = true
  rw [List.length_map, decide_eq_true (by rw [h]), Bool.true_and, Bool.true_and]
  refine List.all_eq_true.mpr fun r hr => ?_
  obtain ⟨t, ht, rfl⟩ := List.mem_map.mp hr
  exact tab_TT (hs t ht)
def spOther (C : Addr) : Sp := fun vs H Q _ => ∃ (p : Addr) (x : V) (n : Nat) (z : Str) (b e : List Int) (c : List (List (List Int))), vs = [.ref p, x] ∧ Src H p ∧ Th (wo H p) x (WD z b c e) ∧ Gw n z b c e ∧ n ≤ 100 ∧ z ∈ menuA ∧ Bc 100000000000000000 c ∧
  ∀ s z2 b2 c2 e2 H', But p H H' → IsS C H' s z2 b2 c2 e2 → ¬ (z = z2 ∧ b = b2 ∧ c = c2 ∧ e = e2) → Q (.ref s) H'
theorem menu_more : ∀ z ∈ menuA, asksV (.str z) = true ∧ asksV (.str (cutS "efgh" none (some (z.length : Int)))) = true ∧ (cutS "efgh" none (some (z.length : Int))).length = z.length ∧ z ≠ cutS "efgh" none (some (z.length : Int)) ∧ z.length ≤ 4 ∧ 1 ≤ z.length := by decide +kernel
end Ow
namespace As
open PySem PySem.Spec PyProof PyProof.Rows L2 Ow
section
variable {P : Program} {w : World} {K : PySem.W.Frag} {mg : Str → Option Value} {base : Heap} {A : Ad}
/-- a Store made of good things -/
theorem make_goodS {H1 : Hp} {vb vc ve : V} {z : Str} {db dc de : PyData} {b e : List Int} {c : List (List (List Int))} {x dx : Addr} {R : VK} {E : XK} (hz : asksV (.str z) = true) (zl : z.length ≤ sizeLine) (hb : Th H1 vb db) (hc : Th H1 vc dc) (he : Th H1 ve de) (ob : begOk db)
    (oc : tablesD dc z.length (itemsD db).length = true) (oe : intsD de (itemsD db).length = true) (eb : PyData.tuple (itemsD db) = IT b) (ec : deepD dc = CTt c) (ee : PyData.tuple (itemsD de) = IT e) (hx : H1 x = none) (hdx : H1 dx = none) (q : ∀ H2, Same H1 H2 → IsS A.c_Store H2 x z b c e → R .non H2) :
    spSInit K A.c_Store A.c_BadAsks A.c_BadStore [.ref x, .str z, vb, vc, ve] (upd (upd H1 dx (.own x)) x (.ins A.c_Store dx [])) R E := by
  have s0 : Same H1 (upd (upd H1 dx (.own x)) x (.ins A.c_Store dx [])) := fun b o hb => by
    rw [upd_ne (ne_of_none hb hx), upd_ne (ne_of_none hb hdx)]
    exact hb
  refine ⟨x, dx, .str z, vb, vc, ve, db, dc, de, rfl, upd_same, knownS zl, hb.mono s0, hc.mono s0, he.mono s0, fun e => (by rw [hz] at e; cases e), fun z' ez _ => ?_⟩
  cases ez
  refine ⟨fun nb => absurd ob nb, fun _ => ⟨fun nt => (by rw [oc] at nt; cases nt), fun _ => ⟨fun ni => (by rw [oe] at ni; cases ni), fun _ ub uc ue H2 bt hs tb tc te => ?_⟩⟩⟩
  refine q H2 (fun b o hb => bt b o (s0 b o hb) (ne_of_none hb hx)) ⟨dx, ub, uc, ue, hs, ?_, ?_, ?_⟩
  · rw [← eb]; exact tb
  · rw [← ec]; exact tc
  · rw [← ee]; exact te
abbrev N__law_other : List Str := ["_law_source_here", "_law_world_here", "_law_asks_here", "_law_begins", "_law_costs", "_law_ends", "_law_many", "_law_part_here", "_law_place", "_law_line"]
theorem sc__law_other : FnScope N__law_other ["_law_source_here", "_law_world_here"] (defScope s__law_other) := ⟨rfl, rfl, rfl, by decide +kernel, rfl, by decide +kernel, by decide +kernel⟩
theorem ok_other {fd : FuncData} (F : Fun K "_law_other" "_law_other" s__law_other A.f__law_other fd) (T : Tx K mg A) (SC : SCls K A) (KDraw : Kp P w K mg base CX0 1 A.f__law_draw ["_law_source_here", "_law_many"] spDraw)
    (KL : Kp P w K mg base CX0 1 A.f__law_lists ["_law_world_here"] spLists) (KG : Kp P w K mg base (L2.CX P w) 6 A.f_Store_init ["self", "asks", "begins", "costs", "ends"] (spSInit K A.c_Store A.c_BadAsks A.c_BadStore)) :
    FnOk P w K mg base CX0 8 A.f__law_other fd ["_law_source_here", "_law_world_here"] (spOther A.c_Store) := by
  obtain ⟨fd1, G__law_draw, b__law_draw, k__law_draw⟩ := KDraw
  obtain ⟨fd2, G__law_lists, b__law_lists, k__law_lists⟩ := KL
  obtain ⟨fdG, G_Store_init, b_Store_init, k_Store_init⟩ := KG
  have nd := sc__law_other.nd
  refine F.ok sc__law_other (fun vs H Q E h => ?_) (fun cdv A' outer s H vs Q E hr h => ?_)
  · obtain ⟨p, x, n, z, b, e, c, rfl, _⟩ := h
    rfl
  · obtain ⟨p, x, n, z, b, e, c, rfl, hp, hx, gw, n100, mem, bcc, q⟩ := h
    refine ⟨_, (pss_cons (ps_asg (pe_call G__law_lists (hr.mono (by omega)) rfl T.m_law_lists k__law_lists b__law_lists .nil pass0 (pa_cons (pv 1) pa_nil)) (pg_lst (by rfl) (pgs_cons (pg_name (i := 2) nd rfl (by first | exact Or.inl rfl | exact Or.inr rfl)) (pgs_cons (pg_name (i := 3) nd rfl (by first | exact Or.inl rfl | exact Or.inr rfl)) (pgs_cons (pg_name (i := 4) nd rfl (by first | exact Or.inl rfl | exact Or.inr rfl)) (pgs_cons (pg_name (i := 5) nd rfl (by first | exact Or.inl rfl | exact Or.inr rfl)) pgs_nil))))))
  (pss_cons (ps_set (i := 6) nd rfl (by first | exact Or.inl rfl | exact Or.inr rfl) (pe_callB call_len (by rfl) T.nlen (by decide +kernel) (pa_cons (pv 3) pa_nil)))
  (pss_cons (ps_set (i := 7) nd rfl (by first | exact Or.inl rfl | exact Or.inr rfl) (pe_call G__law_draw (hr.mono (by omega)) rfl T.m_law_draw k__law_draw b__law_draw .nil pass0 (pa_cons (pv 0) (pa_cons pe_int pa_nil))))
  (pss_cons (ps_set (i := 8) nd rfl (by first | exact Or.inl rfl | exact Or.inr rfl) (pe_call G__law_draw (hr.mono (by omega)) rfl T.m_law_draw k__law_draw b__law_draw .nil pass0 (pa_cons (pv 0) (pa_cons (pv 6) pa_nil))))
  (pss_cons (ps_if (pt_cmpR op_eq (pv 7) pe_int (nomark _)) (pss_one (ps_asg (pe_op op_add (pe_ix ix_list (pv 3) (pv 8) (fun _ _ => rfl)) pe_int) (pg_sub (pv 3) (pv 8) set_list))) pss_nil)
  (pss_cons (ps_if (pt_cmpR op_eq (pv 7) pe_int (nomark _)) (pss_cons (ps_set (i := 9) nd rfl (by first | exact Or.inl rfl | exact Or.inr rfl) (pe_ix ix_list (pe_ix ix_list (pv 4) (pe_call G__law_draw (hr.mono (by omega)) rfl T.m_law_draw k__law_draw b__law_draw .nil pass0 (pa_cons (pv 0) (pa_cons (pe_callB call_len_str (by rfl) T.nlen (by decide +kernel) (pa_cons (pv 2) pa_nil)) pa_nil))) (fun _ _ => rfl)) (pv 8) (fun _ _ => rfl)))
  (pss_one (ps_asg (pe_op op_pow pe_int pe_int) (pg_sub (pv 9) (pe_call G__law_draw (hr.mono (by omega)) rfl T.m_law_draw k__law_draw b__law_draw .nil pass0 (pa_cons (pv 0) (pa_cons (pv 6) pa_nil))) set_list)))) pss_nil)
  (pss_cons (ps_if (pt_cmpR op_eq (pv 7) pe_int (nomark _)) (pss_one (ps_asg (pe_op op_sub (pe_ix ix_list (pv 5) (pv 8) (fun _ _ => rfl)) pe_int) (pg_sub (pv 5) (pv 8) set_list))) pss_nil)
  (pss_cons (ps_if (pt_cmpR op_eq (pv 7) pe_int (nomark _)) (pss_one (ps_set (i := 2) nd rfl (by first | exact Or.inl rfl | exact Or.inr rfl) (pe_slice sl_str pe_str po_none (po_some (pe_callB call_len_str (by rfl) T.nlen (by decide +kernel) (pa_cons (pv 2) pa_nil)))))) pss_nil)
  (pss_one (ps_ret (pe_make SC.mkr G_Store_init (hr.mono (by omega)) (by rfl) T.mStore b_Store_init .nil passL (pa_cons (pv 2) (pa_cons (pv 3) (pa_cons (pv 4) (pa_cons (pv 5) pa_nil))))))))))))))), ?_⟩
    obtain ⟨az, az2, zl2, zne, z4, z1⟩ := menu_more z mem
    have zl : z.length ≤ sizeLine := Nat.le_trans z4 (by decide)
    have gb := gw.lb
    have ge := gw.le
    have gc := gw.lc
    have gn1 := gw.n1
    obtain ⟨po, hpo⟩ := hp.some
    refine ⟨_, rfl, x, n, z, b, e, c, rfl, hx.mono wo_sub, gw, fun L l1 D l2 Gc H1 s1 lw => ?_⟩
    refine ⟨L, _, rfl, SqL.of lw.at_, rfl, _, _, rfl, _, _, rfl, _, _, rfl, _, _, rfl, rfl, ?_⟩
    refine ⟨_, rfl, .ref l1, b.length, rfl, .inl ⟨_, SqL.of lw.a1, by rw [List.length_map]⟩, ?_⟩
    refine ⟨_, rfl, p, 4, rfl, hp.same s1, by decide, by decide, fun d H2 d0 d1 g2 b2 => ?_⟩
    refine ⟨_, rfl, _, rfl, p, (b.length : Int), rfl, g2, by omega, by omega, fun pl H3 p0 p1 g3 b3 => ?_⟩
    have b13 : But p H1 H3 := b2.trans b3
    have b03 : But p H H3 := (But.of s1).trans b13
    have ne1 : l1 ≠ p := (ne_of_none hpo lw.f1).symm
    have ne2 : l2 ≠ p := (ne_of_none hpo lw.f2).symm
    have gp : Gc p = none := by
      cases e : Gc p with
      | none => rfl
      | some o => have := lw.fr _ _ e; rw [this] at hpo; cases hpo
    have h1 := b13 _ _ lw.a1 ne1
    have h2 := b13 _ _ lw.a2 ne2
    have sG : Same Gc H3 := fun a o h => b13 _ _ (lw.sub _ _ h) (fun z => by rw [z, gp] at h; cases h)
    obtain ⟨k, rfl⟩ : ∃ k : Nat, pl = (k : Int) := ⟨pl.toNat, by omega⟩
    have hk : k < b.length := by omega
    have ixk : ∀ {m : Nat}, m = b.length → ixN m (k : Int) = some k := fun h => by
      unfold ixN
      rw [if_pos (by omega), if_pos (by omega)]
      rfl
    have fin : ∀ (z2 : Str) (b2 e2 : List Int) (c2 : List (List (List Int))) (H' : Hp), asksV (.str z2) = true → z2.length = z.length → Th H' (.ref l1) (IL b2) → Th H' (.ref D) (CL c2) → Th H' (.ref l2) (IL e2) → b2.length = n → e2.length = n → c2.length = z.length → (∀ t ∈ c2, Sq n t) → But p H H' → ¬ (z = z2 ∧ b = b2 ∧ c = c2 ∧ e = e2) →
        ∀ sx dx, H' sx = none → H' dx = none → dx ≠ sx → spSInit K A.c_Store A.c_BadAsks A.c_BadStore [.ref sx, .str z2, .ref l1, .ref D, .ref l2] (upd (upd H' dx (.own sx)) sx (.ins A.c_Store dx [])) (fun v H2 => v = .non ∧ Q (.ref sx) H2) (fun _ _ _ => False) := by
      intro z2 b2 e2 c2 H' a1 a2 t1 t2 t3 l1 l2 l3 l4 bt df sx dx hs hdx _
      have ib : (itemsD (IL b2)).length = n := by show (b2.map PyData.int).length = n; rw [List.length_map]; exact l1
      exact make_goodS a1 (by rw [a2]; exact zl) t1 t2 t3 (beg_IL (by omega) (by omega)) (by rw [ib]; exact tabs_CL (by rw [a2]; exact l3) l4) (ints_IL (by rw [ib, l2])) rfl (deep_CL c2) rfl hs hdx fun H2 s2 is => ⟨rfl, q _ z2 b2 c2 e2 H2 (bt.trans (But.of s2)) is df⟩
    have t1 : Th H3 (.ref l1) (IL b) := il_th h1 (by omega)
    have t2 : Th H3 (.ref D) (CL c) := lw.tc.mono sG
    have t3 : Th H3 (.ref l2) (IL e) := il_th h2 (by omega)
    have nint : ∀ {i j : Int}, i ≠ j → ¬ V.int i = V.int j := fun h e => h (V.int.inj e)
    obtain rfl | rfl | rfl | rfl : d = 0 ∨ d = 1 ∨ d = 2 ∨ d = 3 := by omega
    · skip
      obtain ⟨bk, ebk⟩ : ∃ bk, b[k]? = some bk := ⟨_, List.getElem?_eq_getElem hk⟩
      refine ⟨_, rfl, rfl, _, rfl, iteY rfl ?_⟩
      refine ⟨_, rfl, _, rfl, l1, _, (k : Int), .int bk, rfl, rfl, SqL.of h1, atI_nat (by rw [List.getElem?_map, ebk]; rfl), _, _, rfl, rfl, ?_⟩
      refine ⟨_, rfl, _, rfl, l1, _, (k : Int), k, rfl, rfl, h1, ixk (by rw [List.length_map]), ?_⟩
      refine ⟨_, rfl, rfl, _, rfl, iteN (nint (by decide)) ?_⟩
      refine ⟨_, rfl, rfl, _, rfl, iteN (nint (by decide)) ?_⟩
      refine ⟨_, rfl, rfl, _, rfl, iteN (nint (by decide)) ?_⟩
      refine ⟨_, rfl, _, rfl, _, rfl, _, rfl, fin z (b.set k (bk + 1)) e c _ az rfl (il_th (by rw [upd_same, set_ints]) (by rw [List.length_set]; omega)) (lw.tc.mono fun a o h => ?_) (il_th (by rw [upd_ne lw.n12.symm]; exact h2) (by omega)) (by rw [List.length_set]; exact gb) ge gc gw.lt (but_updF b03 lw.f1) fun h => ?_⟩
      · rw [upd_ne (fun z => by rw [z, lw.g1] at h; cases h)]
        exact sG a o h
      · have h3 := h.2.1
        have e4 : (b.set k (bk + 1))[k]? = some (bk + 1) := List.getElem?_set_self (by omega)
        rw [← h3, ebk] at e4
        have := Option.some.inj e4
        omega
    · refine ⟨_, rfl, rfl, _, rfl, iteN (nint (by decide)) ?_⟩
      refine ⟨_, rfl, rfl, _, rfl, iteY rfl ?_⟩
      refine ⟨_, rfl, _, rfl, _, rfl, z, rfl, zl, p, (z.length : Int), rfl, g3, by omega, by omega, fun i H4 i0 i1 g4 b4 => ?_⟩
      obtain ⟨i, rfl⟩ : ∃ j : Nat, i = (j : Int) := ⟨i.toNat, by omega⟩
      obtain ⟨t, et⟩ : ∃ t, c[i]? = some t := ⟨_, List.getElem?_eq_getElem (by omega)⟩
      have st := gw.lt t (List.mem_of_getElem? et)
      have st1 := st.1
      obtain ⟨row, er⟩ : ∃ r, t[k]? = some r := ⟨_, List.getElem?_eq_getElem (by omega)⟩
      have lrow := st.2 row (List.mem_of_getElem? er)
      obtain ⟨D', xs, eD, hD, rD⟩ := Th.lstOf lw.tc
      cases eD
      obtain ⟨yt, eyt, tyt⟩ := rD.got (i := i) (d := TL' t) (by rw [List.getElem?_map, et]; rfl)
      obtain ⟨lt, ys, rfl, hlt, rlt⟩ := Th.lstOf tyt
      obtain ⟨yr, eyr, tyr⟩ := rlt.got (i := k) (d := IL row) (by rw [List.getElem?_map, er]; rfl)
      obtain ⟨lr, rfl, hlr⟩ := tyr.il
      have sG4 : Same Gc H4 := fun a o h => b4 _ _ (sG _ _ h) (fun z => by rw [z, gp] at h; cases h)
      refine ⟨D, xs, (i : Int), .ref lt, rfl, rfl, SqL.of (sG4 _ _ hD), atI_nat eyt, _, rfl, lt, ys, (k : Int), .ref lr, rfl, rfl, SqL.of (sG4 _ _ hlt), atI_nat eyr, ?_⟩
      refine ⟨_, _, rfl, rfl, ⟨by decide, by decide, by decide⟩, _, rfl, _, rfl, _, rfl, p, (b.length : Int), rfl, g4, by omega, by omega, fun q5 H5 q0 q1 g5 b5 => ?_⟩
      obtain ⟨kq, rfl⟩ : ∃ j : Nat, q5 = (j : Int) := ⟨q5.toNat, by omega⟩
      have sG5 : Same Gc H5 := fun a o h => b5 _ _ (sG4 _ _ h) (fun z => by rw [z, gp] at h; cases h)
      refine ⟨lr, _, (kq : Int), kq, rfl, rfl, sG5 _ _ hlr, ?_, ?_⟩
      · unfold ixN
        rw [if_pos (by omega), if_pos (by rw [List.length_map]; omega)]
        rfl
      · refine ⟨_, rfl, rfl, _, rfl, iteN (nint (by decide)) ?_⟩
        refine ⟨_, rfl, rfl, _, rfl, iteN (nint (by decide)) ?_⟩
        obtain ⟨c', k1, k2, k3, t', k4, k5⟩ := costs_set (k := kq) (v := 10 ^ (40 : Int).toNat) hlr lrow gn1 (by omega) lw.tc gw.lt (by omega) (by omega) hD eyt hlt eyr
        have nl1 : l1 ≠ lr := fun z => by have := lw.g1; rw [z, hlr] at this; cases this
        have nl2 : l2 ≠ lr := fun z => by have := lw.g2; rw [z, hlr] at this; cases this
        refine ⟨_, rfl, _, rfl, _, rfl, _, rfl, fin z b e c' _ az rfl (il_th (by rw [upd_ne nl1]; exact b5 _ _ (b4 _ _ h1 ne1) ne1) (by omega)) (k1.mono fun a o h => ?_) (il_th (by rw [upd_ne nl2]; exact b5 _ _ (b4 _ _ h2 ne2) ne2) (by omega)) gb ge (by omega) k3 (but_updF (b03.trans (b4.trans b5)) (lw.fr _ _ hlr)) fun h => ?_⟩
        · by_cases ea : a = lr
          · rw [ea, upd_same] at h ⊢
            exact h
          · rw [upd_ne ea] at h ⊢
            exact sG5 a o h
        · have h3 := h.2.2.1
          rw [← h3, et] at k4
          cases k4
          rw [er] at k5
          have k6 : row = row.set kq (10 ^ (40 : Int).toNat) := Option.some.inj k5
          have k7 : (10 ^ (40 : Int).toNat : Int) ∈ row := by
            have : (10 ^ (40 : Int).toNat : Int) ∈ row.set kq (10 ^ (40 : Int).toNat) := List.mem_iff_getElem?.mpr ⟨kq, List.getElem?_set_self (by omega)⟩
            rw [← k6] at this
            exact this
          have k8 := (bcc t (List.mem_of_getElem? et) row (List.mem_of_getElem? er) _ k7).2
          exact absurd k8 (by decide)
    · refine ⟨_, rfl, rfl, _, rfl, iteN (nint (by decide)) ?_⟩
      refine ⟨_, rfl, rfl, _, rfl, iteN (nint (by decide)) ?_⟩
      obtain ⟨bk, ebk⟩ : ∃ bk, e[k]? = some bk := ⟨_, List.getElem?_eq_getElem (by omega)⟩
      refine ⟨_, rfl, rfl, _, rfl, iteY rfl ?_⟩
      refine ⟨_, rfl, _, rfl, l2, _, (k : Int), .int bk, rfl, rfl, SqL.of h2, atI_nat (by rw [List.getElem?_map, ebk]; rfl), _, _, rfl, rfl, ?_⟩
      refine ⟨_, rfl, _, rfl, l2, _, (k : Int), k, rfl, rfl, h2, ixk (by rw [List.length_map]; omega), ?_⟩
      refine ⟨_, rfl, rfl, _, rfl, iteN (nint (by decide)) ?_⟩
      refine ⟨_, rfl, _, rfl, _, rfl, _, rfl, fin z b (e.set k (bk - 1)) c _ az rfl (il_th (by rw [upd_ne lw.n12]; exact h1) (by omega)) (lw.tc.mono fun a o h => ?_) (il_th (by rw [upd_same, set_ints]) (by rw [List.length_set]; omega)) gb (by rw [List.length_set]; exact ge) gc gw.lt (but_updF b03 lw.f2) fun h => ?_⟩
      · rw [upd_ne (fun z => by rw [z, lw.g2] at h; cases h)]
        exact sG a o h
      · have h3 := h.2.2.2
        have e4 : (e.set k (bk - 1))[k]? = some (bk - 1) := List.getElem?_set_self (by omega)
        rw [← h3, ebk] at e4
        have := Option.some.inj e4
        omega
    · refine ⟨_, rfl, rfl, _, rfl, iteN (nint (by decide)) ?_⟩
      refine ⟨_, rfl, rfl, _, rfl, iteN (nint (by decide)) ?_⟩
      refine ⟨_, rfl, rfl, _, rfl, iteN (nint (by decide)) ?_⟩
      refine ⟨_, rfl, rfl, _, rfl, iteY rfl ?_⟩
      refine ⟨_, rfl, z, rfl, zl, _, rfl, _, rfl, (by decide +kernel), ?_⟩
      exact ⟨_, rfl, _, rfl, _, rfl, _, rfl, fin _ b e c H3 az2 zl2 t1 t2 t3 gb ge gc gw.lt b03 fun h => zne h.1⟩
end
end As

namespace Ow
open PySem PySem.Spec PyProof PyProof.Rows L2 As
theorem lay_IL (l : List Int) : (IL l).canLay0 = true := by unfold IL; rw [PyData.canLay0]; exact lay_map _ (fun a => by rw [PyData.canLay0]) l
theorem lay_TL (l : List (List Int)) : (TL' l).canLay0 = true := by unfold TL'; rw [PyData.canLay0]; exact lay_map _ lay_IL l
theorem lay_CL (l : List (List (List Int))) : (CL l).canLay0 = true := by unfold CL; rw [PyData.canLay0]; exact lay_map _ lay_TL l
theorem dep_WD (z : Str) (b e : List Int) (c : List (List (List Int))) : (WD z b c e).depth ≤ 4 := by
  unfold WD
  rw [PyData.depth]
  have h1 := dep_IL b
  have h2 := dep_CL c
  have h3 := dep_IL e
  have h : PyData.depthAll [.str z, IL b, CL c, IL e] ≤ 3 := by
    simp only [PyData.depthAll, PyData.depth]
    omega
  omega
theorem pl_WD (z : Str) (b e : List Int) (c : List (List (List Int))) : plainD (WD z b c e) = true := by
  unfold WD
  rw [plainD, plainAll, plainAll, plainAll, plainAll, plainAll, pl_IL, pl_CL, pl_IL]
  rfl
theorem sh_WD {z : Str} (hz : PyData.strOk z = true) (b e : List Int) (c : List (List (List Int))) : SeqAt.shaped (WD z b c e) = true := by
  refine shaped_of ?_ (Nat.le_trans (dep_WD z b e c) (by decide))
  unfold WD
  rw [PyData.canLay0]
  simp [PyData.canLayAll0, PyData.canLay0, hz, lay_IL, lay_CL]
mutual
theorem Th.dp {K : PySem.W.Frag} {H : Hp} : ∀ {x : V} {d : PyData}, Th H x d → plainD d = true → Dp K H x d
  | _, _, .non, _ => .non
  | _, _, .bl b, _ => .bl b
  | _, _, .int i, _ => .int i
  | _, _, .str h, _ => .str _
  | _, _, .lst h z r, p => .lst (SqL.of h) (ThAll.dp r (by rw [plainD] at p; exact p))
  | _, _, .tup h z r, p => .tup (SqT.of h) (ThAll.dp r (by rw [plainD] at p; exact p))
  | _, _, .dct h, p => by rw [plainD] at p; cases p
theorem ThAll.dp {K : PySem.W.Frag} {H : Hp} : ∀ {xs : List V} {ds : List PyData}, ThAll H xs ds → plainAll ds = true → DpAll K H xs ds
  | _, _, .nil, _ => .nil
  | _, _, .cons h r, p => by
    rw [plainAll] at p
    exact .cons (Th.dp h (Bool.and_eq_true_iff.mp p).1) (ThAll.dp r (Bool.and_eq_true_iff.mp p).2)
end
theorem wo_new {H H1 : Hp} {p q : Addr} (s : Same H H1) (f : H q = none) : Same (wo H p) (wo H1 q) := fun b o h => by
  have h := wo_sub _ _ h
  unfold wo
  rw [if_neg (ne_of_none h f)]
  exact s _ _ h
theorem same_via {H H1 H2 : Hp} {p : Addr} (s : Same H H1) (f : H p = none) (b : But p H1 H2) : Same H H2 := fun c o h => b c o (s c o h) (ne_of_none h f)
theorem menu_strOk : ∀ z ∈ menuA, PyData.strOk z = true := by decide +kernel
def findsAll (z : Str) : Bool := (List.range z.length).all fun i => match z.cps.toList[i]? with
  | some c => askB z (.str ⟨#[c]⟩) && decide (Txt.find z ⟨#[c]⟩ = (i : Int))
  | none => false
theorem menu_finds2 : ∀ z ∈ menuA, findsAll z = true := by decide +kernel
theorem finds2 {z : Str} (h : z ∈ menuA) {i : Nat} (hi : i < z.length) : ∃ c, z.cps.toList[i]? = some c ∧ askB z (.str ⟨#[c]⟩) = true ∧ Txt.find z ⟨#[c]⟩ = (i : Int) := by
  have := List.all_eq_true.mp (menu_finds2 z h) i (List.mem_range.mpr hi)
  cases e : z.cps.toList[i]? with
  | none => rw [e] at this; cases this
  | some c =>
    rw [e] at this
    simp only [Bool.and_eq_true, decide_eq_true_eq] at this
    exact ⟨c, rfl, this.1, this.2⟩
theorem differ {z z2 : Str} {b b2 e e2 : List Int} {c c2 : List (List (List Int))} (h : ¬ (z = z2 ∧ b = b2 ∧ c = c2 ∧ e = e2)) : (decide (z = z2) && (decide (b = b2) && (decide (c = c2) && decide (e = e2)))) = false := by
  cases h1 : (decide (z = z2) && (decide (b = b2) && (decide (c = c2) && decide (e = e2)))) with
  | false => rfl
  | true =>
    simp only [Bool.and_eq_true, decide_eq_true_eq] at h1
    exact absurd ⟨h1.1, h1.2.1, h1.2.2.1, h1.2.2.2⟩ h
end Ow
namespace As
open PySem PySem.Spec PyProof PyProof.Rows L2 Ow
/-- the parts that the law's own body calls -/
structure Parts (P : Program) (w : World) (K : PySem.W.Frag) (mg : Str → Option Value) (base : Heap) (A : Ad) : Prop where
  src : Kp P w K mg base CX0 2 A.f__law_source ["_law_script", "_law_k"] (spSrc K)
  asks : Kp P w K mg base CX0 2 A.f__law_asks ["_law_source_here"] spLAsks
  draw : Kp P w K mg base CX0 1 A.f__law_draw ["_law_source_here", "_law_many"] spDraw
  world : Kp P w K mg base CX0 4 A.f__law_world ["_law_source_here", "_law_many", "_law_asks_here", "_law_most"] spWorld
  moved : Kp P w K mg base CX0 2 A.f__law_moved ["_law_source_here", "_law_world_here"] spMoved
  lists : Kp P w K mg base CX0 1 A.f__law_lists ["_law_world_here"] spLists
  storeis : Kp P w K mg base CX0 6 A.f__law_store_is ["_law_store", "_law_world_here"] (spStoreIs A.c_Store)
  init : Kp P w K mg base (L2.CX P w) 6 A.f_Store_init ["self", "asks", "begins", "costs", "ends"] (spSInit K A.c_Store A.c_BadAsks A.c_BadStore)
  slen : Kp P w K mg base CX0 1 A.f_Store_len ["self"] (spSLen A.c_Store)
  seq : Kp P w K mg base CX0 1 A.f_Store_eq ["self", "other"] (spSEq K A.c_Store)
  price : Kp P w K mg base (L2.CX P w) 4 A.f_Store_price ["self", "ask", "one", "other"] (spPrice K A.c_Store A.c_BadAsk A.c_BadState)
  exact : Kp P w K mg base CX0 5 A.f__law_exact ["_law_told", "_law_due"] (spExD 3)
  deep : Kp P w K mg base CX0 6 A.f__law_deep ["_law_thing"] (spDeep 4)
  other : Kp P w K mg base CX0 8 A.f__law_other ["_law_source_here", "_law_world_here"] (spOther A.c_Store)
  refused : ∀ g, ∃ fd, FnG P w K mg base 9 A.f__law_refused fd ["_law_source_here", "_law_world_here"] spRefused g ∧ Binds K fd ["_law_source_here", "_law_world_here"] [] ∧ PySem.W.keepIn K (.ref A.f__law_refused) = true
  pricer : ∀ g, ∃ fd, FnG P w K mg base 7 A.f__law_price_refused fd ["_law_source_here", "_law_store", "_law_world_here"] (spPriceR A.c_Store) g ∧ Binds K fd ["_law_source_here", "_law_store", "_law_world_here"] [] ∧ PySem.W.keepIn K (.ref A.f__law_price_refused) = true
section
variable {P : Program} {w : World} {K : PySem.W.Frag} {mg : Str → Option Value} {base : Heap} {A : Ad}
abbrev N_law : List Str := ["_law_script", "_law_source_here", "_law_asks_here", "_law_many", "_law_world_here", "_law_lists_here", "_law_store", "_law_turn", "_law_k", "_law_one", "_law_other_here", "_law_twin"]
theorem sc_law : FnScope N_law ["_law_script"] (defScope s_law) := ⟨rfl, rfl, rfl, by decide +kernel, rfl, by decide +kernel, by decide +kernel⟩
abbrev XL (P : Program) (w : World) (K : PySem.W.Frag) (mg : Str → Option Value) (base : Heap) (A : Ad) (cdv : Value) (A' : Around) (outer : List Env) (s : Shared) (H0 : Hp) (E : XK) : Cx := (cxOf CX0 P w K mg base N_law "law" (defScope s_law) A.f_law cdv A' outer s H0 E).nox
theorem scr_but {H H' : Hp} {a p : Addr} {ns : List Int} (b : But p H H') (h : (a ≠ p ∧ SqL K H a (ns.map V.int)) ∨ ∀ H', SqL K H' a (ns.map V.int)) : (a ≠ p ∧ SqL K H' a (ns.map V.int)) ∨ ∀ H', SqL K H' a (ns.map V.int) := by
  rcases h with ⟨n, q⟩ | q
  · exact .inl ⟨n, b.seqL n q⟩
  · exact .inr q
theorem scr_sq {H : Hp} {a p : Addr} {ns : List Int} (h : (a ≠ p ∧ SqL K H a (ns.map V.int)) ∨ ∀ H', SqL K H' a (ns.map V.int)) : SqL K H a (ns.map V.int) := by
  rcases h with ⟨_, q⟩ | q
  · exact q
  · exact q H
theorem scr_new {H H1 : Hp} {a p : Addr} {ns : List Int} (h : SqL K H a (ns.map V.int)) (n : H p = Option.none) (s : Same H H1) : (a ≠ p ∧ SqL K H1 a (ns.map V.int)) ∨ ∀ H', SqL K H' a (ns.map V.int) := by
  rcases h with (h | ⟨o, h⟩) | h
  · exact .inl ⟨ne_of_none h n, .inl (.inl (s _ _ h))⟩
  · exact .inl ⟨ne_of_none h n, .inl (.inr ⟨o, s _ _ h⟩)⟩
  · exact .inr fun H' => .inr h
/-- what holds once the world is made -/
structure C0 (K : PySem.W.Frag) (H : Hp) (a p : Addr) (x : V) (ns : List Int) (n : Nat) (z : Str) (b : List Int) (c : List (List (List Int))) (e : List Int) : Prop where
  scr : (a ≠ p ∧ SqL K H a (ns.map V.int)) ∨ ∀ H', SqL K H' a (ns.map V.int)
  src : Src H p
  tw : Th (wo H p) x (WD z b c e)
  gw : Gw n z b c e
  n4 : n ≤ 4
  mem : z ∈ menuA
  bd : Bd 100000000000000000 b
  bc : Bc 100000000000000000 c
theorem C0.but {H H' : Hp} {a p : Addr} {x : V} {ns : List Int} {n : Nat} {z : Str} {b e : List Int} {c : List (List (List Int))} (h : C0 K H a p x ns n z b c e) (bt : But p H H') (s : Src H' p) : C0 K H' a p x ns n z b c e :=
  ⟨scr_but bt h.scr, s, h.tw.mono (wo_but bt), h.gw, h.n4, h.mem, h.bd, h.bc⟩
theorem C0.same {H H' : Hp} {a p : Addr} {x : V} {ns : List Int} {n : Nat} {z : Str} {b e : List Int} {c : List (List (List Int))} (h : C0 K H a p x ns n z b c e) (s : Same H H') : C0 K H' a p x ns n z b c e := h.but (But.of s) (h.src.same s)
theorem is_but {C g : Addr} {H H' : Hp} {p : Addr} {z : Str} {b e : List Int} {c : List (List (List Int))} (h : IsS C H g z b c e) (s : Src H p) (bt : But p H H') : IsS C H' g z b c e := by
  obtain ⟨x, y, u, hx, _⟩ := s
  exact h.keep (KeepX.but hx bt)
theorem is_same {C g : Addr} {H H' : Hp} {z : Str} {b e : List Int} {c : List (List (List Int))} (h : IsS C H g z b c e) (bt : Same H H') : IsS C H' g z b c e := h.keep (KeepX.of bt)
end
end As

namespace As
open PySem PySem.Spec PyProof PyProof.Rows L2 Ow
section
variable {P : Program} {w : World} {K : PySem.W.Frag} {mg : Str → Option Value} {base : Heap} {A : Ad}
theorem segE {cdv : Value} {A' : Around} {outer : List Env} {s : Shared} {H0 : Hp} {E : XK} {g : List Code} (hgd : A'.guards = some g) (hr : Room 12 (A'.deeper (envOfC "law" (defScope s_law) s.heap.objs.size A.f_law cdv)))
    (T : Tx K mg A) (SC : SCls K A) (Pt : Parts P w K mg base A) : ∃ t, PSs (XL P w K mg base A cdv A' outer s H0 E) ((defBody s_law).drop 16) t ∧
    ∀ (Q : VK) (a p st : Addr) (x : V) (ns : List Int) (n : Nat) (z : Str) (b e : List Int) (c : List (List (List Int))) (o5 o7 o8 o9 o10 o11 : Option V) (H : Hp), C0 K H a p x ns n z b c e → IsS A.c_Store H st z b c e → (∀ H', Q (.bl true) H') →
      t { nx := fun _ H' => Q .non H', rt := Q } [some (.ref a), some (.ref p), some (.str z), some (.int (n : Int)), some x, o5, some (.ref st), o7, o8, o9, o10, o11] H := by
  obtain ⟨fd1, G__law_source, b__law_source, k__law_source⟩ := Pt.src
  obtain ⟨fd2, G__law_asks, b__law_asks, k__law_asks⟩ := Pt.asks
  obtain ⟨fd3, G__law_draw, b__law_draw, k__law_draw⟩ := Pt.draw
  obtain ⟨fd4, G__law_world, b__law_world, k__law_world⟩ := Pt.world
  obtain ⟨fd5, G__law_moved, b__law_moved, k__law_moved⟩ := Pt.moved
  obtain ⟨fd6, G__law_lists, b__law_lists, k__law_lists⟩ := Pt.lists
  obtain ⟨fd7, G__law_store_is, b__law_store_is, k__law_store_is⟩ := Pt.storeis
  obtain ⟨fd8, G_Store_init, b_Store_init, k_Store_init⟩ := Pt.init
  obtain ⟨fd9, G_Store_len, b_Store_len, k_Store_len⟩ := Pt.slen
  obtain ⟨fd10, G_Store_eq, b_Store_eq, k_Store_eq⟩ := Pt.seq
  obtain ⟨fd11, G_Store_price, b_Store_price, k_Store_price⟩ := Pt.price
  obtain ⟨fd12, G__law_exact, b__law_exact, k__law_exact⟩ := Pt.exact
  obtain ⟨fd13, G__law_deep, b__law_deep, k__law_deep⟩ := Pt.deep
  obtain ⟨fd14, G__law_other, b__law_other, k__law_other⟩ := Pt.other
  obtain ⟨fd15, G__law_refused, b__law_refused, k__law_refused⟩ := Pt.refused g
  obtain ⟨fd16, G__law_price_refused, b__law_price_refused, k__law_price_refused⟩ := Pt.pricer g
  have nd := sc_law.nd
  refine ⟨_, (pss_cons (ps_ret (pe_and (pe_callG G__law_refused hgd (hr.mono (by omega)) rfl T.m_law_refused k__law_refused b__law_refused (pa_cons (pe_call G__law_source (hr.mono (by omega)) rfl T.m_law_source k__law_source b__law_source .nil pass0 (pa_cons (pv 0) (pa_cons pe_int pa_nil))) (pa_cons (pv 4) pa_nil))) (pe_one (pe_callG G__law_price_refused hgd (hr.mono (by omega)) rfl T.m_law_price_refused k__law_price_refused b__law_price_refused (pa_cons (pv 1) (pa_cons (pv 6) (pa_cons (pv 4) pa_nil)))))))
  pss_nil), ?_⟩
  intro Q a p st x ns n z b e c o5 o7 o8 o9 o10 o11 H ck is q
  obtain ⟨az, _, _, _, z4, z1⟩ := menu_more z ck.mem
  have n4 := ck.n4
  refine ⟨_, rfl, a, ns, 4, rfl, scr_sq ck.scr, fun p4 H1 s1 f4 g4 => ⟨_, rfl, p4, x, n, z, b, e, c, rfl, g4, ck.tw.mono (wo_new s1 f4), ck.gw, by omega, z1, az, ck.bd, fun H2 bt => ⟨_, rfl, iteT ?_⟩⟩⟩
  have s2 := same_via s1 f4 bt
  have ck2 := ck.same s2
  exact ⟨_, rfl, _, rfl, _, rfl, p, st, x, n, z, b, e, c, rfl, ck2.src, is_same is s2, ck2.tw, ck.gw, by omega, ck.mem, q⟩
theorem segD {cdv : Value} {A' : Around} {outer : List Env} {s : Shared} {H0 : Hp} {E : XK} {g : List Code} (hgd : A'.guards = some g) (hr : Room 12 (A'.deeper (envOfC "law" (defScope s_law) s.heap.objs.size A.f_law cdv)))
    (T : Tx K mg A) (SC : SCls K A) (Pt : Parts P w K mg base A) : ∃ t, PSs (XL P w K mg base A cdv A' outer s H0 E) ((defBody s_law).drop 13) t ∧
    ∀ (Q : VK) (a p st : Addr) (x : V) (ns : List Int) (n : Nat) (z : Str) (b e : List Int) (c : List (List (List Int))) (o5 o7 o8 o9 o10 o11 : Option V) (H : Hp), C0 K H a p x ns n z b c e → IsS A.c_Store H st z b c e → (∀ H', Q (.bl true) H') →
      t { nx := fun _ H' => Q .non H', rt := Q } [some (.ref a), some (.ref p), some (.str z), some (.int (n : Int)), some x, o5, some (.ref st), o7, o8, o9, o10, o11] H := by
  obtain ⟨fd1, G__law_source, b__law_source, k__law_source⟩ := Pt.src
  obtain ⟨fd2, G__law_asks, b__law_asks, k__law_asks⟩ := Pt.asks
  obtain ⟨fd3, G__law_draw, b__law_draw, k__law_draw⟩ := Pt.draw
  obtain ⟨fd4, G__law_world, b__law_world, k__law_world⟩ := Pt.world
  obtain ⟨fd5, G__law_moved, b__law_moved, k__law_moved⟩ := Pt.moved
  obtain ⟨fd6, G__law_lists, b__law_lists, k__law_lists⟩ := Pt.lists
  obtain ⟨fd7, G__law_store_is, b__law_store_is, k__law_store_is⟩ := Pt.storeis
  obtain ⟨fd8, G_Store_init, b_Store_init, k_Store_init⟩ := Pt.init
  obtain ⟨fd9, G_Store_len, b_Store_len, k_Store_len⟩ := Pt.slen
  obtain ⟨fd10, G_Store_eq, b_Store_eq, k_Store_eq⟩ := Pt.seq
  obtain ⟨fd11, G_Store_price, b_Store_price, k_Store_price⟩ := Pt.price
  obtain ⟨fd12, G__law_exact, b__law_exact, k__law_exact⟩ := Pt.exact
  obtain ⟨fd13, G__law_deep, b__law_deep, k__law_deep⟩ := Pt.deep
  obtain ⟨fd14, G__law_other, b__law_other, k__law_other⟩ := Pt.other
  obtain ⟨fd15, G__law_refused, b__law_refused, k__law_refused⟩ := Pt.refused g
  obtain ⟨fd16, G__law_price_refused, b__law_price_refused, k__law_price_refused⟩ := Pt.pricer g
  have nd := sc_law.nd
  obtain ⟨tn, dn, nxt⟩ := segE (E := E) (H0 := H0) (outer := outer) hgd hr T SC Pt
  refine ⟨_, (pss_cons (ps_set (i := 11) nd rfl (by first | exact Or.inl rfl | exact Or.inr rfl) (pe_make SC.mkr G_Store_init (hr.mono (by omega)) (by rfl) T.mStore b_Store_init .nil passL (pa_cons (pv 2) (pa_cons (pe_callTy (show CallR _ _ (rTupOf K) from cr_tupOf) (by rfl) T.ntuple (by decide +kernel) (pa_cons (pe_ix ix_list (pv 4) pe_int (fun _ _ => rfl)) pa_nil)) (pa_cons (pe_call G__law_deep (hr.mono (by omega)) rfl T.m_law_deep k__law_deep b__law_deep .nil pass0 (pa_cons (pe_ix ix_list (pv 4) pe_int (fun _ _ => rfl)) pa_nil)) (pa_cons (pe_callTy (show CallR _ _ (rTupOf K) from cr_tupOf) (by rfl) T.ntuple (by decide +kernel) (pa_cons (pe_ix ix_list (pv 4) pe_int (fun _ _ => rfl)) pa_nil)) pa_nil))))))
  (pss_cons (ps_if (PW.pt (pw_or (pt_cmpR op_notBl (pe_cmpR (op_eqO G_Store_eq (hr.mono (by omega)) SC.eqF SC.eqN b_Store_eq pass0) (pv 6) (pv 11) (nomark _)) pe_bl (nomark _)) (pw_or1 (pt_cmpR op_notBl (pe_cmpR (op_eqO G_Store_eq (hr.mono (by omega)) SC.eqF SC.eqN b_Store_eq pass0) (pv 6) (pe_call G__law_other (hr.mono (by omega)) rfl T.m_law_other k__law_other b__law_other .nil pass0 (pa_cons (pe_call G__law_source (hr.mono (by omega)) rfl T.m_law_source k__law_source b__law_source .nil pass0 (pa_cons (pv 0) (pa_cons pe_int pa_nil))) (pa_cons (pv 4) pa_nil))) (nomark _)) pe_bl (nomark _))))) (pss_one (ps_ret pe_bl)) pss_nil)
  (pss_cons (ps_if (PW.pt (pw_or (pt_cmpR op_notBl (pe_cmpR (op_eqO G_Store_eq (hr.mono (by omega)) SC.eqF SC.eqN b_Store_eq pass0) (pv 6) (pe_call G__law_deep (hr.mono (by omega)) rfl T.m_law_deep k__law_deep b__law_deep .nil pass0 (pa_cons (pv 4) pa_nil)) (nomark _)) pe_bl (nomark _)) (pw_or1 (pt_cmpR op_notBl (pe_cmpR (op_eqO G_Store_eq (hr.mono (by omega)) SC.eqF SC.eqN b_Store_eq pass0) (pv 6) (pv 2) (nomark _)) pe_bl (nomark _))))) (pss_one (ps_ret pe_bl)) pss_nil)
  dn))), ?_⟩
  intro Q a p st x ns n z b e c o5 o7 o8 o9 o10 o11 H ck is q
  obtain ⟨az, _, _, _, z4, z1⟩ := menu_more z ck.mem
  have n4 := ck.n4
  have zl : z.length ≤ sizeLine := Nat.le_trans z4 (by decide)
  have gb := ck.gw.lb
  have ge := ck.gw.le
  have gn1 := ck.gw.n1
  obtain ⟨lw, vb, vc, ve, rfl, hw, _, tb, tc, te⟩ := (ck.tw.mono wo_sub).wd
  obtain ⟨kb, rfl, hb⟩ := tb.il
  obtain ⟨ke, rfl, he⟩ := te.il
  refine ⟨_, rfl, _, rfl, lw, _, 1, .ref kb, rfl, rfl, SqL.of hw, atI_nat (j := 1) rfl, kb, _, rfl, .inl ⟨SqL.of hb, fun m1 hm1 => ?_⟩⟩
  have s1 := same_new (o := .tup (b.map V.int)) hm1
  have tb1 : Th (upd H m1 (.tup (b.map V.int))) (.ref m1) (IT b) := .tup upd_same (by rw [List.length_map]; exact Nat.le_trans (show b.length ≤ 4 by omega) (by decide)) (ints_th b)
  generalize upd H m1 (.tup (b.map V.int)) = H1 at s1 tb1 ⊢
  refine ⟨_, rfl, lw, _, 2, vc, rfl, rfl, SqL.of (s1 _ _ hw), atI_nat (j := 2) rfl, vc, CL c, rfl, tc.mono s1, Nat.le_trans (dep_CL c) (by decide), pl_CL c, fun v2 H2 s2 u2 => ?_⟩
  rw [deep_CL] at u2
  have s12 := s1.trans s2
  refine ⟨_, rfl, lw, _, 3, .ref ke, rfl, rfl, SqL.of (s12 _ _ hw), atI_nat (j := 3) rfl, ke, _, rfl, .inl ⟨SqL.of (s12 _ _ he), fun m3 hm3 => ?_⟩⟩
  have s3 := same_new (o := .tup (e.map V.int)) hm3
  have te3 : Th (upd H2 m3 (.tup (e.map V.int))) (.ref m3) (IT e) := .tup upd_same (by rw [List.length_map]; exact Nat.le_trans (show e.length ≤ 4 by omega) (by decide)) (ints_th e)
  show ∀ sx dx, upd H2 m3 (.tup (e.map V.int)) sx = none → upd H2 m3 (.tup (e.map V.int)) dx = none → dx ≠ sx → _
  generalize upd H2 m3 (.tup (e.map V.int)) = H3 at s3 te3 ⊢
  have s13 := s12.trans s3
  have ib : (itemsD (IT b)).length = n := by show (b.map PyData.int).length = n; rw [List.length_map]; exact gb
  refine fun sx dx hsx hdx _ => make_goodS az zl (tb1.mono (s2.trans s3)) (u2.th.mono s3) te3 (beg_IT (by omega) (by omega)) (by rw [ib]; exact tabs_CT ck.gw.lc ck.gw.lt) (ints_IT (by rw [ib, ge])) rfl (deep_CT c) rfl hsx hdx fun H4 s4 is2 => ⟨rfl, ?_⟩
  have s14 := s13.trans s4
  have tyG : ∀ {H' : Hp} {g2 : Addr} {z2 : Str} {b2 e2 : List Int} {c2 : List (List (List Int))}, IsS A.c_Store H' g2 z2 b2 c2 e2 → TyX K H' (.ref g2) (.ref A.c_Store) := fun {H' g2 z2 b2 e2 c2} h => by
    obtain ⟨dx, v1, v2, v3, hg, _⟩ := h
    exact .base (.ins hg SC.cls SC.hcl SC.hgs SC.htk SC.hm)
  obtain ⟨dx4, u1, u3, u4, hg4, uu⟩ := is_same is s14
  refine ⟨_, rfl, _, rfl, st, dx4, _, _, rfl, hg4, tyG is2, SC.nfG, st, .ref sx, z, b, e, c, rfl, ⟨dx4, u1, u3, u4, hg4, uu⟩, .inr (.inr ⟨sx, z, b, c, e, rfl, is2, ⟨_, rfl, ?_⟩⟩)⟩
  rw [decide_eq_true rfl, decide_eq_true rfl, decide_eq_true rfl, decide_eq_true rfl]
  refine ⟨true, true, rfl, rfl, _, rfl, iteF ?_⟩
  have ck4 := ck.same s14
  refine ⟨_, rfl, _, rfl, a, ns, 3, rfl, scr_sq ck4.scr, fun p3 H5 s5 f5 g5 => ⟨_, rfl, p3, .ref lw, n, z, b, e, c, rfl, g5, ck4.tw.mono (wo_new s5 f5), ck.gw, by omega, ck.mem, ck.bc, fun s3x z2 b2 c2 e2 H6 bt is3 df => ?_⟩⟩
  have s46 := same_via s5 f5 bt
  obtain ⟨dx6, w1, w3, w4, hg6, ww⟩ := is_same is (s14.trans s46)
  refine ⟨st, dx6, _, _, rfl, hg6, tyG is3, SC.nfG, st, .ref s3x, z, b, e, c, rfl, ⟨dx6, w1, w3, w4, hg6, ww⟩, .inr (.inr ⟨s3x, z2, b2, c2, e2, rfl, is3, ⟨_, rfl, ?_⟩⟩)⟩
  rw [differ df]
  refine ⟨false, false, rfl, rfl, _, rfl, iteF ?_⟩
  have s06 := s14.trans s46
  refine ⟨_, rfl, _, rfl, .ref lw, WD z b c e, rfl, (ck.tw.mono wo_sub).mono s06, dep_WD z b e c, pl_WD z b e c, fun v7 H7 s7 u7 => ?_⟩
  have e7 : deepD (WD z b c e) = .tuple [.str z, IT b, CTt c, IT e] := by
    unfold WD
    rw [deepD, deepAll_map]
    show PyData.tuple [.str z, deepD (IL b), deepD (CL c), deepD (IL e)] = _
    rw [deep_IL, deep_CL, deep_IL]
  rw [e7] at u7
  obtain ⟨l7, xs7, rfl, hl7, _⟩ := Tt.tupOf u7
  have s07 := s06.trans s7
  obtain ⟨dx7, y1, y3, y4, hg7, yy⟩ := is_same is s07
  refine ⟨st, dx7, _, _, rfl, hg7, .base (.tup hl7), SC.nfT, st, .ref l7, z, b, e, c, rfl, ⟨dx7, y1, y3, y4, hg7, yy⟩, .inr (.inl ⟨l7, xs7, rfl, hl7, ⟨_, rfl, ?_⟩⟩)⟩
  refine ⟨false, false, rfl, rfl, _, rfl, iteF ?_⟩
  refine ⟨_, rfl, _, rfl, st, dx7, _, _, rfl, hg7, .base (.str _), SC.nfS, st, .str z, z, b, e, c, rfl, ⟨dx7, y1, y3, y4, hg7, yy⟩, .inl ⟨z, rfl, ⟨_, rfl, ?_⟩⟩⟩
  refine ⟨false, false, rfl, rfl, _, rfl, iteF ?_⟩
  exact nxt Q a p st (.ref lw) ns n z b e c o5 o7 o8 o9 o10 _ H7 (ck.same s07) ⟨dx7, y1, y3, y4, hg7, yy⟩ q
end
end As

namespace As
open PySem PySem.Spec PyProof PyProof.Rows L2 Ow
section
variable {P : Program} {w : World} {K : PySem.W.Frag} {mg : Str → Option Value} {base : Heap} {A : Ad}
theorem segC {cdv : Value} {A' : Around} {outer : List Env} {s : Shared} {H0 : Hp} {E : XK} {g : List Code} (hgd : A'.guards = some g) (hr : Room 12 (A'.deeper (envOfC "law" (defScope s_law) s.heap.objs.size A.f_law cdv)))
    (T : Tx K mg A) (SC : SCls K A) (Pt : Parts P w K mg base A) : ∃ t, PSs (XL P w K mg base A cdv A' outer s H0 E) ((defBody s_law).drop 11) t ∧
    ∀ (Q : VK) (a p st : Addr) (x : V) (ns : List Int) (n : Nat) (z : Str) (b e : List Int) (c : List (List (List Int))) (o5 o7 o8 o9 o10 o11 : Option V) (H : Hp), C0 K H a p x ns n z b c e → IsS A.c_Store H st z b c e → (∀ H', Q (.bl true) H') →
      t { nx := fun _ H' => Q .non H', rt := Q } [some (.ref a), some (.ref p), some (.str z), some (.int (n : Int)), some x, o5, some (.ref st), o7, o8, o9, o10, o11] H := by
  obtain ⟨fd1, G__law_source, b__law_source, k__law_source⟩ := Pt.src
  obtain ⟨fd2, G__law_asks, b__law_asks, k__law_asks⟩ := Pt.asks
  obtain ⟨fd3, G__law_draw, b__law_draw, k__law_draw⟩ := Pt.draw
  obtain ⟨fd4, G__law_world, b__law_world, k__law_world⟩ := Pt.world
  obtain ⟨fd5, G__law_moved, b__law_moved, k__law_moved⟩ := Pt.moved
  obtain ⟨fd6, G__law_lists, b__law_lists, k__law_lists⟩ := Pt.lists
  obtain ⟨fd7, G__law_store_is, b__law_store_is, k__law_store_is⟩ := Pt.storeis
  obtain ⟨fd8, G_Store_init, b_Store_init, k_Store_init⟩ := Pt.init
  obtain ⟨fd9, G_Store_len, b_Store_len, k_Store_len⟩ := Pt.slen
  obtain ⟨fd10, G_Store_eq, b_Store_eq, k_Store_eq⟩ := Pt.seq
  obtain ⟨fd11, G_Store_price, b_Store_price, k_Store_price⟩ := Pt.price
  obtain ⟨fd12, G__law_exact, b__law_exact, k__law_exact⟩ := Pt.exact
  obtain ⟨fd13, G__law_deep, b__law_deep, k__law_deep⟩ := Pt.deep
  obtain ⟨fd14, G__law_other, b__law_other, k__law_other⟩ := Pt.other
  obtain ⟨fd15, G__law_refused, b__law_refused, k__law_refused⟩ := Pt.refused g
  obtain ⟨fd16, G__law_price_refused, b__law_price_refused, k__law_price_refused⟩ := Pt.pricer g
  have nd := sc_law.nd
  obtain ⟨tn, dn, nxt⟩ := segD (E := E) (H0 := H0) (outer := outer) hgd hr T SC Pt
  refine ⟨_, (pss_cons (ps_if (pt_not (pt_val (pe_call G__law_store_is (hr.mono (by omega)) rfl T.m_law_store_is k__law_store_is b__law_store_is .nil pass0 (pa_cons (pv 6) (pa_cons (pv 4) pa_nil))))) (pss_one (ps_ret pe_bl)) pss_nil)
  (pss_cons (ps_for PassesOwn.never rfl (pi_range1 (by rfl) T.nrange (pa_cons pe_int pa_nil)) (pg_name (i := 7) nd rfl (by first | exact Or.inl rfl | exact Or.inr rfl)) (pss_cons (ps_set (i := 8) nd rfl (by first | exact Or.inl rfl | exact Or.inr rfl) (pe_call G__law_draw (hr.mono (by omega)) rfl T.m_law_draw k__law_draw b__law_draw .nil pass0 (pa_cons (pv 1) (pa_cons (pe_callB call_len_str (by rfl) T.nlen (by decide +kernel) (pa_cons (pv 2) pa_nil)) pa_nil))))
  (pss_cons (ps_set (i := 9) nd rfl (by first | exact Or.inl rfl | exact Or.inr rfl) (pe_call G__law_draw (hr.mono (by omega)) rfl T.m_law_draw k__law_draw b__law_draw .nil pass0 (pa_cons (pv 1) (pa_cons (pv 3) pa_nil))))
  (pss_cons (ps_set (i := 10) nd rfl (by first | exact Or.inl rfl | exact Or.inr rfl) (pe_call G__law_draw (hr.mono (by omega)) rfl T.m_law_draw k__law_draw b__law_draw .nil pass0 (pa_cons (pv 1) (pa_cons (pv 3) pa_nil))))
  (pss_one (ps_if (pt_not (pt_val (pe_call G__law_exact (hr.mono (by omega)) rfl T.m_law_exact k__law_exact b__law_exact .nil pass0 (pa_cons (pe_meth (pv 6) SC.cls SC.mPrice G_Store_price (hr.mono (by omega)) b_Store_price .nil passL (pa_cons (pe_ix ix_str (pv 2) (pv 8) (fun _ _ => rfl)) (pa_cons (pv 9) (pa_cons (pv 10) pa_nil)))) (pa_cons (pe_ix ix_list (pe_ix ix_list (pe_ix ix_list (pe_ix ix_list (pv 4) pe_int (fun _ _ => rfl)) (pv 8) (fun _ _ => rfl)) (pv 9) (fun _ _ => rfl)) (pv 10) (fun _ _ => rfl)) pa_nil))))) (pss_one (ps_ret pe_bl)) pss_nil))))))
  dn)), ?_⟩
  intro Q a p st x ns n z b e c o5 o7 o8 o9 o10 o11 H ck is q
  obtain ⟨az, _, _, _, z4, z1⟩ := menu_more z ck.mem
  have n4 := ck.n4
  have zl : z.length ≤ sizeLine := Nat.le_trans z4 (by decide)
  have gb := ck.gw.lb
  have gn1 := ck.gw.n1
  refine ⟨_, rfl, _, rfl, st, x, n, z, b, e, c, rfl, is, ck.tw.mono wo_sub, ck.gw, fun H1 s1 => ⟨_, rfl, iteF ?_⟩⟩
  have ck1 := ck.same s1
  have is1 := is_same is s1
  refine ⟨3, rfl, by decide, by decide, for_range (lo := 0) (n := (3 : Int).toNat) (fun i σ H' => (∃ o7 o8 o9 o10, σ = [some (V.ref a), some (.ref p), some (.str z), some (.int (n : Int)), some x, o5, some (.ref st), o7, o8, o9, o10, o11]) ∧ C0 K H' a p x ns n z b c e ∧ IsS A.c_Store H' st z b c e) ⟨⟨_, _, _, _, rfl⟩, ck1, is1⟩ ?_ ?_⟩
  · rintro i σ H2 hi ⟨⟨o7, o8, o9, o10, rfl⟩, ck2, is2⟩
    refine ⟨_, rfl, _, rfl, z, rfl, zl, p, (z.length : Int), rfl, ck2.src, by omega, by omega, fun k H3 k0 k1 g3 b3 => ?_⟩
    obtain ⟨k, rfl⟩ : ∃ j : Nat, k = (j : Int) := ⟨k.toNat, by omega⟩
    have ck3 := ck2.but b3 g3
    have is3 := is_but is2 ck2.src b3
    refine ⟨_, rfl, _, rfl, p, (n : Int), rfl, g3, by omega, by omega, fun u H4 u0 u1 g4 b4 => ?_⟩
    obtain ⟨u, rfl⟩ : ∃ j : Nat, u = (j : Int) := ⟨u.toNat, by omega⟩
    have ck4 := ck3.but b4 g4
    have is4 := is_but is3 ck3.src b4
    refine ⟨_, rfl, _, rfl, p, (n : Int), rfl, g4, by omega, by omega, fun y H5 y0 y1 g5 b5 => ?_⟩
    obtain ⟨y, rfl⟩ : ∃ j : Nat, y = (j : Int) := ⟨y.toNat, by omega⟩
    have ck5 := ck4.but b5 g5
    have is5 := is_but is4 ck4.src b5
    obtain ⟨lw, vb, vc, ve, rfl, hw, _, tb, tc, te⟩ := (ck5.tw.mono wo_sub).wd
    obtain ⟨kc, cs, rfl, hc, rc⟩ := Th.lstOf tc
    have gc := ck.gw.lc
    obtain ⟨t, et⟩ : ∃ t, c[k]? = some t := ⟨_, List.getElem?_eq_getElem (by omega)⟩
    have stq := ck.gw.lt t (List.mem_of_getElem? et)
    have st1 := stq.1
    obtain ⟨row, er⟩ : ∃ r, t[u]? = some r := ⟨_, List.getElem?_eq_getElem (by omega)⟩
    have lrow := stq.2 row (List.mem_of_getElem? er)
    obtain ⟨v, ev⟩ : ∃ v, row[y]? = some v := ⟨_, List.getElem?_eq_getElem (by omega)⟩
    obtain ⟨yt, eyt, tyt⟩ := rc.got (i := k) (d := TL' t) (by rw [List.getElem?_map, et]; rfl)
    obtain ⟨lt, ys, rfl, hlt, rlt⟩ := Th.lstOf tyt
    obtain ⟨yr, eyr, tyr⟩ := rlt.got (i := u) (d := IL row) (by rw [List.getElem?_map, er]; rfl)
    obtain ⟨lr, rfl, hlr⟩ := tyr.il
    obtain ⟨ca, eca, yca, fca⟩ := finds2 ck.mem (i := k) (by omega)
    obtain ⟨dx, w1, w2, w3, hg, ww⟩ := is5
    have is5 : IsS A.c_Store H5 st z b c e := ⟨dx, w1, w2, w3, hg, ww⟩
    have be : ∀ j : Nat, j < n → belowD b.length (.int (j : Int)) = true := fun j hj => by
      rw [belowD_int, decide_eq_true (by omega), decide_eq_true (by omega)]
      rfl
    refine ⟨_, rfl, st, dx, _, rfl, hg, rfl, _, rfl, _, rfl, z, (k : Int), ca, rfl, rfl, zl, atI_nat eca, _, rfl, _, rfl, st, .str ⟨#[ca]⟩, .int (u : Int), .int (y : Int), .int (u : Int), .int (y : Int), z, b, e, c, rfl, is5, knownS (by show 1 ≤ sizeLine; decide), .int _, .int _, fun no => ?_, fun _ => ⟨fun n1 => ?_, fun _ => ⟨fun n2 => ?_, fun _ => ⟨⟨#[ca]⟩, k, u, y, t, row, v, rfl, rfl, rfl, fca, et, er, ev, fun H6 s6 => ?_⟩⟩⟩⟩
    · rw [yca] at no; cases no
    · rw [be u (by omega)] at n1; cases n1
    · rw [be y (by omega)] at n2; cases n2
    · refine ⟨_, rfl, lw, _, 2, .ref kc, rfl, rfl, SqL.of (s6 _ _ hw), atI_nat (j := 2) rfl, _, rfl, kc, _, (k : Int), .ref lt, rfl, rfl, SqL.of (s6 _ _ hc), atI_nat eyt, _, rfl, lt, _, (u : Int), .ref lr, rfl, rfl, SqL.of (s6 _ _ hlt), atI_nat eyr, _, rfl, lr, _, (y : Int), .int v, rfl, rfl, SqL.of (s6 _ _ hlr), atI_nat (by rw [List.getElem?_map, ev]; rfl), .int v, .int v, .int v, rfl, .int v, .int v, (by rw [PyData.depth]; decide), fun H7 s7 => ⟨_, rfl, iteF ?_⟩⟩
      have s57 := s6.trans s7
      exact ⟨⟨_, _, _, _, rfl⟩, ck5.same s57, is_same is5 s57⟩
  · rintro σ H2 ⟨⟨o7, o8, o9, o10, rfl⟩, ck2, is2⟩
    exact nxt Q a p st x ns n z b e c o5 o7 o8 o9 o10 o11 H2 ck2 is2 q
end
end As

namespace As
open PySem PySem.Spec PyProof PyProof.Rows L2 Ow
section
variable {P : Program} {w : World} {K : PySem.W.Frag} {mg : Str → Option Value} {base : Heap} {A : Ad}
theorem segB {cdv : Value} {A' : Around} {outer : List Env} {s : Shared} {H0 : Hp} {E : XK} {g : List Code} (hgd : A'.guards = some g) (hr : Room 12 (A'.deeper (envOfC "law" (defScope s_law) s.heap.objs.size A.f_law cdv)))
    (T : Tx K mg A) (SC : SCls K A) (Pt : Parts P w K mg base A) : ∃ t, PSs (XL P w K mg base A cdv A' outer s H0 E) ((defBody s_law).drop 4) t ∧
    ∀ (Q : VK) (a p : Addr) (x : V) (ns : List Int) (n : Nat) (z : Str) (b e : List Int) (c : List (List (List Int))) (H : Hp), C0 K H a p x ns n z b c e → (∀ H', Q (.bl true) H') →
      t { nx := fun _ H' => Q .non H', rt := Q } [some (.ref a), some (.ref p), some (.str z), some (.int (n : Int)), some x, none, none, none, none, none, none, none] H := by
  obtain ⟨fd1, G__law_source, b__law_source, k__law_source⟩ := Pt.src
  obtain ⟨fd2, G__law_asks, b__law_asks, k__law_asks⟩ := Pt.asks
  obtain ⟨fd3, G__law_draw, b__law_draw, k__law_draw⟩ := Pt.draw
  obtain ⟨fd4, G__law_world, b__law_world, k__law_world⟩ := Pt.world
  obtain ⟨fd5, G__law_moved, b__law_moved, k__law_moved⟩ := Pt.moved
  obtain ⟨fd6, G__law_lists, b__law_lists, k__law_lists⟩ := Pt.lists
  obtain ⟨fd7, G__law_store_is, b__law_store_is, k__law_store_is⟩ := Pt.storeis
  obtain ⟨fd8, G_Store_init, b_Store_init, k_Store_init⟩ := Pt.init
  obtain ⟨fd9, G_Store_len, b_Store_len, k_Store_len⟩ := Pt.slen
  obtain ⟨fd10, G_Store_eq, b_Store_eq, k_Store_eq⟩ := Pt.seq
  obtain ⟨fd11, G_Store_price, b_Store_price, k_Store_price⟩ := Pt.price
  obtain ⟨fd12, G__law_exact, b__law_exact, k__law_exact⟩ := Pt.exact
  obtain ⟨fd13, G__law_deep, b__law_deep, k__law_deep⟩ := Pt.deep
  obtain ⟨fd14, G__law_other, b__law_other, k__law_other⟩ := Pt.other
  obtain ⟨fd15, G__law_refused, b__law_refused, k__law_refused⟩ := Pt.refused g
  obtain ⟨fd16, G__law_price_refused, b__law_price_refused, k__law_price_refused⟩ := Pt.pricer g
  have nd := sc_law.nd
  obtain ⟨tn, dn, nxt⟩ := segC (E := E) (H0 := H0) (outer := outer) hgd hr T SC Pt
  refine ⟨_, (pss_cons (ps_set (i := 5) nd rfl (by first | exact Or.inl rfl | exact Or.inr rfl) (pe_call G__law_lists (hr.mono (by omega)) rfl T.m_law_lists k__law_lists b__law_lists .nil pass0 (pa_cons (pv 4) pa_nil)))
  (pss_cons (ps_set (i := 6) nd rfl (by first | exact Or.inl rfl | exact Or.inr rfl) (pe_make SC.mkr G_Store_init (hr.mono (by omega)) (by rfl) T.mStore b_Store_init .nil passL (pa_cons (pe_ix ix_list (pv 5) pe_int (fun _ _ => rfl)) (pa_cons (pe_ix ix_list (pv 5) pe_int (fun _ _ => rfl)) (pa_cons (pe_ix ix_list (pv 5) pe_int (fun _ _ => rfl)) (pa_cons (pe_ix ix_list (pv 5) pe_int (fun _ _ => rfl)) pa_nil))))))
  (pss_cons (ps_if (PW.pt (pw_or (pt_not (pt_val (pe_call G__law_store_is (hr.mono (by omega)) rfl T.m_law_store_is k__law_store_is b__law_store_is .nil pass0 (pa_cons (pv 6) (pa_cons (pv 4) pa_nil))))) (pw_or1 (pt_cmpR op_ne (pe_callB (call_lenO G_Store_len (hr.mono (by omega)) SC.lenF SC.lenN b_Store_len pass0) (by rfl) T.nlen (by decide +kernel) (pa_cons (pv 6) pa_nil)) (pv 3) (nomark _))))) (pss_one (ps_ret pe_bl)) pss_nil)
  (pss_cons (ps_if (pt_cmpR (op_neD hr.units) (pv 5) (pe_call G__law_lists (hr.mono (by omega)) rfl T.m_law_lists k__law_lists b__law_lists .nil pass0 (pa_cons (pv 4) pa_nil)) (nomark _)) (pss_one (ps_ret pe_bl)) pss_nil)
  (pss_cons (ps_asg pe_str (pg_sub (pe_ix ix_list (pv 5) pe_int (fun _ _ => rfl)) pe_int set_list))
  (pss_cons (ps_asg pe_non (pg_sub (pe_ix ix_list (pe_ix ix_list (pe_ix ix_list (pv 5) pe_int (fun _ _ => rfl)) (pe_un un_neg pe_int) (fun _ _ => rfl)) pe_int (fun _ _ => rfl)) pe_int set_list))
  (pss_cons (ps_expr (pe_bm PySem.F.plainAttrs_list PySem.F.slot_list_append PySem.F.type_list_append mt_append (pe_ix ix_list (pv 5) pe_int (fun _ _ => rfl)) (pa_cons pe_int pa_nil)))
  dn))))))), ?_⟩
  intro Q a p x ns n z b e c H ck q
  obtain ⟨az, _, _, _, z4, z1⟩ := menu_more z ck.mem
  have n4 := ck.n4
  have zl : z.length ≤ sizeLine := Nat.le_trans z4 (by decide)
  have gb := ck.gw.lb
  have ge := ck.gw.le
  have gc := ck.gw.lc
  have gn1 := ck.gw.n1
  refine ⟨_, rfl, x, n, z, b, e, c, rfl, ck.tw.mono wo_sub, ck.gw, fun L l1 D l2 Gc H1 s1 lw => ?_⟩
  have ib : (itemsD (IL b)).length = n := by show (b.map PyData.int).length = n; rw [List.length_map]; exact gb
  refine ⟨_, rfl, L, _, 0, .str z, rfl, rfl, SqL.of lw.at_, atI_nat (j := 0) rfl, _, rfl, L, _, 1, .ref l1, rfl, rfl, SqL.of lw.at_, atI_nat (j := 1) rfl, _, rfl, L, _, 2, .ref D, rfl, rfl, SqL.of lw.at_, atI_nat (j := 2) rfl, _, rfl, L, _, 3, .ref l2, rfl, rfl, SqL.of lw.at_, atI_nat (j := 3) rfl, ?_⟩
  refine fun sx dx hsx hdx _ => make_goodS az zl (il_th lw.a1 (by omega)) (lw.tc.mono lw.sub) (il_th lw.a2 (by omega)) (beg_IL (by omega) (by omega)) (by rw [ib]; exact tabs_CL gc ck.gw.lt) (ints_IL (by rw [ib, ge])) rfl (deep_CL c) rfl hsx hdx fun H2 s2 is2 => ⟨rfl, ?_⟩
  have s12 := s1.trans s2
  have ck2 := ck.same s12
  refine ⟨_, rfl, _, rfl, sx, x, n, z, b, e, c, rfl, is2, ck2.tw.mono wo_sub, ck.gw, fun H3 s3 => ⟨_, rfl, iteF ?_⟩⟩
  obtain ⟨dx3, w1, w2, w3, hg3, ww⟩ := is_same is2 s3
  have is3 : IsS A.c_Store H3 sx z b c e := ⟨dx3, w1, w2, w3, hg3, ww⟩
  refine ⟨_, rfl, sx, dx3, _, rfl, hg3, sx, z, b, e, c, rfl, is3, b.length, rfl, by omega, _, rfl, rfl, _, rfl, iteNS (by rw [gb]) ?_⟩
  have ck3 := ck2.same s3
  have s13 := s2.trans s3
  refine ⟨_, rfl, _, rfl, x, n, z, b, e, c, rfl, ck3.tw.mono wo_sub, ck.gw, fun L' l1' D' l2' Gc' H4 s4 lw' => ?_⟩
  have s14 := s13.trans s4
  have shp := sh_WD (menu_strOk z ck.mem) b e c
  refine ⟨WD z b c e, WD z b c e, ((lw.th (by omega) (by omega)).mono s14).dp (pl_WD z b e c), (lw'.th (by omega) (by omega)).dp (pl_WD z b e c), shp, shp, _, rfl, ?_⟩
  rw [eqv_self shp]
  refine iteF ?_
  have is4 := is_same is3 s4
  have h1 := s14 _ _ lw.a1
  have h2 := s14 _ _ lw.a2
  have hL := s14 _ _ lw.at_
  have sG : Same Gc H4 := fun a o h => s14 _ _ (lw.sub _ _ h)
  -- the lists are spoilt
  refine ⟨_, rfl, L, _, 1, .ref l1, rfl, rfl, SqL.of hL, atI_nat (j := 1) rfl, l1, _, 0, 0, rfl, rfl, h1, ?_, ?_⟩
  · unfold ixN
    rw [if_pos (by decide), if_pos (by rw [List.length_map]; omega)]
    rfl
  obtain ⟨t, et⟩ : ∃ t, c[c.length - 1]? = some t := ⟨_, List.getElem?_eq_getElem (by omega)⟩
  have stq := ck.gw.lt t (List.mem_of_getElem? et)
  have st1 := stq.1
  obtain ⟨row, er⟩ : ∃ r, t[0]? = some r := ⟨_, List.getElem?_eq_getElem (by omega)⟩
  have lrow := stq.2 row (List.mem_of_getElem? er)
  obtain ⟨D', xs, eD, hD, rD⟩ := Th.lstOf lw.tc
  cases eD
  obtain ⟨yt, eyt, tyt⟩ := rD.got (i := c.length - 1) (d := TL' t) (by rw [List.getElem?_map, et]; rfl)
  obtain ⟨lt, ys, rfl, hlt, rlt⟩ := Th.lstOf tyt
  obtain ⟨yr, eyr, tyr⟩ := rlt.got (i := 0) (d := IL row) (by rw [List.getElem?_map, er]; rfl)
  obtain ⟨lr, rfl, hlr⟩ := tyr.il
  have lxs : xs.length = c.length := by rw [rD.len, List.length_map]
  have nG1 : ∀ {a : Addr} {o : HO}, Gc a = some o → a ≠ l1 := fun h z => by rw [z, lw.g1] at h; cases h
  have nG2 : ∀ {a : Addr} {o : HO}, Gc a = some o → a ≠ l2 := fun h z => by rw [z, lw.g2] at h; cases h
  have nGL : ∀ {a : Addr} {o : HO}, Gc a = some o → a ≠ L := fun h z => by rw [z, lw.gL] at h; cases h
  have b4 : But p H H4 := But.of (s1.trans s14)
  have g4 : Src H4 p := ck.src.same (s1.trans s14)
  obtain ⟨po, hpo⟩ := ck.src.some
  have p1 : p ≠ l1 := ne_of_none hpo lw.f1
  have p2 : p ≠ l2 := ne_of_none hpo lw.f2
  have pr : p ≠ lr := ne_of_none hpo (lw.fr _ _ hlr)
  have b5 : But p H (upd H4 l1 (.lst ((b.map V.int).set 0 (.str "spoilt")))) := but_updF b4 lw.f1
  have g5 : Src (upd H4 l1 (.lst ((b.map V.int).set 0 (.str "spoilt")))) p := src_upd g4 p1
  have is5 := is4.keep (KeepX.upd (o := .lst ((b.map V.int).set 0 (.str "spoilt"))) h1)
  have hL5 : (upd H4 l1 (.lst ((b.map V.int).set 0 (.str "spoilt")))) L = some (.lst [.str z, .ref l1, .ref D, .ref l2]) := by rw [upd_ne lw.n1L.symm]; exact hL
  have h25 : (upd H4 l1 (.lst ((b.map V.int).set 0 (.str "spoilt")))) l2 = some (.lst (e.map V.int)) := by rw [upd_ne lw.n12.symm]; exact h2
  have sG5 : Same Gc (upd H4 l1 (.lst ((b.map V.int).set 0 (.str "spoilt")))) := fun a o h => by rw [upd_ne (nG1 h)]; exact sG _ _ h
  generalize upd H4 l1 (.lst ((b.map V.int).set 0 (.str "spoilt"))) = H5 at b5 g5 is5 hL5 h25 sG5 ⊢
  refine ⟨_, rfl, L, _, 2, .ref D, rfl, rfl, SqL.of hL5, atI_nat (j := 2) rfl, 1, rfl, D, xs, -1, .ref lt, rfl, rfl, SqL.of (sG5 _ _ hD), atI_neg (k := 1) (j := c.length - 1) (by omega) (by omega) eyt, lt, ys, 0, .ref lr, rfl, rfl, SqL.of (sG5 _ _ hlt), atI_nat (j := 0) eyr, lr, _, 0, 0, rfl, rfl, sG5 _ _ hlr, ?_, ?_⟩
  · unfold ixN
    rw [if_pos (by decide), if_pos (by rw [List.length_map]; omega)]
    rfl
  have b6 : But p H (upd H5 lr (.lst ((row.map V.int).set 0 .non))) := but_updF b5 (lw.fr _ _ hlr)
  have g6 : Src (upd H5 lr (.lst ((row.map V.int).set 0 .non))) p := src_upd g5 pr
  have is6 := is5.keep (KeepX.upd (o := .lst ((row.map V.int).set 0 .non)) (sG5 _ _ hlr))
  have hL6 : (upd H5 lr (.lst ((row.map V.int).set 0 .non))) L = some (.lst [.str z, .ref l1, .ref D, .ref l2]) := by rw [upd_ne (nGL hlr).symm]; exact hL5
  have h26 : (upd H5 lr (.lst ((row.map V.int).set 0 .non))) l2 = some (.lst (e.map V.int)) := by rw [upd_ne (nG2 hlr).symm]; exact h25
  generalize upd H5 lr (.lst ((row.map V.int).set 0 .non)) = H6 at b6 g6 is6 hL6 h26 ⊢
  refine ⟨_, rfl, L, _, 3, .ref l2, rfl, rfl, SqL.of hL6, atI_nat (j := 3) rfl, .inl ⟨rfl, _, SqL.of h26⟩, l2, _, _, rfl, rfl, h26, (by rw [List.length_map]; exact Nat.lt_of_lt_of_le (show e.length < 5 by omega) (by decide)), ?_⟩
  have b7 : But p H (upd H6 l2 (.lst (e.map V.int ++ [.int 1]))) := but_updF b6 lw.f2
  have g7 : Src (upd H6 l2 (.lst (e.map V.int ++ [.int 1]))) p := src_upd g6 p2
  have is7 := is6.keep (KeepX.upd (o := .lst (e.map V.int ++ [.int 1])) h26)
  exact nxt Q a p sx x ns n z b e c _ _ _ _ _ _ _ (ck.but b7 g7) is7 q
theorem segA {cdv : Value} {A' : Around} {outer : List Env} {s : Shared} {H0 : Hp} {E : XK} {g : List Code} (hgd : A'.guards = some g) (hr : Room 12 (A'.deeper (envOfC "law" (defScope s_law) s.heap.objs.size A.f_law cdv)))
    (T : Tx K mg A) (SC : SCls K A) (Pt : Parts P w K mg base A) : ∃ t, PSs (XL P w K mg base A cdv A' outer s H0 E) ((defBody s_law).drop 0) t ∧
    ∀ (Q : VK) (a : Addr) (ns : List Int) (H : Hp), SqL K H a (ns.map V.int) → (∀ H', Q (.bl true) H') →
      t { nx := fun _ H' => Q .non H', rt := Q } (L2.start N_law [.ref a]) H := by
  obtain ⟨fd1, G__law_source, b__law_source, k__law_source⟩ := Pt.src
  obtain ⟨fd2, G__law_asks, b__law_asks, k__law_asks⟩ := Pt.asks
  obtain ⟨fd3, G__law_draw, b__law_draw, k__law_draw⟩ := Pt.draw
  obtain ⟨fd4, G__law_world, b__law_world, k__law_world⟩ := Pt.world
  obtain ⟨fd5, G__law_moved, b__law_moved, k__law_moved⟩ := Pt.moved
  obtain ⟨fd6, G__law_lists, b__law_lists, k__law_lists⟩ := Pt.lists
  obtain ⟨fd7, G__law_store_is, b__law_store_is, k__law_store_is⟩ := Pt.storeis
  obtain ⟨fd8, G_Store_init, b_Store_init, k_Store_init⟩ := Pt.init
  obtain ⟨fd9, G_Store_len, b_Store_len, k_Store_len⟩ := Pt.slen
  obtain ⟨fd10, G_Store_eq, b_Store_eq, k_Store_eq⟩ := Pt.seq
  obtain ⟨fd11, G_Store_price, b_Store_price, k_Store_price⟩ := Pt.price
  obtain ⟨fd12, G__law_exact, b__law_exact, k__law_exact⟩ := Pt.exact
  obtain ⟨fd13, G__law_deep, b__law_deep, k__law_deep⟩ := Pt.deep
  obtain ⟨fd14, G__law_other, b__law_other, k__law_other⟩ := Pt.other
  obtain ⟨fd15, G__law_refused, b__law_refused, k__law_refused⟩ := Pt.refused g
  obtain ⟨fd16, G__law_price_refused, b__law_price_refused, k__law_price_refused⟩ := Pt.pricer g
  have nd := sc_law.nd
  obtain ⟨tn, dn, nxt⟩ := segB (E := E) (H0 := H0) (outer := outer) hgd hr T SC Pt
  refine ⟨_, (pss_cons (ps_set (i := 1) nd rfl (by first | exact Or.inl rfl | exact Or.inr rfl) (pe_call G__law_source (hr.mono (by omega)) rfl T.m_law_source k__law_source b__law_source .nil pass0 (pa_cons (pv 0) (pa_cons pe_int pa_nil))))
  (pss_cons (ps_set (i := 2) nd rfl (by first | exact Or.inl rfl | exact Or.inr rfl) (pe_call G__law_asks (hr.mono (by omega)) rfl T.m_law_asks k__law_asks b__law_asks .nil pass0 (pa_cons (pv 1) pa_nil)))
  (pss_cons (ps_set (i := 3) nd rfl (by first | exact Or.inl rfl | exact Or.inr rfl) (pe_op op_add pe_int (pe_call G__law_draw (hr.mono (by omega)) rfl T.m_law_draw k__law_draw b__law_draw .nil pass0 (pa_cons (pv 1) (pa_cons pe_int pa_nil)))))
  (pss_cons (ps_set (i := 4) nd rfl (by first | exact Or.inl rfl | exact Or.inr rfl) (pe_call G__law_moved (hr.mono (by omega)) rfl T.m_law_moved k__law_moved b__law_moved .nil pass0 (pa_cons (pe_call G__law_source (hr.mono (by omega)) rfl T.m_law_source k__law_source b__law_source .nil pass0 (pa_cons (pv 0) (pa_cons pe_int pa_nil))) (pa_cons (pe_call G__law_world (hr.mono (by omega)) rfl T.m_law_world k__law_world b__law_world .nil pass0 (pa_cons (pe_call G__law_source (hr.mono (by omega)) rfl T.m_law_source k__law_source b__law_source .nil pass0 (pa_cons (pv 0) (pa_cons pe_int pa_nil))) (pa_cons (pv 3) (pa_cons (pv 2) (pa_cons pe_int pa_nil))))) pa_nil))))
  dn)))), ?_⟩
  intro Q a ns H hS q
  refine ⟨_, rfl, a, ns, 0, rfl, hS, fun p H1 s1 f1 gs1 => ?_⟩
  have sc1 := scr_new hS f1 s1
  refine ⟨_, rfl, p, rfl, gs1, fun z H2 mem gs2 b2 => ?_⟩
  have sc2 := scr_but b2 sc1
  obtain ⟨az, _, _, _, z4, z1⟩ := menu_more z mem
  refine ⟨_, rfl, p, 4, rfl, gs2, by decide, by decide, fun d H3 d0 d1 gs3 b3 => ?_⟩
  have sc3 := scr_but b3 sc2
  obtain ⟨m, rfl⟩ : ∃ m : Nat, d = (m : Int) := ⟨d.toNat, by omega⟩
  refine ⟨_, _, rfl, rfl, ?_⟩
  show gName 3 (V.int (1 + (m : Int))) _ _ _
  rw [show (1 : Int) + (m : Int) = ((m + 1 : Nat) : Int) by omega]
  refine ⟨_, rfl, a, ns, 1, rfl, scr_sq sc3, fun p1 H4 s4 f4 gs4 => ?_⟩
  have sc4 := scr_but (But.of s4) sc3
  refine ⟨_, rfl, a, ns, 2, rfl, scr_sq sc4, fun p2 H5 s5 f5 gs5 => ?_⟩
  refine ⟨_, rfl, _, rfl, p2, m + 1, z, 4, rfl, gs5, by omega, by omega, by omega, by decide, by decide, fun v b c e H6 t6 gw bd bc gs6 b6 => ?_⟩
  have s46 : Same H4 H6 := same_via s5 f5 b6
  have s36 := s4.trans s46
  obtain ⟨o1, ho1⟩ := gs4.some
  refine ⟨p1, v, H5, m + 1, z, b, e, c, rfl, gs4.same s46, ⟨o1, s5 _ _ ho1⟩, Dom.but b6 gs6, t6, gw, bd, bc, fun v7 b7 c7 e7 H7 t7 gw7 bd7 bc7 gs7 bt7 => ?_⟩
  have s37 : Same H3 H7 := same_via s36 f4 bt7
  obtain ⟨o3, ho3⟩ := gs3.some
  exact nxt Q a p v7 ns (m + 1) z b7 e7 c7 H7 ⟨scr_but (But.of s37) sc3, gs3.same s37, t7.mono (nw_wo ((s4.trans s5) _ _ ho3)), gw7, by omega, mem, bd7, bc7⟩ q
def spLaw (K : PySem.W.Frag) : Sp := fun vs H Q _ => ∃ (a : Addr) (ns : List Int), vs = [.ref a] ∧ SqL K H a (ns.map V.int) ∧ ∀ H', Q (.bl true) H'
theorem ok_law {fd : FuncData} {g : List Code} (F : Fun K "law" "law" s_law A.f_law fd) (T : Tx K mg A) (SC : SCls K A) (Pt : Parts P w K mg base A) : FnG P w K mg base 13 A.f_law fd ["_law_script"] (spLaw K) g := by
  refine okG F sc_law (fun vs H Q E h => ?_) (fun cdv A' outer s H vs Q E hgd hr h => ?_)
  · obtain ⟨a, ns, rfl, _⟩ := h
    rfl
  · obtain ⟨a, ns, rfl, hS, q⟩ := h
    obtain ⟨t, ht, hq⟩ := segA (E := E) (H0 := H) (outer := outer) hgd hr T SC Pt
    exact ⟨t, ht, hq Q a ns H hS q⟩
end
end As

namespace As
open PySem PySem.Spec PyProof.Rows L2 Ow
theorem all_mk {P : Program} {w : World} {K : PySem.W.Frag} {h : Heap} {mg : Str → Option Value} {fa f_WrongThing_init f_BadStore_init f_is_integer f_is_tuple f_is_below f_is_tuple_of f_are_integers f_is_asks f_check_asks f_check_ask f_check_state f_check_like_asks f_Store_init f_Store_price f_Store_len f_Store_eq f_are_tables f_is_table f_sums f_summed_tables f__law_cell f__law_source f__law_draw f__law_is_int f__law_exact f__law_deep f__law_asks f__law_prices f__law_any_table f__law_change f__law_changes f__law_served f__law_world f__law_raised f__law_moved f__law_lists f__law_store_is f__law_part f__law_bad_asks f__law_bad_line f__law_bad_costs f__law_bad_ends f__law_refused f__law_price_error f__law_price_refused f__law_other f_law c_AfterError c_WrongThing c_WrongItem c_BadAsks c_BadAsk c_BadState c_BadStore c_Unlike c_TooMany c_Store : Addr} {t_LETTERS t_MOST_ASKS t_MOST_STATES : Tok}
    {od_is_integer an_is_integer od_is_tuple an_is_tuple od_is_below an_is_below od_is_tuple_of an_is_tuple_of od_are_integers an_are_integers od_is_asks an_is_asks od_check_asks an_check_asks od_check_ask an_check_ask od_check_state an_check_state od_check_like_asks an_check_like_asks od_are_tables an_are_tables od_is_table an_is_table od_sums an_sums od_summed_tables an_summed_tables od__law_cell an__law_cell od__law_source an__law_source od__law_draw an__law_draw od__law_is_int an__law_is_int od__law_exact an__law_exact od__law_deep an__law_deep od__law_asks an__law_asks od__law_prices an__law_prices od__law_any_table an__law_any_table od__law_change an__law_change od__law_changes an__law_changes od__law_served an__law_served od__law_world an__law_world od__law_raised an__law_raised od__law_moved an__law_moved od__law_lists an__law_lists od__law_store_is an__law_store_is od__law_part an__law_part od__law_bad_asks an__law_bad_asks od__law_bad_line an__law_bad_line od__law_bad_costs an__law_bad_costs od__law_bad_ends an__law_bad_ends od__law_refused an__law_refused od__law_price_error an__law_price_error od__law_price_refused an__law_price_refused od__law_other an__law_other od_law an_law od_WrongThing_init an_WrongThing_init od_BadStore_init an_BadStore_init od_Store_init an_Store_init od_Store_price an_Store_price od_Store_len an_Store_len od_Store_eq an_Store_eq : Option Addr} {sl_is_integer sl_is_tuple sl_is_below sl_is_tuple_of sl_are_integers sl_is_asks sl_check_asks sl_check_ask sl_check_state sl_check_like_asks sl_are_tables sl_is_table sl_sums sl_summed_tables sl__law_cell sl__law_source sl__law_draw sl__law_is_int sl__law_exact sl__law_deep sl__law_asks sl__law_prices sl__law_any_table sl__law_change sl__law_changes sl__law_served sl__law_world sl__law_raised sl__law_moved sl__law_lists sl__law_store_is sl__law_part sl__law_bad_asks sl__law_bad_line sl__law_bad_costs sl__law_bad_ends sl__law_refused sl__law_price_error sl__law_price_refused sl__law_other sl_law sl_WrongThing_init sl_BadStore_init sl_Store_init sl_Store_price sl_Store_len sl_Store_eq : Array (Option Value)}
    {oc_is_integer dc_is_integer pm_is_integer cd_is_integer ct_is_integer kV_is_integer oc_is_tuple dc_is_tuple pm_is_tuple cd_is_tuple ct_is_tuple kV_is_tuple oc_is_below dc_is_below pm_is_below cd_is_below ct_is_below kV_is_below oc_is_tuple_of dc_is_tuple_of pm_is_tuple_of cd_is_tuple_of ct_is_tuple_of kV_is_tuple_of oc_are_integers dc_are_integers pm_are_integers cd_are_integers ct_are_integers kV_are_integers oc_is_asks dc_is_asks pm_is_asks cd_is_asks ct_is_asks kV_is_asks oc_check_asks dc_check_asks pm_check_asks cd_check_asks ct_check_asks kV_check_asks oc_check_ask dc_check_ask pm_check_ask cd_check_ask ct_check_ask kV_check_ask oc_check_state dc_check_state pm_check_state cd_check_state ct_check_state kV_check_state oc_check_like_asks dc_check_like_asks pm_check_like_asks cd_check_like_asks ct_check_like_asks kV_check_like_asks oc_are_tables dc_are_tables pm_are_tables cd_are_tables ct_are_tables kV_are_tables oc_is_table dc_is_table pm_is_table cd_is_table ct_is_table kV_is_table oc_sums dc_sums pm_sums cd_sums ct_sums kV_sums oc_summed_tables dc_summed_tables pm_summed_tables cd_summed_tables ct_summed_tables kV_summed_tables oc__law_cell dc__law_cell pm__law_cell cd__law_cell ct__law_cell kV__law_cell oc__law_source dc__law_source pm__law_source cd__law_source ct__law_source kV__law_source oc__law_draw dc__law_draw pm__law_draw cd__law_draw ct__law_draw kV__law_draw oc__law_is_int dc__law_is_int pm__law_is_int cd__law_is_int ct__law_is_int kV__law_is_int oc__law_exact dc__law_exact pm__law_exact cd__law_exact ct__law_exact kV__law_exact oc__law_deep dc__law_deep pm__law_deep cd__law_deep ct__law_deep kV__law_deep oc__law_asks dc__law_asks pm__law_asks cd__law_asks ct__law_asks kV__law_asks oc__law_prices dc__law_prices pm__law_prices cd__law_prices ct__law_prices kV__law_prices oc__law_any_table dc__law_any_table pm__law_any_table cd__law_any_table ct__law_any_table kV__law_any_table oc__law_change dc__law_change pm__law_change cd__law_change ct__law_change kV__law_change oc__law_changes dc__law_changes pm__law_changes cd__law_changes ct__law_changes kV__law_changes oc__law_served dc__law_served pm__law_served cd__law_served ct__law_served kV__law_served oc__law_world dc__law_world pm__law_world cd__law_world ct__law_world kV__law_world oc__law_raised dc__law_raised pm__law_raised cd__law_raised ct__law_raised kV__law_raised oc__law_moved dc__law_moved pm__law_moved cd__law_moved ct__law_moved kV__law_moved oc__law_lists dc__law_lists pm__law_lists cd__law_lists ct__law_lists kV__law_lists oc__law_store_is dc__law_store_is pm__law_store_is cd__law_store_is ct__law_store_is kV__law_store_is oc__law_part dc__law_part pm__law_part cd__law_part ct__law_part kV__law_part oc__law_bad_asks dc__law_bad_asks pm__law_bad_asks cd__law_bad_asks ct__law_bad_asks kV__law_bad_asks oc__law_bad_line dc__law_bad_line pm__law_bad_line cd__law_bad_line ct__law_bad_line kV__law_bad_line oc__law_bad_costs dc__law_bad_costs pm__law_bad_costs cd__law_bad_costs ct__law_bad_costs kV__law_bad_costs oc__law_bad_ends dc__law_bad_ends pm__law_bad_ends cd__law_bad_ends ct__law_bad_ends kV__law_bad_ends oc__law_refused dc__law_refused pm__law_refused cd__law_refused ct__law_refused kV__law_refused oc__law_price_error dc__law_price_error pm__law_price_error cd__law_price_error ct__law_price_error kV__law_price_error oc__law_price_refused dc__law_price_refused pm__law_price_refused cd__law_price_refused ct__law_price_refused kV__law_price_refused oc__law_other dc__law_other pm__law_other cd__law_other ct__law_other kV__law_other oc_law dc_law pm_law cd_law ct_law kV_law oc_WrongThing_init dc_WrongThing_init pm_WrongThing_init cd_WrongThing_init ct_WrongThing_init oc_BadStore_init dc_BadStore_init pm_BadStore_init cd_BadStore_init ct_BadStore_init oc_Store_init dc_Store_init pm_Store_init cd_Store_init ct_Store_init kV_Store_init oc_Store_price dc_Store_price pm_Store_price cd_Store_price ct_Store_price kV_Store_price oc_Store_len dc_Store_len pm_Store_len cd_Store_len ct_Store_len kV_Store_len oc_Store_eq dc_Store_eq pm_Store_eq cd_Store_eq ct_Store_eq kV_Store_eq : Value}
    {nm_BadAsks q_BadAsks : Str} {N_BadAsks0 : Addr} {bs_BadAsks : List Value} {sn_BadAsks : List Str} {sub_BadAsks : List Value} {ab_BadAsks : Bool} {col_BadAsks : Option Bool} {dd_BadAsks : Option Addr} {m0_BadAsks m1_BadAsks m2_BadAsks m3_BadAsks m5_BadAsks : Option Value}
    {nm_BadAsk q_BadAsk : Str} {N_BadAsk0 : Addr} {bs_BadAsk : List Value} {sn_BadAsk : List Str} {sub_BadAsk : List Value} {ab_BadAsk : Bool} {col_BadAsk : Option Bool} {dd_BadAsk : Option Addr} {m0_BadAsk m1_BadAsk m2_BadAsk m3_BadAsk m5_BadAsk : Option Value}
    {nm_BadState q_BadState : Str} {N_BadState0 : Addr} {bs_BadState : List Value} {sn_BadState : List Str} {sub_BadState : List Value} {ab_BadState : Bool} {col_BadState : Option Bool} {dd_BadState : Option Addr} {m0_BadState m1_BadState m2_BadState m3_BadState m5_BadState : Option Value}
    {nm_BadStore q_BadStore : Str} {N_BadStore0 : Addr} {bs_BadStore : List Value} {sn_BadStore : List Str} {sub_BadStore : List Value} {ab_BadStore : Bool} {col_BadStore : Option Bool} {dd_BadStore : Option Addr} {m0_BadStore m1_BadStore m2_BadStore m3_BadStore m5_BadStore : Option Value}
    (X : K.In h) (G : h.Ns mainGlobals mg) (hfa : mg "law" = some (.ref fa))
    (n_NotImplemented : PySem.W.nsIn K mainGlobals "NotImplemented" = some none)
    (n_ValueError : PySem.W.nsIn K mainGlobals "ValueError" = some none)
    (n_abs : PySem.W.nsIn K mainGlobals "abs" = some none)
    (n_all : PySem.W.nsIn K mainGlobals "all" = some none)
    (n_bool : PySem.W.nsIn K mainGlobals "bool" = some none)
    (n_int : PySem.W.nsIn K mainGlobals "int" = some none)
    (n_isinstance : PySem.W.nsIn K mainGlobals "isinstance" = some none)
    (n_len : PySem.W.nsIn K mainGlobals "len" = some none)
    (n_list : PySem.W.nsIn K mainGlobals "list" = some none)
    (n_max : PySem.W.nsIn K mainGlobals "max" = some none)
    (n_range : PySem.W.nsIn K mainGlobals "range" = some none)
    (n_repr : PySem.W.nsIn K mainGlobals "repr" = some none)
    (n_str : PySem.W.nsIn K mainGlobals "str" = some none)
    (n_sum : PySem.W.nsIn K mainGlobals "sum" = some none)
    (n_tuple : PySem.W.nsIn K mainGlobals "tuple" = some none)
    (n_zip : PySem.W.nsIn K mainGlobals "zip" = some none)
    (m_LETTERS : PySem.W.nsIn K mainGlobals "LETTERS" = some (some (.str "abcdefgh" t_LETTERS)))
    (m_MOST_ASKS : PySem.W.nsIn K mainGlobals "MOST_ASKS" = some (some (.int 4 t_MOST_ASKS)))
    (m_MOST_STATES : PySem.W.nsIn K mainGlobals "MOST_STATES" = some (some (.int 1000 t_MOST_STATES)))
    (m_AfterError : PySem.W.nsIn K mainGlobals "AfterError" = some (some (.ref c_AfterError)))
    (m_WrongThing : PySem.W.nsIn K mainGlobals "WrongThing" = some (some (.ref c_WrongThing)))
    (m_WrongItem : PySem.W.nsIn K mainGlobals "WrongItem" = some (some (.ref c_WrongItem)))
    (m_BadAsks : PySem.W.nsIn K mainGlobals "BadAsks" = some (some (.ref c_BadAsks)))
    (m_BadAsk : PySem.W.nsIn K mainGlobals "BadAsk" = some (some (.ref c_BadAsk)))
    (m_BadState : PySem.W.nsIn K mainGlobals "BadState" = some (some (.ref c_BadState)))
    (m_BadStore : PySem.W.nsIn K mainGlobals "BadStore" = some (some (.ref c_BadStore)))
    (m_Unlike : PySem.W.nsIn K mainGlobals "Unlike" = some (some (.ref c_Unlike)))
    (m_TooMany : PySem.W.nsIn K mainGlobals "TooMany" = some (some (.ref c_TooMany)))
    (m_Store : PySem.W.nsIn K mainGlobals "Store" = some (some (.ref c_Store)))
    (a_is_integer : PySem.W.nsIn K mainGlobals "is_integer" = some (some (.ref f_is_integer)))
    (l_is_integer : K.lookup f_is_integer = some ⟨oc_is_integer, od_is_integer, .func (PySem.W.fnOf "is_integer" "is_integer" (defArgs s_is_integer) (defBody s_is_integer) (defScope s_is_integer) .none kV_is_integer dc_is_integer pm_is_integer an_is_integer cd_is_integer ct_is_integer), sl_is_integer⟩)
    (cc_is_integer : PySem.W.codeIn K cd_is_integer "is_integer" = true)
    (kk_is_integer : PySem.W.keepIn K (.ref f_is_integer) = true)
    (a_is_tuple : PySem.W.nsIn K mainGlobals "is_tuple" = some (some (.ref f_is_tuple)))
    (l_is_tuple : K.lookup f_is_tuple = some ⟨oc_is_tuple, od_is_tuple, .func (PySem.W.fnOf "is_tuple" "is_tuple" (defArgs s_is_tuple) (defBody s_is_tuple) (defScope s_is_tuple) .none kV_is_tuple dc_is_tuple pm_is_tuple an_is_tuple cd_is_tuple ct_is_tuple), sl_is_tuple⟩)
    (cc_is_tuple : PySem.W.codeIn K cd_is_tuple "is_tuple" = true)
    (kk_is_tuple : PySem.W.keepIn K (.ref f_is_tuple) = true)
    (a_is_below : PySem.W.nsIn K mainGlobals "is_below" = some (some (.ref f_is_below)))
    (l_is_below : K.lookup f_is_below = some ⟨oc_is_below, od_is_below, .func (PySem.W.fnOf "is_below" "is_below" (defArgs s_is_below) (defBody s_is_below) (defScope s_is_below) .none kV_is_below dc_is_below pm_is_below an_is_below cd_is_below ct_is_below), sl_is_below⟩)
    (cc_is_below : PySem.W.codeIn K cd_is_below "is_below" = true)
    (kk_is_below : PySem.W.keepIn K (.ref f_is_below) = true)
    (a_is_tuple_of : PySem.W.nsIn K mainGlobals "is_tuple_of" = some (some (.ref f_is_tuple_of)))
    (l_is_tuple_of : K.lookup f_is_tuple_of = some ⟨oc_is_tuple_of, od_is_tuple_of, .func (PySem.W.fnOf "is_tuple_of" "is_tuple_of" (defArgs s_is_tuple_of) (defBody s_is_tuple_of) (defScope s_is_tuple_of) .none kV_is_tuple_of dc_is_tuple_of pm_is_tuple_of an_is_tuple_of cd_is_tuple_of ct_is_tuple_of), sl_is_tuple_of⟩)
    (cc_is_tuple_of : PySem.W.codeIn K cd_is_tuple_of "is_tuple_of" = true)
    (kk_is_tuple_of : PySem.W.keepIn K (.ref f_is_tuple_of) = true)
    (a_are_integers : PySem.W.nsIn K mainGlobals "are_integers" = some (some (.ref f_are_integers)))
    (l_are_integers : K.lookup f_are_integers = some ⟨oc_are_integers, od_are_integers, .func (PySem.W.fnOf "are_integers" "are_integers" (defArgs s_are_integers) (defBody s_are_integers) (defScope s_are_integers) .none kV_are_integers dc_are_integers pm_are_integers an_are_integers cd_are_integers ct_are_integers), sl_are_integers⟩)
    (cc_are_integers : PySem.W.codeIn K cd_are_integers "are_integers" = true)
    (kk_are_integers : PySem.W.keepIn K (.ref f_are_integers) = true)
    (a_is_asks : PySem.W.nsIn K mainGlobals "is_asks" = some (some (.ref f_is_asks)))
    (l_is_asks : K.lookup f_is_asks = some ⟨oc_is_asks, od_is_asks, .func (PySem.W.fnOf "is_asks" "is_asks" (defArgs s_is_asks) (defBody s_is_asks) (defScope s_is_asks) .none kV_is_asks dc_is_asks pm_is_asks an_is_asks cd_is_asks ct_is_asks), sl_is_asks⟩)
    (cc_is_asks : PySem.W.codeIn K cd_is_asks "is_asks" = true)
    (kk_is_asks : PySem.W.keepIn K (.ref f_is_asks) = true)
    (a_check_asks : PySem.W.nsIn K mainGlobals "check_asks" = some (some (.ref f_check_asks)))
    (l_check_asks : K.lookup f_check_asks = some ⟨oc_check_asks, od_check_asks, .func (PySem.W.fnOf "check_asks" "check_asks" (defArgs s_check_asks) (defBody s_check_asks) (defScope s_check_asks) .none kV_check_asks dc_check_asks pm_check_asks an_check_asks cd_check_asks ct_check_asks), sl_check_asks⟩)
    (cc_check_asks : PySem.W.codeIn K cd_check_asks "check_asks" = true)
    (kk_check_asks : PySem.W.keepIn K (.ref f_check_asks) = true)
    (a_check_ask : PySem.W.nsIn K mainGlobals "check_ask" = some (some (.ref f_check_ask)))
    (l_check_ask : K.lookup f_check_ask = some ⟨oc_check_ask, od_check_ask, .func (PySem.W.fnOf "check_ask" "check_ask" (defArgs s_check_ask) (defBody s_check_ask) (defScope s_check_ask) .none kV_check_ask dc_check_ask pm_check_ask an_check_ask cd_check_ask ct_check_ask), sl_check_ask⟩)
    (cc_check_ask : PySem.W.codeIn K cd_check_ask "check_ask" = true)
    (kk_check_ask : PySem.W.keepIn K (.ref f_check_ask) = true)
    (a_check_state : PySem.W.nsIn K mainGlobals "check_state" = some (some (.ref f_check_state)))
    (l_check_state : K.lookup f_check_state = some ⟨oc_check_state, od_check_state, .func (PySem.W.fnOf "check_state" "check_state" (defArgs s_check_state) (defBody s_check_state) (defScope s_check_state) .none kV_check_state dc_check_state pm_check_state an_check_state cd_check_state ct_check_state), sl_check_state⟩)
    (cc_check_state : PySem.W.codeIn K cd_check_state "check_state" = true)
    (kk_check_state : PySem.W.keepIn K (.ref f_check_state) = true)
    (a_check_like_asks : PySem.W.nsIn K mainGlobals "check_like_asks" = some (some (.ref f_check_like_asks)))
    (l_check_like_asks : K.lookup f_check_like_asks = some ⟨oc_check_like_asks, od_check_like_asks, .func (PySem.W.fnOf "check_like_asks" "check_like_asks" (defArgs s_check_like_asks) (defBody s_check_like_asks) (defScope s_check_like_asks) .none kV_check_like_asks dc_check_like_asks pm_check_like_asks an_check_like_asks cd_check_like_asks ct_check_like_asks), sl_check_like_asks⟩)
    (cc_check_like_asks : PySem.W.codeIn K cd_check_like_asks "check_like_asks" = true)
    (kk_check_like_asks : PySem.W.keepIn K (.ref f_check_like_asks) = true)
    (a_are_tables : PySem.W.nsIn K mainGlobals "are_tables" = some (some (.ref f_are_tables)))
    (l_are_tables : K.lookup f_are_tables = some ⟨oc_are_tables, od_are_tables, .func (PySem.W.fnOf "are_tables" "are_tables" (defArgs s_are_tables) (defBody s_are_tables) (defScope s_are_tables) .none kV_are_tables dc_are_tables pm_are_tables an_are_tables cd_are_tables ct_are_tables), sl_are_tables⟩)
    (cc_are_tables : PySem.W.codeIn K cd_are_tables "are_tables" = true)
    (kk_are_tables : PySem.W.keepIn K (.ref f_are_tables) = true)
    (a_is_table : PySem.W.nsIn K mainGlobals "is_table" = some (some (.ref f_is_table)))
    (l_is_table : K.lookup f_is_table = some ⟨oc_is_table, od_is_table, .func (PySem.W.fnOf "is_table" "is_table" (defArgs s_is_table) (defBody s_is_table) (defScope s_is_table) .none kV_is_table dc_is_table pm_is_table an_is_table cd_is_table ct_is_table), sl_is_table⟩)
    (cc_is_table : PySem.W.codeIn K cd_is_table "is_table" = true)
    (kk_is_table : PySem.W.keepIn K (.ref f_is_table) = true)
    (a_sums : PySem.W.nsIn K mainGlobals "sums" = some (some (.ref f_sums)))
    (l_sums : K.lookup f_sums = some ⟨oc_sums, od_sums, .func (PySem.W.fnOf "sums" "sums" (defArgs s_sums) (defBody s_sums) (defScope s_sums) .none kV_sums dc_sums pm_sums an_sums cd_sums ct_sums), sl_sums⟩)
    (cc_sums : PySem.W.codeIn K cd_sums "sums" = true)
    (kk_sums : PySem.W.keepIn K (.ref f_sums) = true)
    (a_summed_tables : PySem.W.nsIn K mainGlobals "summed_tables" = some (some (.ref f_summed_tables)))
    (l_summed_tables : K.lookup f_summed_tables = some ⟨oc_summed_tables, od_summed_tables, .func (PySem.W.fnOf "summed_tables" "summed_tables" (defArgs s_summed_tables) (defBody s_summed_tables) (defScope s_summed_tables) .none kV_summed_tables dc_summed_tables pm_summed_tables an_summed_tables cd_summed_tables ct_summed_tables), sl_summed_tables⟩)
    (cc_summed_tables : PySem.W.codeIn K cd_summed_tables "summed_tables" = true)
    (kk_summed_tables : PySem.W.keepIn K (.ref f_summed_tables) = true)
    (a__law_cell : PySem.W.nsIn K mainGlobals "_law_cell" = some (some (.ref f__law_cell)))
    (l__law_cell : K.lookup f__law_cell = some ⟨oc__law_cell, od__law_cell, .func (PySem.W.fnOf "_law_cell" "_law_cell" (defArgs s__law_cell) (defBody s__law_cell) (defScope s__law_cell) .none kV__law_cell dc__law_cell pm__law_cell an__law_cell cd__law_cell ct__law_cell), sl__law_cell⟩)
    (cc__law_cell : PySem.W.codeIn K cd__law_cell "_law_cell" = true)
    (kk__law_cell : PySem.W.keepIn K (.ref f__law_cell) = true)
    (a__law_source : PySem.W.nsIn K mainGlobals "_law_source" = some (some (.ref f__law_source)))
    (l__law_source : K.lookup f__law_source = some ⟨oc__law_source, od__law_source, .func (PySem.W.fnOf "_law_source" "_law_source" (defArgs s__law_source) (defBody s__law_source) (defScope s__law_source) .none kV__law_source dc__law_source pm__law_source an__law_source cd__law_source ct__law_source), sl__law_source⟩)
    (cc__law_source : PySem.W.codeIn K cd__law_source "_law_source" = true)
    (kk__law_source : PySem.W.keepIn K (.ref f__law_source) = true)
    (a__law_draw : PySem.W.nsIn K mainGlobals "_law_draw" = some (some (.ref f__law_draw)))
    (l__law_draw : K.lookup f__law_draw = some ⟨oc__law_draw, od__law_draw, .func (PySem.W.fnOf "_law_draw" "_law_draw" (defArgs s__law_draw) (defBody s__law_draw) (defScope s__law_draw) .none kV__law_draw dc__law_draw pm__law_draw an__law_draw cd__law_draw ct__law_draw), sl__law_draw⟩)
    (cc__law_draw : PySem.W.codeIn K cd__law_draw "_law_draw" = true)
    (kk__law_draw : PySem.W.keepIn K (.ref f__law_draw) = true)
    (a__law_is_int : PySem.W.nsIn K mainGlobals "_law_is_int" = some (some (.ref f__law_is_int)))
    (l__law_is_int : K.lookup f__law_is_int = some ⟨oc__law_is_int, od__law_is_int, .func (PySem.W.fnOf "_law_is_int" "_law_is_int" (defArgs s__law_is_int) (defBody s__law_is_int) (defScope s__law_is_int) .none kV__law_is_int dc__law_is_int pm__law_is_int an__law_is_int cd__law_is_int ct__law_is_int), sl__law_is_int⟩)
    (cc__law_is_int : PySem.W.codeIn K cd__law_is_int "_law_is_int" = true)
    (kk__law_is_int : PySem.W.keepIn K (.ref f__law_is_int) = true)
    (a__law_exact : PySem.W.nsIn K mainGlobals "_law_exact" = some (some (.ref f__law_exact)))
    (l__law_exact : K.lookup f__law_exact = some ⟨oc__law_exact, od__law_exact, .func (PySem.W.fnOf "_law_exact" "_law_exact" (defArgs s__law_exact) (defBody s__law_exact) (defScope s__law_exact) .none kV__law_exact dc__law_exact pm__law_exact an__law_exact cd__law_exact ct__law_exact), sl__law_exact⟩)
    (cc__law_exact : PySem.W.codeIn K cd__law_exact "_law_exact" = true)
    (kk__law_exact : PySem.W.keepIn K (.ref f__law_exact) = true)
    (a__law_deep : PySem.W.nsIn K mainGlobals "_law_deep" = some (some (.ref f__law_deep)))
    (l__law_deep : K.lookup f__law_deep = some ⟨oc__law_deep, od__law_deep, .func (PySem.W.fnOf "_law_deep" "_law_deep" (defArgs s__law_deep) (defBody s__law_deep) (defScope s__law_deep) .none kV__law_deep dc__law_deep pm__law_deep an__law_deep cd__law_deep ct__law_deep), sl__law_deep⟩)
    (cc__law_deep : PySem.W.codeIn K cd__law_deep "_law_deep" = true)
    (kk__law_deep : PySem.W.keepIn K (.ref f__law_deep) = true)
    (a__law_asks : PySem.W.nsIn K mainGlobals "_law_asks" = some (some (.ref f__law_asks)))
    (l__law_asks : K.lookup f__law_asks = some ⟨oc__law_asks, od__law_asks, .func (PySem.W.fnOf "_law_asks" "_law_asks" (defArgs s__law_asks) (defBody s__law_asks) (defScope s__law_asks) .none kV__law_asks dc__law_asks pm__law_asks an__law_asks cd__law_asks ct__law_asks), sl__law_asks⟩)
    (cc__law_asks : PySem.W.codeIn K cd__law_asks "_law_asks" = true)
    (kk__law_asks : PySem.W.keepIn K (.ref f__law_asks) = true)
    (a__law_prices : PySem.W.nsIn K mainGlobals "_law_prices" = some (some (.ref f__law_prices)))
    (l__law_prices : K.lookup f__law_prices = some ⟨oc__law_prices, od__law_prices, .func (PySem.W.fnOf "_law_prices" "_law_prices" (defArgs s__law_prices) (defBody s__law_prices) (defScope s__law_prices) .none kV__law_prices dc__law_prices pm__law_prices an__law_prices cd__law_prices ct__law_prices), sl__law_prices⟩)
    (cc__law_prices : PySem.W.codeIn K cd__law_prices "_law_prices" = true)
    (kk__law_prices : PySem.W.keepIn K (.ref f__law_prices) = true)
    (a__law_any_table : PySem.W.nsIn K mainGlobals "_law_any_table" = some (some (.ref f__law_any_table)))
    (l__law_any_table : K.lookup f__law_any_table = some ⟨oc__law_any_table, od__law_any_table, .func (PySem.W.fnOf "_law_any_table" "_law_any_table" (defArgs s__law_any_table) (defBody s__law_any_table) (defScope s__law_any_table) .none kV__law_any_table dc__law_any_table pm__law_any_table an__law_any_table cd__law_any_table ct__law_any_table), sl__law_any_table⟩)
    (cc__law_any_table : PySem.W.codeIn K cd__law_any_table "_law_any_table" = true)
    (kk__law_any_table : PySem.W.keepIn K (.ref f__law_any_table) = true)
    (a__law_change : PySem.W.nsIn K mainGlobals "_law_change" = some (some (.ref f__law_change)))
    (l__law_change : K.lookup f__law_change = some ⟨oc__law_change, od__law_change, .func (PySem.W.fnOf "_law_change" "_law_change" (defArgs s__law_change) (defBody s__law_change) (defScope s__law_change) .none kV__law_change dc__law_change pm__law_change an__law_change cd__law_change ct__law_change), sl__law_change⟩)
    (cc__law_change : PySem.W.codeIn K cd__law_change "_law_change" = true)
    (kk__law_change : PySem.W.keepIn K (.ref f__law_change) = true)
    (a__law_changes : PySem.W.nsIn K mainGlobals "_law_changes" = some (some (.ref f__law_changes)))
    (l__law_changes : K.lookup f__law_changes = some ⟨oc__law_changes, od__law_changes, .func (PySem.W.fnOf "_law_changes" "_law_changes" (defArgs s__law_changes) (defBody s__law_changes) (defScope s__law_changes) .none kV__law_changes dc__law_changes pm__law_changes an__law_changes cd__law_changes ct__law_changes), sl__law_changes⟩)
    (cc__law_changes : PySem.W.codeIn K cd__law_changes "_law_changes" = true)
    (kk__law_changes : PySem.W.keepIn K (.ref f__law_changes) = true)
    (a__law_served : PySem.W.nsIn K mainGlobals "_law_served" = some (some (.ref f__law_served)))
    (l__law_served : K.lookup f__law_served = some ⟨oc__law_served, od__law_served, .func (PySem.W.fnOf "_law_served" "_law_served" (defArgs s__law_served) (defBody s__law_served) (defScope s__law_served) .none kV__law_served dc__law_served pm__law_served an__law_served cd__law_served ct__law_served), sl__law_served⟩)
    (cc__law_served : PySem.W.codeIn K cd__law_served "_law_served" = true)
    (kk__law_served : PySem.W.keepIn K (.ref f__law_served) = true)
    (a__law_world : PySem.W.nsIn K mainGlobals "_law_world" = some (some (.ref f__law_world)))
    (l__law_world : K.lookup f__law_world = some ⟨oc__law_world, od__law_world, .func (PySem.W.fnOf "_law_world" "_law_world" (defArgs s__law_world) (defBody s__law_world) (defScope s__law_world) .none kV__law_world dc__law_world pm__law_world an__law_world cd__law_world ct__law_world), sl__law_world⟩)
    (cc__law_world : PySem.W.codeIn K cd__law_world "_law_world" = true)
    (kk__law_world : PySem.W.keepIn K (.ref f__law_world) = true)
    (a__law_raised : PySem.W.nsIn K mainGlobals "_law_raised" = some (some (.ref f__law_raised)))
    (l__law_raised : K.lookup f__law_raised = some ⟨oc__law_raised, od__law_raised, .func (PySem.W.fnOf "_law_raised" "_law_raised" (defArgs s__law_raised) (defBody s__law_raised) (defScope s__law_raised) .none kV__law_raised dc__law_raised pm__law_raised an__law_raised cd__law_raised ct__law_raised), sl__law_raised⟩)
    (cc__law_raised : PySem.W.codeIn K cd__law_raised "_law_raised" = true)
    (kk__law_raised : PySem.W.keepIn K (.ref f__law_raised) = true)
    (a__law_moved : PySem.W.nsIn K mainGlobals "_law_moved" = some (some (.ref f__law_moved)))
    (l__law_moved : K.lookup f__law_moved = some ⟨oc__law_moved, od__law_moved, .func (PySem.W.fnOf "_law_moved" "_law_moved" (defArgs s__law_moved) (defBody s__law_moved) (defScope s__law_moved) .none kV__law_moved dc__law_moved pm__law_moved an__law_moved cd__law_moved ct__law_moved), sl__law_moved⟩)
    (cc__law_moved : PySem.W.codeIn K cd__law_moved "_law_moved" = true)
    (kk__law_moved : PySem.W.keepIn K (.ref f__law_moved) = true)
    (a__law_lists : PySem.W.nsIn K mainGlobals "_law_lists" = some (some (.ref f__law_lists)))
    (l__law_lists : K.lookup f__law_lists = some ⟨oc__law_lists, od__law_lists, .func (PySem.W.fnOf "_law_lists" "_law_lists" (defArgs s__law_lists) (defBody s__law_lists) (defScope s__law_lists) .none kV__law_lists dc__law_lists pm__law_lists an__law_lists cd__law_lists ct__law_lists), sl__law_lists⟩)
    (cc__law_lists : PySem.W.codeIn K cd__law_lists "_law_lists" = true)
    (kk__law_lists : PySem.W.keepIn K (.ref f__law_lists) = true)
    (a__law_store_is : PySem.W.nsIn K mainGlobals "_law_store_is" = some (some (.ref f__law_store_is)))
    (l__law_store_is : K.lookup f__law_store_is = some ⟨oc__law_store_is, od__law_store_is, .func (PySem.W.fnOf "_law_store_is" "_law_store_is" (defArgs s__law_store_is) (defBody s__law_store_is) (defScope s__law_store_is) .none kV__law_store_is dc__law_store_is pm__law_store_is an__law_store_is cd__law_store_is ct__law_store_is), sl__law_store_is⟩)
    (cc__law_store_is : PySem.W.codeIn K cd__law_store_is "_law_store_is" = true)
    (kk__law_store_is : PySem.W.keepIn K (.ref f__law_store_is) = true)
    (a__law_part : PySem.W.nsIn K mainGlobals "_law_part" = some (some (.ref f__law_part)))
    (l__law_part : K.lookup f__law_part = some ⟨oc__law_part, od__law_part, .func (PySem.W.fnOf "_law_part" "_law_part" (defArgs s__law_part) (defBody s__law_part) (defScope s__law_part) .none kV__law_part dc__law_part pm__law_part an__law_part cd__law_part ct__law_part), sl__law_part⟩)
    (cc__law_part : PySem.W.codeIn K cd__law_part "_law_part" = true)
    (kk__law_part : PySem.W.keepIn K (.ref f__law_part) = true)
    (a__law_bad_asks : PySem.W.nsIn K mainGlobals "_law_bad_asks" = some (some (.ref f__law_bad_asks)))
    (l__law_bad_asks : K.lookup f__law_bad_asks = some ⟨oc__law_bad_asks, od__law_bad_asks, .func (PySem.W.fnOf "_law_bad_asks" "_law_bad_asks" (defArgs s__law_bad_asks) (defBody s__law_bad_asks) (defScope s__law_bad_asks) .none kV__law_bad_asks dc__law_bad_asks pm__law_bad_asks an__law_bad_asks cd__law_bad_asks ct__law_bad_asks), sl__law_bad_asks⟩)
    (cc__law_bad_asks : PySem.W.codeIn K cd__law_bad_asks "_law_bad_asks" = true)
    (kk__law_bad_asks : PySem.W.keepIn K (.ref f__law_bad_asks) = true)
    (a__law_bad_line : PySem.W.nsIn K mainGlobals "_law_bad_line" = some (some (.ref f__law_bad_line)))
    (l__law_bad_line : K.lookup f__law_bad_line = some ⟨oc__law_bad_line, od__law_bad_line, .func (PySem.W.fnOf "_law_bad_line" "_law_bad_line" (defArgs s__law_bad_line) (defBody s__law_bad_line) (defScope s__law_bad_line) .none kV__law_bad_line dc__law_bad_line pm__law_bad_line an__law_bad_line cd__law_bad_line ct__law_bad_line), sl__law_bad_line⟩)
    (cc__law_bad_line : PySem.W.codeIn K cd__law_bad_line "_law_bad_line" = true)
    (kk__law_bad_line : PySem.W.keepIn K (.ref f__law_bad_line) = true)
    (a__law_bad_costs : PySem.W.nsIn K mainGlobals "_law_bad_costs" = some (some (.ref f__law_bad_costs)))
    (l__law_bad_costs : K.lookup f__law_bad_costs = some ⟨oc__law_bad_costs, od__law_bad_costs, .func (PySem.W.fnOf "_law_bad_costs" "_law_bad_costs" (defArgs s__law_bad_costs) (defBody s__law_bad_costs) (defScope s__law_bad_costs) .none kV__law_bad_costs dc__law_bad_costs pm__law_bad_costs an__law_bad_costs cd__law_bad_costs ct__law_bad_costs), sl__law_bad_costs⟩)
    (cc__law_bad_costs : PySem.W.codeIn K cd__law_bad_costs "_law_bad_costs" = true)
    (kk__law_bad_costs : PySem.W.keepIn K (.ref f__law_bad_costs) = true)
    (a__law_bad_ends : PySem.W.nsIn K mainGlobals "_law_bad_ends" = some (some (.ref f__law_bad_ends)))
    (l__law_bad_ends : K.lookup f__law_bad_ends = some ⟨oc__law_bad_ends, od__law_bad_ends, .func (PySem.W.fnOf "_law_bad_ends" "_law_bad_ends" (defArgs s__law_bad_ends) (defBody s__law_bad_ends) (defScope s__law_bad_ends) .none kV__law_bad_ends dc__law_bad_ends pm__law_bad_ends an__law_bad_ends cd__law_bad_ends ct__law_bad_ends), sl__law_bad_ends⟩)
    (cc__law_bad_ends : PySem.W.codeIn K cd__law_bad_ends "_law_bad_ends" = true)
    (kk__law_bad_ends : PySem.W.keepIn K (.ref f__law_bad_ends) = true)
    (a__law_refused : PySem.W.nsIn K mainGlobals "_law_refused" = some (some (.ref f__law_refused)))
    (l__law_refused : K.lookup f__law_refused = some ⟨oc__law_refused, od__law_refused, .func (PySem.W.fnOf "_law_refused" "_law_refused" (defArgs s__law_refused) (defBody s__law_refused) (defScope s__law_refused) .none kV__law_refused dc__law_refused pm__law_refused an__law_refused cd__law_refused ct__law_refused), sl__law_refused⟩)
    (cc__law_refused : PySem.W.codeIn K cd__law_refused "_law_refused" = true)
    (kk__law_refused : PySem.W.keepIn K (.ref f__law_refused) = true)
    (a__law_price_error : PySem.W.nsIn K mainGlobals "_law_price_error" = some (some (.ref f__law_price_error)))
    (l__law_price_error : K.lookup f__law_price_error = some ⟨oc__law_price_error, od__law_price_error, .func (PySem.W.fnOf "_law_price_error" "_law_price_error" (defArgs s__law_price_error) (defBody s__law_price_error) (defScope s__law_price_error) .none kV__law_price_error dc__law_price_error pm__law_price_error an__law_price_error cd__law_price_error ct__law_price_error), sl__law_price_error⟩)
    (cc__law_price_error : PySem.W.codeIn K cd__law_price_error "_law_price_error" = true)
    (kk__law_price_error : PySem.W.keepIn K (.ref f__law_price_error) = true)
    (a__law_price_refused : PySem.W.nsIn K mainGlobals "_law_price_refused" = some (some (.ref f__law_price_refused)))
    (l__law_price_refused : K.lookup f__law_price_refused = some ⟨oc__law_price_refused, od__law_price_refused, .func (PySem.W.fnOf "_law_price_refused" "_law_price_refused" (defArgs s__law_price_refused) (defBody s__law_price_refused) (defScope s__law_price_refused) .none kV__law_price_refused dc__law_price_refused pm__law_price_refused an__law_price_refused cd__law_price_refused ct__law_price_refused), sl__law_price_refused⟩)
    (cc__law_price_refused : PySem.W.codeIn K cd__law_price_refused "_law_price_refused" = true)
    (kk__law_price_refused : PySem.W.keepIn K (.ref f__law_price_refused) = true)
    (a__law_other : PySem.W.nsIn K mainGlobals "_law_other" = some (some (.ref f__law_other)))
    (l__law_other : K.lookup f__law_other = some ⟨oc__law_other, od__law_other, .func (PySem.W.fnOf "_law_other" "_law_other" (defArgs s__law_other) (defBody s__law_other) (defScope s__law_other) .none kV__law_other dc__law_other pm__law_other an__law_other cd__law_other ct__law_other), sl__law_other⟩)
    (cc__law_other : PySem.W.codeIn K cd__law_other "_law_other" = true)
    (kk__law_other : PySem.W.keepIn K (.ref f__law_other) = true)
    (a_law : PySem.W.nsIn K mainGlobals "law" = some (some (.ref f_law)))
    (l_law : K.lookup f_law = some ⟨oc_law, od_law, .func (PySem.W.fnOf "law" "law" (defArgs s_law) (defBody s_law) (defScope s_law) .none kV_law dc_law pm_law an_law cd_law ct_law), sl_law⟩)
    (cc_law : PySem.W.codeIn K cd_law "law" = true)
    (kk_law : PySem.W.keepIn K (.ref f_law) = true)
    (x_BadAsks : K.lookup c_BadAsks = some (excClassObj nm_BadAsks q_BadAsks c_BadAsks N_BadAsks0 bs_BadAsks [.ref c_WrongThing, .ref c_AfterError, .type "ValueError", .type "Exception", .type "BaseException", .type "object"] true sn_BadAsks sub_BadAsks ab_BadAsks col_BadAsks dd_BadAsks m0_BadAsks m1_BadAsks m2_BadAsks m3_BadAsks m5_BadAsks "ValueError.__new__"))
    (sa_BadAsks : PySem.W.findIn K (.ref c_BadAsks) "__setattr__" = some (some (.builtin "object.__setattr__")))
    (ga_BadAsks : PySem.W.findIn K (.ref c_BadAsks) "__getattribute__" = some (some (.builtin "BaseException.__getattribute__")))
    (gg_BadAsks : PySem.W.findIn K (.ref c_BadAsks) "__getattr__" = some none)
    (nb_BadAsks : PySem.W.findIn K (.ref c_BadAsks) "thing" = some none)
    (ii_BadAsks : PySem.W.findIn K (.ref c_BadAsks) "__init__" = some (some (.ref f_WrongThing_init)))
    (t_WrongThing_init : PySem.W.typeIn K (.ref f_WrongThing_init) = some (.type "function"))
    (l_WrongThing_init : K.lookup f_WrongThing_init = some ⟨oc_WrongThing_init, od_WrongThing_init, .func (PySem.W.fnOf "__init__" "WrongThing.__init__" (PySem.LowX.iA ⟨6, 17, 6, 21⟩ ⟨6, 23, 6, 28⟩) (PySem.LowX.iB ⟨7, 8, 7, 12⟩ ⟨7, 8, 7, 18⟩ ⟨7, 21, 7, 26⟩ ⟨7, 8, 7, 26⟩) PySem.LowX.iS .none .none dc_WrongThing_init pm_WrongThing_init an_WrongThing_init cd_WrongThing_init ct_WrongThing_init), sl_WrongThing_init⟩)
    (cc_WrongThing_init : PySem.W.codeIn K cd_WrongThing_init "WrongThing.__init__" = true)
    (kc_BadAsks : PySem.W.keepIn K (.ref c_BadAsks) = true)
    (eb_BadAsks : PySem.W.subIn K (.ref c_BadAsks) (.type "BaseException") = some true)
    (ty_BadAsks : PySem.W.typeIn K (.ref c_BadAsks) = some (.type "type"))
    (hd_BadAsks : PySem.W.hasDictIn K c_BadAsks = true)
    (ha_BadAsks : PySem.W.findIn K (.ref c_BadAsks) "__class__" = some (some (.builtin "object.__class__")))
    (hm_BadAsks : PySem.W.mroIn K c_BadAsks (.type "object") = some true)
    (te_BadAsks : PySem.W.exmOne K (.ref c_BadAsks) (.ref c_BadAsks) = some true)
    (x_BadAsk : K.lookup c_BadAsk = some (excClassObj nm_BadAsk q_BadAsk c_BadAsk N_BadAsk0 bs_BadAsk [.ref c_WrongThing, .ref c_AfterError, .type "ValueError", .type "Exception", .type "BaseException", .type "object"] true sn_BadAsk sub_BadAsk ab_BadAsk col_BadAsk dd_BadAsk m0_BadAsk m1_BadAsk m2_BadAsk m3_BadAsk m5_BadAsk "ValueError.__new__"))
    (sa_BadAsk : PySem.W.findIn K (.ref c_BadAsk) "__setattr__" = some (some (.builtin "object.__setattr__")))
    (ga_BadAsk : PySem.W.findIn K (.ref c_BadAsk) "__getattribute__" = some (some (.builtin "BaseException.__getattribute__")))
    (gg_BadAsk : PySem.W.findIn K (.ref c_BadAsk) "__getattr__" = some none)
    (nb_BadAsk : PySem.W.findIn K (.ref c_BadAsk) "thing" = some none)
    (ii_BadAsk : PySem.W.findIn K (.ref c_BadAsk) "__init__" = some (some (.ref f_WrongThing_init)))
    (kc_BadAsk : PySem.W.keepIn K (.ref c_BadAsk) = true)
    (eb_BadAsk : PySem.W.subIn K (.ref c_BadAsk) (.type "BaseException") = some true)
    (ty_BadAsk : PySem.W.typeIn K (.ref c_BadAsk) = some (.type "type"))
    (hd_BadAsk : PySem.W.hasDictIn K c_BadAsk = true)
    (ha_BadAsk : PySem.W.findIn K (.ref c_BadAsk) "__class__" = some (some (.builtin "object.__class__")))
    (hm_BadAsk : PySem.W.mroIn K c_BadAsk (.type "object") = some true)
    (te_BadAsk : PySem.W.exmOne K (.ref c_BadAsk) (.ref c_BadAsk) = some true)
    (x_BadState : K.lookup c_BadState = some (excClassObj nm_BadState q_BadState c_BadState N_BadState0 bs_BadState [.ref c_WrongThing, .ref c_AfterError, .type "ValueError", .type "Exception", .type "BaseException", .type "object"] true sn_BadState sub_BadState ab_BadState col_BadState dd_BadState m0_BadState m1_BadState m2_BadState m3_BadState m5_BadState "ValueError.__new__"))
    (sa_BadState : PySem.W.findIn K (.ref c_BadState) "__setattr__" = some (some (.builtin "object.__setattr__")))
    (ga_BadState : PySem.W.findIn K (.ref c_BadState) "__getattribute__" = some (some (.builtin "BaseException.__getattribute__")))
    (gg_BadState : PySem.W.findIn K (.ref c_BadState) "__getattr__" = some none)
    (nb_BadState : PySem.W.findIn K (.ref c_BadState) "thing" = some none)
    (ii_BadState : PySem.W.findIn K (.ref c_BadState) "__init__" = some (some (.ref f_WrongThing_init)))
    (kc_BadState : PySem.W.keepIn K (.ref c_BadState) = true)
    (eb_BadState : PySem.W.subIn K (.ref c_BadState) (.type "BaseException") = some true)
    (ty_BadState : PySem.W.typeIn K (.ref c_BadState) = some (.type "type"))
    (hd_BadState : PySem.W.hasDictIn K c_BadState = true)
    (ha_BadState : PySem.W.findIn K (.ref c_BadState) "__class__" = some (some (.builtin "object.__class__")))
    (hm_BadState : PySem.W.mroIn K c_BadState (.type "object") = some true)
    (te_BadState : PySem.W.exmOne K (.ref c_BadState) (.ref c_BadState) = some true)
    (x_BadStore : K.lookup c_BadStore = some (excClassObj nm_BadStore q_BadStore c_BadStore N_BadStore0 bs_BadStore [.ref c_AfterError, .type "ValueError", .type "Exception", .type "BaseException", .type "object"] true sn_BadStore sub_BadStore ab_BadStore col_BadStore dd_BadStore m0_BadStore m1_BadStore m2_BadStore m3_BadStore m5_BadStore "ValueError.__new__"))
    (sa_BadStore : PySem.W.findIn K (.ref c_BadStore) "__setattr__" = some (some (.builtin "object.__setattr__")))
    (ga_BadStore : PySem.W.findIn K (.ref c_BadStore) "__getattribute__" = some (some (.builtin "BaseException.__getattribute__")))
    (gg_BadStore : PySem.W.findIn K (.ref c_BadStore) "__getattr__" = some none)
    (nb_BadStore : PySem.W.findIn K (.ref c_BadStore) "part" = some none)
    (ii_BadStore : PySem.W.findIn K (.ref c_BadStore) "__init__" = some (some (.ref f_BadStore_init)))
    (t_BadStore_init : PySem.W.typeIn K (.ref f_BadStore_init) = some (.type "function"))
    (l_BadStore_init : K.lookup f_BadStore_init = some ⟨oc_BadStore_init, od_BadStore_init, .func (PySem.W.fnOf "__init__" "BadStore.__init__" (PySem.LowP.iA ⟨20, 17, 20, 21⟩ ⟨20, 23, 20, 27⟩) (PySem.LowP.iB ⟨21, 8, 21, 12⟩ ⟨21, 8, 21, 17⟩ ⟨21, 20, 21, 24⟩ ⟨21, 8, 21, 24⟩) PySem.LowP.iS .none .none dc_BadStore_init pm_BadStore_init an_BadStore_init cd_BadStore_init ct_BadStore_init), sl_BadStore_init⟩)
    (cc_BadStore_init : PySem.W.codeIn K cd_BadStore_init "BadStore.__init__" = true)
    (kc_BadStore : PySem.W.keepIn K (.ref c_BadStore) = true)
    (eb_BadStore : PySem.W.subIn K (.ref c_BadStore) (.type "BaseException") = some true)
    (ty_BadStore : PySem.W.typeIn K (.ref c_BadStore) = some (.type "type"))
    (hd_BadStore : PySem.W.hasDictIn K c_BadStore = true)
    (ha_BadStore : PySem.W.findIn K (.ref c_BadStore) "__class__" = some (some (.builtin "object.__class__")))
    (hm_BadStore : PySem.W.mroIn K c_BadStore (.type "object") = some true)
    (te_BadStore : PySem.W.exmOne K (.ref c_BadStore) (.ref c_BadStore) = some true)
    (hnC : PySem.W.specialIn K (.builtin "object.__class__") "__get__" = some (some (.builtin "getset_descriptor.__get__")))
    (htC : PySem.W.takesIn K (.builtin "object.__class__") = some true)
    (pg_Store : PySem.W.plainGet K c_Store Str.empty = true)
    (hd_Store : PySem.W.hasDictIn K c_Store = true)
    (po_Store : PySem.W.plainOver K c_Store = true)
    (sa_Store : PySem.W.findIn K (.ref c_Store) "__setattr__" = some (some (.builtin "object.__setattr__")))
    (na_Store_asks : PySem.W.findIn K (.ref c_Store) "asks" = some none)
    (na_Store_begins : PySem.W.findIn K (.ref c_Store) "begins" = some none)
    (na_Store_costs : PySem.W.findIn K (.ref c_Store) "costs" = some none)
    (na_Store_ends : PySem.W.findIn K (.ref c_Store) "ends" = some none)
    (mk_Store : PySem.W.makesIn K c_Store = true)
    (kc_Store : PySem.W.keepIn K (.ref c_Store) = true)
    (ha_Store : PySem.W.findIn K (.ref c_Store) "__class__" = some (some (.builtin "object.__class__")))
    (hm_Store : PySem.W.mroIn K c_Store (.type "object") = some true)
    (fi_Store_init : PySem.W.findIn K (.ref c_Store) "__init__" = some (some (.ref f_Store_init)))
    (l_Store_init : K.lookup f_Store_init = some ⟨oc_Store_init, od_Store_init, .func (PySem.W.fnOf "__init__" "Store.__init__" (defArgs s_Store_init) (defBody s_Store_init) (defScope s_Store_init) .none kV_Store_init dc_Store_init pm_Store_init an_Store_init cd_Store_init ct_Store_init), sl_Store_init⟩)
    (cc_Store_init : PySem.W.codeIn K cd_Store_init "Store.__init__" = true)
    (kk_Store_init : PySem.W.keepIn K (.ref f_Store_init) = true)
    (if_Store_init : PySem.W.isFn K (.ref f_Store_init) = true)
    (fi_Store_price : PySem.W.findIn K (.ref c_Store) "price" = some (some (.ref f_Store_price)))
    (l_Store_price : K.lookup f_Store_price = some ⟨oc_Store_price, od_Store_price, .func (PySem.W.fnOf "price" "Store.price" (defArgs s_Store_price) (defBody s_Store_price) (defScope s_Store_price) .none kV_Store_price dc_Store_price pm_Store_price an_Store_price cd_Store_price ct_Store_price), sl_Store_price⟩)
    (cc_Store_price : PySem.W.codeIn K cd_Store_price "Store.price" = true)
    (kk_Store_price : PySem.W.keepIn K (.ref f_Store_price) = true)
    (if_Store_price : PySem.W.isFn K (.ref f_Store_price) = true)
    (fi_Store_len : PySem.W.findIn K (.ref c_Store) "__len__" = some (some (.ref f_Store_len)))
    (l_Store_len : K.lookup f_Store_len = some ⟨oc_Store_len, od_Store_len, .func (PySem.W.fnOf "__len__" "Store.__len__" (defArgs s_Store_len) (defBody s_Store_len) (defScope s_Store_len) .none kV_Store_len dc_Store_len pm_Store_len an_Store_len cd_Store_len ct_Store_len), sl_Store_len⟩)
    (cc_Store_len : PySem.W.codeIn K cd_Store_len "Store.__len__" = true)
    (kk_Store_len : PySem.W.keepIn K (.ref f_Store_len) = true)
    (if_Store_len : PySem.W.isFn K (.ref f_Store_len) = true)
    (fi_Store_eq : PySem.W.findIn K (.ref c_Store) "__eq__" = some (some (.ref f_Store_eq)))
    (l_Store_eq : K.lookup f_Store_eq = some ⟨oc_Store_eq, od_Store_eq, .func (PySem.W.fnOf "__eq__" "Store.__eq__" (defArgs s_Store_eq) (defBody s_Store_eq) (defScope s_Store_eq) .none kV_Store_eq dc_Store_eq pm_Store_eq an_Store_eq cd_Store_eq ct_Store_eq), sl_Store_eq⟩)
    (cc_Store_eq : PySem.W.codeIn K cd_Store_eq "Store.__eq__" = true)
    (kk_Store_eq : PySem.W.keepIn K (.ref f_Store_eq) = true)
    (if_Store_eq : PySem.W.isFn K (.ref f_Store_eq) = true)
    (isG : PySem.W.kitOne K (.ref c_Store) (.ref c_Store) = some true)
    (isStr : PySem.W.kitOne K (.type "str") (.ref c_Store) = some false)
    (isTup : PySem.W.kitOne K (.type "tuple") (.ref c_Store) = some false)
    (nfG : PySem.W.notFirst K c_Store (.ref c_Store) = true)
    (nfS : PySem.W.notFirst K c_Store (.type "str") = true)
    (nfT : PySem.W.notFirst K c_Store (.type "tuple") = true)
    (kAT : PySem.W.kitOne K (.ref c_BadAsks) (.ref c_WrongThing) = some true)
    (kAI : PySem.W.kitOne K (.ref c_BadAsks) (.ref c_WrongItem) = some false)
    (kAB : PySem.W.kitOne K (.ref c_BadAsks) (.ref c_BadStore) = some false)
    (kBB : PySem.W.kitOne K (.ref c_BadStore) (.ref c_BadStore) = some true)
    (kBT : PySem.W.kitOne K (.ref c_BadStore) (.ref c_WrongThing) = some false)
    (kBV : PySem.W.kitOne K (.ref c_BadStore) (.type "ValueError") = some true)
    (kKT : PySem.W.kitOne K (.ref c_BadAsk) (.ref c_WrongThing) = some true)
    (kKS : PySem.W.kitOne K (.ref c_BadAsk) (.ref c_BadState) = some false)
    (kSS : PySem.W.kitOne K (.ref c_BadState) (.ref c_BadState) = some true)
    (kST : PySem.W.kitOne K (.ref c_BadState) (.ref c_WrongThing) = some true)
    (xBA : PySem.W.exmOne K (.ref c_BadStore) (.ref c_BadAsks) = some false)
    (xBF : PySem.W.exmOne K (.ref c_BadStore) (.ref c_AfterError) = some true)
    (xSK : PySem.W.exmOne K (.ref c_BadState) (.ref c_BadAsk) = some false)
    (xSF : PySem.W.exmOne K (.ref c_BadState) (.ref c_AfterError) = some true) :
    ∃ fd : FuncData, (∀ (s : Shared) (u : Value), BindsTo s fd ⟨[u], []⟩ [("_law_script", u)]) ∧ ∀ base : Heap, K.In base → base.Ns mainGlobals mg → FnOk P w K mg base CX0 13 fa fd ["_law_script"] (spLaw K) := by
  have e := hfa.symm.trans (PySem.W.mg_of X G a_law)
  cases e
  let A : Ad := ⟨f_WrongThing_init, 0, f_BadStore_init, 0, 0, f_is_integer, f_is_tuple, f_is_below, f_is_tuple_of, f_are_integers, f_is_asks, f_check_asks, f_check_ask, f_check_state, f_check_like_asks, f_Store_init, f_Store_price, f_Store_len, f_Store_eq, 0, 0, f_are_tables, f_is_table, f_sums, f_summed_tables, f__law_cell, f__law_source, f__law_draw, f__law_is_int, f__law_exact, f__law_deep, f__law_asks, f__law_prices, f__law_any_table, f__law_change, f__law_changes, f__law_served, f__law_world, f__law_raised, f__law_moved, f__law_lists, f__law_store_is, f__law_part, f__law_bad_asks, f__law_bad_line, f__law_bad_costs, f__law_bad_ends, f__law_refused, f__law_price_error, f__law_price_refused, f__law_other, fa, c_AfterError, c_WrongThing, c_WrongItem, c_BadAsks, c_BadAsk, c_BadState, c_BadStore, c_Unlike, c_TooMany, c_Store, t_LETTERS, t_MOST_ASKS, t_MOST_STATES⟩
  have T : Tx K mg A := {
    nNotImplemented := PySem.W.mg_none_of X G n_NotImplemented,
    nValueError := PySem.W.mg_none_of X G n_ValueError,
    nabs := PySem.W.mg_none_of X G n_abs,
    nall := PySem.W.mg_none_of X G n_all,
    nbool := PySem.W.mg_none_of X G n_bool,
    nint := PySem.W.mg_none_of X G n_int,
    nisinstance := PySem.W.mg_none_of X G n_isinstance,
    nlen := PySem.W.mg_none_of X G n_len,
    nlist := PySem.W.mg_none_of X G n_list,
    nmax := PySem.W.mg_none_of X G n_max,
    nrange := PySem.W.mg_none_of X G n_range,
    nrepr := PySem.W.mg_none_of X G n_repr,
    nstr := PySem.W.mg_none_of X G n_str,
    nsum := PySem.W.mg_none_of X G n_sum,
    ntuple := PySem.W.mg_none_of X G n_tuple,
    nzip := PySem.W.mg_none_of X G n_zip,
    mLETTERS := PySem.W.mg_of X G m_LETTERS,
    mMOST_ASKS := PySem.W.mg_of X G m_MOST_ASKS,
    mMOST_STATES := PySem.W.mg_of X G m_MOST_STATES,
    mAfterError := PySem.W.mg_of X G m_AfterError,
    mWrongThing := PySem.W.mg_of X G m_WrongThing,
    mWrongItem := PySem.W.mg_of X G m_WrongItem,
    mBadAsks := PySem.W.mg_of X G m_BadAsks,
    mBadAsk := PySem.W.mg_of X G m_BadAsk,
    mBadState := PySem.W.mg_of X G m_BadState,
    mBadStore := PySem.W.mg_of X G m_BadStore,
    mUnlike := PySem.W.mg_of X G m_Unlike,
    mTooMany := PySem.W.mg_of X G m_TooMany,
    mStore := PySem.W.mg_of X G m_Store,
    mis_integer := PySem.W.mg_of X G a_is_integer,
    mis_tuple := PySem.W.mg_of X G a_is_tuple,
    mis_below := PySem.W.mg_of X G a_is_below,
    mis_tuple_of := PySem.W.mg_of X G a_is_tuple_of,
    mare_integers := PySem.W.mg_of X G a_are_integers,
    mis_asks := PySem.W.mg_of X G a_is_asks,
    mcheck_asks := PySem.W.mg_of X G a_check_asks,
    mcheck_ask := PySem.W.mg_of X G a_check_ask,
    mcheck_state := PySem.W.mg_of X G a_check_state,
    mcheck_like_asks := PySem.W.mg_of X G a_check_like_asks,
    mare_tables := PySem.W.mg_of X G a_are_tables,
    mis_table := PySem.W.mg_of X G a_is_table,
    msums := PySem.W.mg_of X G a_sums,
    msummed_tables := PySem.W.mg_of X G a_summed_tables,
    m_law_cell := PySem.W.mg_of X G a__law_cell,
    m_law_source := PySem.W.mg_of X G a__law_source,
    m_law_draw := PySem.W.mg_of X G a__law_draw,
    m_law_is_int := PySem.W.mg_of X G a__law_is_int,
    m_law_exact := PySem.W.mg_of X G a__law_exact,
    m_law_deep := PySem.W.mg_of X G a__law_deep,
    m_law_asks := PySem.W.mg_of X G a__law_asks,
    m_law_prices := PySem.W.mg_of X G a__law_prices,
    m_law_any_table := PySem.W.mg_of X G a__law_any_table,
    m_law_change := PySem.W.mg_of X G a__law_change,
    m_law_changes := PySem.W.mg_of X G a__law_changes,
    m_law_served := PySem.W.mg_of X G a__law_served,
    m_law_world := PySem.W.mg_of X G a__law_world,
    m_law_raised := PySem.W.mg_of X G a__law_raised,
    m_law_moved := PySem.W.mg_of X G a__law_moved,
    m_law_lists := PySem.W.mg_of X G a__law_lists,
    m_law_store_is := PySem.W.mg_of X G a__law_store_is,
    m_law_part := PySem.W.mg_of X G a__law_part,
    m_law_bad_asks := PySem.W.mg_of X G a__law_bad_asks,
    m_law_bad_line := PySem.W.mg_of X G a__law_bad_line,
    m_law_bad_costs := PySem.W.mg_of X G a__law_bad_costs,
    m_law_bad_ends := PySem.W.mg_of X G a__law_bad_ends,
    m_law_refused := PySem.W.mg_of X G a__law_refused,
    m_law_price_error := PySem.W.mg_of X G a__law_price_error,
    m_law_price_refused := PySem.W.mg_of X G a__law_price_refused,
    m_law_other := PySem.W.mg_of X G a__law_other,
    mlaw := PySem.W.mg_of X G a_law }
  have L_BadAsks : PySem.LowX.LowTxt K mg "BadAsks" c_BadAsks f_WrongThing_init :=
    { gC := PySem.W.mg_of X G m_BadAsks, cls := ⟨nm_BadAsks, q_BadAsks, N_BadAsks0, bs_BadAsks, _, sn_BadAsks, sub_BadAsks, ab_BadAsks, col_BadAsks, dd_BadAsks, m0_BadAsks, m1_BadAsks, m2_BadAsks, m3_BadAsks, m5_BadAsks, x_BadAsks, rfl⟩, sa := sa_BadAsks, ga := ga_BadAsks, gg := gg_BadAsks, noN := nb_BadAsks, iC := ii_BadAsks, tC := t_WrongThing_init, kC := kc_BadAsks, exC := eb_BadAsks, tyC := ty_BadAsks, hdC := hd_BadAsks, te := te_BadAsks,
      fn := ⟨_, _, _, _, _, _, _, _, _, _, _, _, _, _, l_WrongThing_init, cc_WrongThing_init⟩ }
  have E_BadAsks : ExcC K c_BadAsks := ⟨ga_BadAsks, gg_BadAsks, eb_BadAsks, hd_BadAsks, ha_BadAsks, hnC, htC, hm_BadAsks⟩
  have L_BadAsk : PySem.LowX.LowTxt K mg "BadAsk" c_BadAsk f_WrongThing_init :=
    { gC := PySem.W.mg_of X G m_BadAsk, cls := ⟨nm_BadAsk, q_BadAsk, N_BadAsk0, bs_BadAsk, _, sn_BadAsk, sub_BadAsk, ab_BadAsk, col_BadAsk, dd_BadAsk, m0_BadAsk, m1_BadAsk, m2_BadAsk, m3_BadAsk, m5_BadAsk, x_BadAsk, rfl⟩, sa := sa_BadAsk, ga := ga_BadAsk, gg := gg_BadAsk, noN := nb_BadAsk, iC := ii_BadAsk, tC := t_WrongThing_init, kC := kc_BadAsk, exC := eb_BadAsk, tyC := ty_BadAsk, hdC := hd_BadAsk, te := te_BadAsk,
      fn := ⟨_, _, _, _, _, _, _, _, _, _, _, _, _, _, l_WrongThing_init, cc_WrongThing_init⟩ }
  have E_BadAsk : ExcC K c_BadAsk := ⟨ga_BadAsk, gg_BadAsk, eb_BadAsk, hd_BadAsk, ha_BadAsk, hnC, htC, hm_BadAsk⟩
  have L_BadState : PySem.LowX.LowTxt K mg "BadState" c_BadState f_WrongThing_init :=
    { gC := PySem.W.mg_of X G m_BadState, cls := ⟨nm_BadState, q_BadState, N_BadState0, bs_BadState, _, sn_BadState, sub_BadState, ab_BadState, col_BadState, dd_BadState, m0_BadState, m1_BadState, m2_BadState, m3_BadState, m5_BadState, x_BadState, rfl⟩, sa := sa_BadState, ga := ga_BadState, gg := gg_BadState, noN := nb_BadState, iC := ii_BadState, tC := t_WrongThing_init, kC := kc_BadState, exC := eb_BadState, tyC := ty_BadState, hdC := hd_BadState, te := te_BadState,
      fn := ⟨_, _, _, _, _, _, _, _, _, _, _, _, _, _, l_WrongThing_init, cc_WrongThing_init⟩ }
  have E_BadState : ExcC K c_BadState := ⟨ga_BadState, gg_BadState, eb_BadState, hd_BadState, ha_BadState, hnC, htC, hm_BadState⟩
  have L_BadStore : PySem.LowP.LowTxt K mg "BadStore" c_BadStore f_BadStore_init :=
    { gC := PySem.W.mg_of X G m_BadStore, cls := ⟨nm_BadStore, q_BadStore, N_BadStore0, bs_BadStore, _, sn_BadStore, sub_BadStore, ab_BadStore, col_BadStore, dd_BadStore, m0_BadStore, m1_BadStore, m2_BadStore, m3_BadStore, m5_BadStore, x_BadStore, rfl⟩, sa := sa_BadStore, ga := ga_BadStore, gg := gg_BadStore, noN := nb_BadStore, iC := ii_BadStore, tC := t_BadStore_init, kC := kc_BadStore, exC := eb_BadStore, tyC := ty_BadStore, hdC := hd_BadStore, te := te_BadStore,
      fn := ⟨_, _, _, _, _, _, _, _, _, _, _, _, _, _, l_BadStore_init, cc_BadStore_init⟩ }
  have E_BadStore : ExcC K c_BadStore := ⟨ga_BadStore, gg_BadStore, eb_BadStore, hd_BadStore, ha_BadStore, hnC, htC, hm_BadStore⟩
  have F_is_integer := fun_mk (st := s_is_integer) l_is_integer cc_is_integer kk_is_integer
  have b_is_integer := F_is_integer.binds (ps := ["thing"]) fun _ _ _ _ _ _ us hl => match us, hl with | [_], _ => rfl
  have F_is_tuple := fun_mk (st := s_is_tuple) l_is_tuple cc_is_tuple kk_is_tuple
  have b_is_tuple := F_is_tuple.binds (ps := ["thing"]) fun _ _ _ _ _ _ us hl => match us, hl with | [_], _ => rfl
  have F_is_below := fun_mk (st := s_is_below) l_is_below cc_is_below kk_is_below
  have b_is_below := F_is_below.binds (ps := ["thing", "count"]) fun _ _ _ _ _ _ us hl => match us, hl with | [_, _], _ => rfl
  have F_is_tuple_of := fun_mk (st := s_is_tuple_of) l_is_tuple_of cc_is_tuple_of kk_is_tuple_of
  have b_is_tuple_of := F_is_tuple_of.binds (ps := ["thing", "count"]) fun _ _ _ _ _ _ us hl => match us, hl with | [_, _], _ => rfl
  have F_are_integers := fun_mk (st := s_are_integers) l_are_integers cc_are_integers kk_are_integers
  have b_are_integers := F_are_integers.binds (ps := ["thing", "count"]) fun _ _ _ _ _ _ us hl => match us, hl with | [_, _], _ => rfl
  have F_is_asks := fun_mk (st := s_is_asks) l_is_asks cc_is_asks kk_is_asks
  have b_is_asks := F_is_asks.binds (ps := ["thing"]) fun _ _ _ _ _ _ us hl => match us, hl with | [_], _ => rfl
  have F_check_asks := fun_mk (st := s_check_asks) l_check_asks cc_check_asks kk_check_asks
  have b_check_asks := F_check_asks.binds (ps := ["thing"]) fun _ _ _ _ _ _ us hl => match us, hl with | [_], _ => rfl
  have F_check_ask := fun_mk (st := s_check_ask) l_check_ask cc_check_ask kk_check_ask
  have b_check_ask := F_check_ask.binds (ps := ["asks", "thing"]) fun _ _ _ _ _ _ us hl => match us, hl with | [_, _], _ => rfl
  have F_check_state := fun_mk (st := s_check_state) l_check_state cc_check_state kk_check_state
  have b_check_state := F_check_state.binds (ps := ["count", "thing"]) fun _ _ _ _ _ _ us hl => match us, hl with | [_, _], _ => rfl
  have F_check_like_asks := fun_mk (st := s_check_like_asks) l_check_like_asks cc_check_like_asks kk_check_like_asks
  have b_check_like_asks := F_check_like_asks.binds (ps := ["one", "other"]) fun _ _ _ _ _ _ us hl => match us, hl with | [_, _], _ => rfl
  have F_are_tables := fun_mk (st := s_are_tables) l_are_tables cc_are_tables kk_are_tables
  have b_are_tables := F_are_tables.binds (ps := ["thing", "asks", "states"]) fun _ _ _ _ _ _ us hl => match us, hl with | [_, _, _], _ => rfl
  have F_is_table := fun_mk (st := s_is_table) l_is_table cc_is_table kk_is_table
  have b_is_table := F_is_table.binds (ps := ["thing", "states"]) fun _ _ _ _ _ _ us hl => match us, hl with | [_, _], _ => rfl
  have F_sums := fun_mk (st := s_sums) l_sums cc_sums kk_sums
  have b_sums := F_sums.binds (ps := ["ones", "others"]) fun _ _ _ _ _ _ us hl => match us, hl with | [_, _], _ => rfl
  have F_summed_tables := fun_mk (st := s_summed_tables) l_summed_tables cc_summed_tables kk_summed_tables
  have b_summed_tables := F_summed_tables.binds (ps := ["one", "other"]) fun _ _ _ _ _ _ us hl => match us, hl with | [_, _], _ => rfl
  have F__law_cell := fun_mk (st := s__law_cell) l__law_cell cc__law_cell kk__law_cell
  have b__law_cell := F__law_cell.binds (ps := ["_law_script", "_law_k"]) fun _ _ _ _ _ _ us hl => match us, hl with | [_, _], _ => rfl
  have F__law_source := fun_mk (st := s__law_source) l__law_source cc__law_source kk__law_source
  have b__law_source := F__law_source.binds (ps := ["_law_script", "_law_k"]) fun _ _ _ _ _ _ us hl => match us, hl with | [_, _], _ => rfl
  have F__law_draw := fun_mk (st := s__law_draw) l__law_draw cc__law_draw kk__law_draw
  have b__law_draw := F__law_draw.binds (ps := ["_law_source_here", "_law_many"]) fun _ _ _ _ _ _ us hl => match us, hl with | [_, _], _ => rfl
  have F__law_is_int := fun_mk (st := s__law_is_int) l__law_is_int cc__law_is_int kk__law_is_int
  have b__law_is_int := F__law_is_int.binds (ps := ["_law_thing"]) fun _ _ _ _ _ _ us hl => match us, hl with | [_], _ => rfl
  have F__law_exact := fun_mk (st := s__law_exact) l__law_exact cc__law_exact kk__law_exact
  have b__law_exact := F__law_exact.binds (ps := ["_law_told", "_law_due"]) fun _ _ _ _ _ _ us hl => match us, hl with | [_, _], _ => rfl
  have F__law_deep := fun_mk (st := s__law_deep) l__law_deep cc__law_deep kk__law_deep
  have b__law_deep := F__law_deep.binds (ps := ["_law_thing"]) fun _ _ _ _ _ _ us hl => match us, hl with | [_], _ => rfl
  have F__law_asks := fun_mk (st := s__law_asks) l__law_asks cc__law_asks kk__law_asks
  have b__law_asks := F__law_asks.binds (ps := ["_law_source_here"]) fun _ _ _ _ _ _ us hl => match us, hl with | [_], _ => rfl
  have F__law_prices := fun_mk (st := s__law_prices) l__law_prices cc__law_prices kk__law_prices
  have b__law_prices := F__law_prices.binds (ps := ["_law_source_here", "_law_many", "_law_most"]) fun _ _ _ _ _ _ us hl => match us, hl with | [_, _, _], _ => rfl
  have F__law_any_table := fun_mk (st := s__law_any_table) l__law_any_table cc__law_any_table kk__law_any_table
  have b__law_any_table := F__law_any_table.binds (ps := ["_law_source_here", "_law_many", "_law_most"]) fun _ _ _ _ _ _ us hl => match us, hl with | [_, _, _], _ => rfl
  have F__law_change := fun_mk (st := s__law_change) l__law_change cc__law_change kk__law_change
  have b__law_change := F__law_change.binds (ps := ["_law_source_here", "_law_s", "_law_t", "_law_most"]) fun _ _ _ _ _ _ us hl => match us, hl with | [_, _, _, _], _ => rfl
  have F__law_changes := fun_mk (st := s__law_changes) l__law_changes cc__law_changes kk__law_changes
  have b__law_changes := F__law_changes.binds (ps := ["_law_source_here", "_law_many", "_law_most"]) fun _ _ _ _ _ _ us hl => match us, hl with | [_, _, _], _ => rfl
  have F__law_served := fun_mk (st := s__law_served) l__law_served cc__law_served kk__law_served
  have b__law_served := F__law_served.binds (ps := ["_law_changes_here", "_law_serves"]) fun _ _ _ _ _ _ us hl => match us, hl with | [_, _], _ => rfl
  have F__law_world := fun_mk (st := s__law_world) l__law_world cc__law_world kk__law_world
  have b__law_world := F__law_world.binds (ps := ["_law_source_here", "_law_many", "_law_asks_here", "_law_most"]) fun _ _ _ _ _ _ us hl => match us, hl with | [_, _, _, _], _ => rfl
  have F__law_raised := fun_mk (st := s__law_raised) l__law_raised cc__law_raised kk__law_raised
  have b__law_raised := F__law_raised.binds (ps := ["_law_world_here", "_law_more"]) fun _ _ _ _ _ _ us hl => match us, hl with | [_, _], _ => rfl
  have F__law_moved := fun_mk (st := s__law_moved) l__law_moved cc__law_moved kk__law_moved
  have b__law_moved := F__law_moved.binds (ps := ["_law_source_here", "_law_world_here"]) fun _ _ _ _ _ _ us hl => match us, hl with | [_, _], _ => rfl
  have F__law_lists := fun_mk (st := s__law_lists) l__law_lists cc__law_lists kk__law_lists
  have b__law_lists := F__law_lists.binds (ps := ["_law_world_here"]) fun _ _ _ _ _ _ us hl => match us, hl with | [_], _ => rfl
  have F__law_store_is := fun_mk (st := s__law_store_is) l__law_store_is cc__law_store_is kk__law_store_is
  have b__law_store_is := F__law_store_is.binds (ps := ["_law_store", "_law_world_here"]) fun _ _ _ _ _ _ us hl => match us, hl with | [_, _], _ => rfl
  have F__law_part := fun_mk (st := s__law_part) l__law_part cc__law_part kk__law_part
  have b__law_part := F__law_part.binds (ps := ["_law_asks_here", "_law_begins", "_law_costs", "_law_ends"]) fun _ _ _ _ _ _ us hl => match us, hl with | [_, _, _, _], _ => rfl
  have F__law_bad_asks := fun_mk (st := s__law_bad_asks) l__law_bad_asks cc__law_bad_asks kk__law_bad_asks
  have b__law_bad_asks := F__law_bad_asks.binds (ps := ["_law_number"]) fun _ _ _ _ _ _ us hl => match us, hl with | [_], _ => rfl
  have F__law_bad_line := fun_mk (st := s__law_bad_line) l__law_bad_line cc__law_bad_line kk__law_bad_line
  have b__law_bad_line := F__law_bad_line.binds (ps := ["_law_number", "_law_line"]) fun _ _ _ _ _ _ us hl => match us, hl with | [_, _], _ => rfl
  have F__law_bad_costs := fun_mk (st := s__law_bad_costs) l__law_bad_costs cc__law_bad_costs kk__law_bad_costs
  have b__law_bad_costs := F__law_bad_costs.binds (ps := ["_law_number", "_law_costs"]) fun _ _ _ _ _ _ us hl => match us, hl with | [_, _], _ => rfl
  have F__law_bad_ends := fun_mk (st := s__law_bad_ends) l__law_bad_ends cc__law_bad_ends kk__law_bad_ends
  have b__law_bad_ends := F__law_bad_ends.binds (ps := ["_law_number", "_law_line"]) fun _ _ _ _ _ _ us hl => match us, hl with | [_, _], _ => rfl
  have F__law_refused := fun_mk (st := s__law_refused) l__law_refused cc__law_refused kk__law_refused
  have b__law_refused := F__law_refused.binds (ps := ["_law_source_here", "_law_world_here"]) fun _ _ _ _ _ _ us hl => match us, hl with | [_, _], _ => rfl
  have F__law_price_error := fun_mk (st := s__law_price_error) l__law_price_error cc__law_price_error kk__law_price_error
  have b__law_price_error := F__law_price_error.binds (ps := ["_law_store", "_law_ask", "_law_one", "_law_other_here"]) fun _ _ _ _ _ _ us hl => match us, hl with | [_, _, _, _], _ => rfl
  have F__law_price_refused := fun_mk (st := s__law_price_refused) l__law_price_refused cc__law_price_refused kk__law_price_refused
  have b__law_price_refused := F__law_price_refused.binds (ps := ["_law_source_here", "_law_store", "_law_world_here"]) fun _ _ _ _ _ _ us hl => match us, hl with | [_, _, _], _ => rfl
  have F__law_other := fun_mk (st := s__law_other) l__law_other cc__law_other kk__law_other
  have b__law_other := F__law_other.binds (ps := ["_law_source_here", "_law_world_here"]) fun _ _ _ _ _ _ us hl => match us, hl with | [_, _], _ => rfl
  have F_law := fun_mk (st := s_law) l_law cc_law kk_law
  have F_Store_init := fun_mk (st := s_Store_init) l_Store_init cc_Store_init kk_Store_init
  have b_Store_init := F_Store_init.binds (ps := ["self", "asks", "begins", "costs", "ends"]) fun _ _ _ _ _ _ us hl => match us, hl with | [_, _, _, _, _], _ => rfl
  have F_Store_price := fun_mk (st := s_Store_price) l_Store_price cc_Store_price kk_Store_price
  have b_Store_price := F_Store_price.binds (ps := ["self", "ask", "one", "other"]) fun _ _ _ _ _ _ us hl => match us, hl with | [_, _, _, _], _ => rfl
  have F_Store_len := fun_mk (st := s_Store_len) l_Store_len cc_Store_len kk_Store_len
  have b_Store_len := F_Store_len.binds (ps := ["self"]) fun _ _ _ _ _ _ us hl => match us, hl with | [_], _ => rfl
  have F_Store_eq := fun_mk (st := s_Store_eq) l_Store_eq cc_Store_eq kk_Store_eq
  have b_Store_eq := F_Store_eq.binds (ps := ["self", "other"]) fun _ _ _ _ _ _ us hl => match us, hl with | [_, _], _ => rfl
  refine ⟨PySem.W.fnOf "law" "law" (defArgs s_law) (defBody s_law) (defScope s_law) .none kV_law dc_law pm_law an_law cd_law ct_law, fun s u => .of_eq rfl, fun base _ _ => FnG.all fun g => ?_⟩
  have E : Ex K mg A := { LA := L_BadAsks, LK := L_BadAsk, LS := L_BadState, LB := L_BadStore, eA := E_BadAsks, eK := E_BadAsk, eS := E_BadState, eB := E_BadStore, kAT := kAT, kAI := kAI, kAB := kAB, kBB := kBB, kBT := kBT, kBV := kBV, kKT := kKT, kKS := kKS, kSS := kSS, kST := kST, xAA := te_BadAsks, xBA := xBA, xBF := xBF, xKK := te_BadAsk, xSK := xSK, xSF := xSF }
  have SC : SCls K A := { cls := ⟨pg_Store, hd_Store, po_Store, sa_Store⟩, nAsks := na_Store_asks, nBeg := na_Store_begins, nCost := na_Store_costs, nEnds := na_Store_ends, mkr := ⟨mk_Store, fi_Store_init, if_Store_init, kc_Store⟩, hcl := ha_Store, hgs := hnC, htk := htC, hm := hm_Store, isG := isG, isStr := isStr, isTup := isTup, lenF := fi_Store_len, lenN := if_Store_len, eqF := fi_Store_eq, eqN := if_Store_eq, nfG := nfG, nfS := nfS, nfT := nfT, mPrice := ⟨fi_Store_price, if_Store_price, kk_Store_price⟩ }
  have KCell : Kp P w K mg base CX0 1 f__law_cell ["_law_script", "_law_k"] (Ow.spCell K) := ⟨_, ok_cell (A := A) F__law_cell T, b__law_cell, F__law_cell.kp⟩
  have KSrc : Kp P w K mg base CX0 2 f__law_source ["_law_script", "_law_k"] (spSrc K) := ⟨_, ok_source (A := A) F__law_source T KCell, b__law_source, F__law_source.kp⟩
  have KDraw : Kp P w K mg base CX0 1 f__law_draw ["_law_source_here", "_law_many"] spDraw := ⟨_, ok_draw (A := A) F__law_draw T, b__law_draw, F__law_draw.kp⟩
  have KLAsks : Kp P w K mg base CX0 2 f__law_asks ["_law_source_here"] spLAsks := ⟨_, ok_lasks (A := A) F__law_asks T KDraw, b__law_asks, F__law_asks.kp⟩
  have KInt : Kp P w K mg base CX0 1 f__law_is_int ["_law_thing"] spInt := ⟨_, ok_lint (A := A) F__law_is_int T, b__law_is_int, F__law_is_int.kp⟩
  have KExact : Kp P w K mg base CX0 5 f__law_exact ["_law_told", "_law_due"] (spExD 3) := ⟨_, ok_ex (A := A) F__law_exact T KInt b__law_exact 3, b__law_exact, F__law_exact.kp⟩
  have KDeep3 : Kp P w K mg base CX0 5 f__law_deep ["_law_thing"] (spDeep 3) := ⟨_, ok_ld (A := A) F__law_deep T b__law_deep 3, b__law_deep, F__law_deep.kp⟩
  have KDeep : Kp P w K mg base CX0 6 f__law_deep ["_law_thing"] (spDeep 4) := ⟨_, ok_ld (A := A) F__law_deep T b__law_deep 4, b__law_deep, F__law_deep.kp⟩
  have KisI : Kp P w K mg base CX0 1 f_is_integer ["thing"] spIsInt := ⟨_, ok_isint (A := A) F_is_integer T, b_is_integer, F_is_integer.kp⟩
  have KisT : Kp P w K mg base CX0 1 f_is_tuple ["thing"] spIsTup := ⟨_, ok_istup (A := A) F_is_tuple T, b_is_tuple, F_is_tuple.kp⟩
  have KBel : Kp P w K mg base CX0 2 f_is_below ["thing", "count"] spBelow := ⟨_, ok_below (A := A) F_is_below T KisI, b_is_below, F_is_below.kp⟩
  have KTof : Kp P w K mg base CX0 2 f_is_tuple_of ["thing", "count"] spTupOf := ⟨_, ok_tupof (A := A) F_is_tuple_of T KisT, b_is_tuple_of, F_is_tuple_of.kp⟩
  have KInts : Kp P w K mg base CX0 3 f_are_integers ["thing", "count"] spInts := ⟨_, ok_ints (A := A) F_are_integers T KTof, b_are_integers, F_are_integers.kp⟩
  have KTab : Kp P w K mg base CX0 4 f_is_table ["thing", "states"] spTable := ⟨_, ok_is_table (A := A) F_is_table T KTof KInts, b_is_table, F_is_table.kp⟩
  have KTabs : Kp P w K mg base CX0 5 f_are_tables ["thing", "asks", "states"] spTables := ⟨_, ok_are_tables (A := A) F_are_tables T KTof KTab, b_are_tables, F_are_tables.kp⟩
  have KAsks : Kp P w K mg base CX0 1 f_is_asks ["thing"] (spAsks K) := ⟨_, ok_asks (A := A) F_is_asks T, b_is_asks, F_is_asks.kp⟩
  have KChkA : Kp P w K mg base (L2.CX P w) 3 f_check_asks ["thing"] (spChkAsks K A) := ⟨_, ok_chkasks (A := A) F_check_asks T L_BadAsks KAsks, b_check_asks, F_check_asks.kp⟩
  have KChkK : Kp P w K mg base (L2.CX P w) 3 f_check_ask ["asks", "thing"] (spChkAsk K A) := ⟨_, ok_chkask (A := A) F_check_ask T L_BadAsk, b_check_ask, F_check_ask.kp⟩
  have KChkS : Kp P w K mg base (L2.CX P w) 3 f_check_state ["count", "thing"] (spChkState A) := ⟨_, ok_chkstate (A := A) F_check_state T L_BadState KBel, b_check_state, F_check_state.kp⟩
  have KInit : Kp P w K mg base (L2.CX P w) 6 f_Store_init ["self", "asks", "begins", "costs", "ends"] (spSInit K A.c_Store A.c_BadAsks A.c_BadStore) := ⟨_, ok_init (A := A) F_Store_init T SC L_BadStore KChkA KisT KInts KTabs, b_Store_init, F_Store_init.kp⟩
  have KLen : Kp P w K mg base CX0 1 f_Store_len ["self"] (spSLen A.c_Store) := ⟨_, ok_slen (A := A) F_Store_len T SC, b_Store_len, F_Store_len.kp⟩
  have KEq : Kp P w K mg base CX0 1 f_Store_eq ["self", "other"] (spSEq K A.c_Store) := ⟨_, ok_seq (A := A) F_Store_eq T SC, b_Store_eq, F_Store_eq.kp⟩
  have KPrice : Kp P w K mg base (L2.CX P w) 4 f_Store_price ["self", "ask", "one", "other"] (spPrice K A.c_Store A.c_BadAsk A.c_BadState) := ⟨_, ok_price (A := A) F_Store_price T SC KChkK KChkS, b_Store_price, F_Store_price.kp⟩
  have KPr : Kp P w K mg base CX0 2 f__law_prices ["_law_source_here", "_law_many", "_law_most"] spPrices := ⟨_, ok_prices (A := A) F__law_prices T KDraw, b__law_prices, F__law_prices.kp⟩
  have KAny : Kp P w K mg base CX0 3 f__law_any_table ["_law_source_here", "_law_many", "_law_most"] spTab := ⟨_, ok_anytab (A := A) F__law_any_table T KPr, b__law_any_table, F__law_any_table.kp⟩
  have KChg : Kp P w K mg base CX0 2 f__law_change ["_law_source_here", "_law_s", "_law_t", "_law_most"] spChange := ⟨_, ok_change (A := A) F__law_change T KDraw, b__law_change, F__law_change.kp⟩
  have KChs : Kp P w K mg base CX0 3 f__law_changes ["_law_source_here", "_law_many", "_law_most"] spTab := ⟨_, ok_changes (A := A) F__law_changes T KChg, b__law_changes, F__law_changes.kp⟩
  have KSrv : Kp P w K mg base CX0 1 f__law_served ["_law_changes_here", "_law_serves"] spServed := ⟨_, ok_served (A := A) F__law_served T, b__law_served, F__law_served.kp⟩
  have KWorld : Kp P w K mg base CX0 4 f__law_world ["_law_source_here", "_law_many", "_law_asks_here", "_law_most"] spWorld := ⟨_, ok_world (A := A) F__law_world T KDraw KPr KAny KChs KSrv, b__law_world, F__law_world.kp⟩
  have KRaised : Kp P w K mg base CX0 1 f__law_raised ["_law_world_here", "_law_more"] spRaised := ⟨_, ok_raised (A := A) F__law_raised T, b__law_raised, F__law_raised.kp⟩
  have KMoved : Kp P w K mg base CX0 2 f__law_moved ["_law_source_here", "_law_world_here"] spMoved := ⟨_, ok_moved (A := A) F__law_moved T KDraw KRaised, b__law_moved, F__law_moved.kp⟩
  have KLists : Kp P w K mg base CX0 1 f__law_lists ["_law_world_here"] spLists := ⟨_, ok_lists (A := A) F__law_lists T, b__law_lists, F__law_lists.kp⟩
  have KSis : Kp P w K mg base CX0 6 f__law_store_is ["_law_store", "_law_world_here"] (spStoreIs A.c_Store) := ⟨_, ok_storeis (A := A) F__law_store_is T SC KExact KDeep3, b__law_store_is, F__law_store_is.kp⟩
  have KBA : Kp P w K mg base CX0 1 f__law_bad_asks ["_law_number"] (spBadAsks K) := ⟨_, ok_badasks (A := A) F__law_bad_asks T, b__law_bad_asks, F__law_bad_asks.kp⟩
  have KBL : Kp P w K mg base CX0 1 f__law_bad_line ["_law_number", "_law_line"] spBadLine := ⟨_, ok_badline (A := A) F__law_bad_line T, b__law_bad_line, F__law_bad_line.kp⟩
  have KBC : Kp P w K mg base CX0 1 f__law_bad_costs ["_law_number", "_law_costs"] spBadCosts := ⟨_, ok_badcosts (A := A) F__law_bad_costs T, b__law_bad_costs, F__law_bad_costs.kp⟩
  have KBE : Kp P w K mg base CX0 1 f__law_bad_ends ["_law_number", "_law_line"] spBadEnds := ⟨_, ok_badends (A := A) F__law_bad_ends T, b__law_bad_ends, F__law_bad_ends.kp⟩
  have KOther : Kp P w K mg base CX0 8 f__law_other ["_law_source_here", "_law_world_here"] (spOther A.c_Store) := ⟨_, ok_other (A := A) F__law_other T SC KDraw KLists KInit, b__law_other, F__law_other.kp⟩
  exact ok_law (A := A) F_law T SC ⟨KSrc, KLAsks, KDraw, KWorld, KMoved, KLists, KSis, KInit, KLen, KEq, KPrice, KExact, KDeep, KOther,
    fun g => ⟨_, ok_refused (A := A) F__law_refused T KDraw KBA KBL KBC KBE (fun g => ⟨_, ok_part (A := A) F__law_part T E SC KInit, b__law_part, F__law_part.kp⟩), b__law_refused, F__law_refused.kp⟩,
    fun g => ⟨_, ok_pricer (A := A) F__law_price_refused T KDraw (fun g => ⟨_, ok_pricee (A := A) F__law_price_error T E SC KPrice, b__law_price_error, F__law_price_error.kp⟩), b__law_price_refused, F__law_price_refused.kp⟩⟩
theorem walk {l : PySem.W.OpenLaw} {q : Program} {loose : List Str} {XP : (Str → Option Value) → Heap → Prop} {YP : World → Heap → Prop} {d : DefRec} {K : Params → PySem.W.Frag} (h1 : l.most = some 63) (h2 : d.params.defaults = []) (h3 : ∀ (w : World) (h : Heap), YP w h → (K w.params).In h)
    (F : ∀ (w : World) (mg : Str → Option Value) (fa : Addr) (h : Heap), (K w.params).In h → h.Ns mainGlobals mg → mg d.name = some (.ref fa) →
      ∃ fd : FuncData, (∀ (s : Shared) (u : Value), BindsTo s fd ⟨[u], []⟩ [("_law_script", u)]) ∧ ∀ base : Heap, (K w.params).In base → base.Ns mainGlobals mg → FnOk l.prog w (K w.params) mg base CX0 13 fa fd ["_law_script"] (spLaw (K w.params))) :
    PySem.W.WalkO q loose XP YP l.row.toRowW d [] (fun f vs => PySem.call f vs) :=
  L2.walk_of (n := 63) (k := 13) (x := "_law_script") (CX := fun _ => CX0) (sp := fun w => spLaw (K w.params)) h1 (by decide) h2 ⟨rfl, by decide, by decide⟩ h3 F (fun _ _ a ns _ _ hS => ⟨a, ns, rfl, hS, fun _ => rfl⟩) fun _ _ _ _ _ z => z
end As

open PySem PySem.W PyProof.Rows
theorem PySem.Challenge.cw_afterwise_k01_store_made_holds : PySem.Challenge.rw_afterwise_k01_store_made.Holds := by
  w_on; o_law; k_head; (case hw => w_witness2)
  k_fill
  refine As.walk (l := PySem.Challenge.rw_afterwise_k01_store_made) rfl rfl (fun w h Y => PySem.W.kIn_of Y) ?F
  case F =>
    intro w mg fa h KX G hmg
    refine' As.all_mk KX G hmg ?n_NotImplemented ?n_ValueError ?n_abs ?n_all ?n_bool ?n_int ?n_isinstance ?n_len ?n_list ?n_max ?n_range ?n_repr ?n_str ?n_sum ?n_tuple ?n_zip ?m_LETTERS ?m_MOST_ASKS ?m_MOST_STATES ?m_AfterError ?m_WrongThing ?m_WrongItem ?m_BadAsks ?m_BadAsk ?m_BadState ?m_BadStore ?m_Unlike ?m_TooMany ?m_Store ?a_is_integer ?l_is_integer ?cc_is_integer ?kk_is_integer ?a_is_tuple ?l_is_tuple ?cc_is_tuple ?kk_is_tuple ?a_is_below ?l_is_below ?cc_is_below ?kk_is_below ?a_is_tuple_of ?l_is_tuple_of ?cc_is_tuple_of ?kk_is_tuple_of ?a_are_integers ?l_are_integers ?cc_are_integers ?kk_are_integers ?a_is_asks ?l_is_asks ?cc_is_asks ?kk_is_asks ?a_check_asks ?l_check_asks ?cc_check_asks ?kk_check_asks ?a_check_ask ?l_check_ask ?cc_check_ask ?kk_check_ask ?a_check_state ?l_check_state ?cc_check_state ?kk_check_state ?a_check_like_asks ?l_check_like_asks ?cc_check_like_asks ?kk_check_like_asks ?a_are_tables ?l_are_tables ?cc_are_tables ?kk_are_tables ?a_is_table ?l_is_table ?cc_is_table ?kk_is_table ?a_sums ?l_sums ?cc_sums ?kk_sums ?a_summed_tables ?l_summed_tables ?cc_summed_tables ?kk_summed_tables ?a__law_cell ?l__law_cell ?cc__law_cell ?kk__law_cell ?a__law_source ?l__law_source ?cc__law_source ?kk__law_source ?a__law_draw ?l__law_draw ?cc__law_draw ?kk__law_draw ?a__law_is_int ?l__law_is_int ?cc__law_is_int ?kk__law_is_int ?a__law_exact ?l__law_exact ?cc__law_exact ?kk__law_exact ?a__law_deep ?l__law_deep ?cc__law_deep ?kk__law_deep ?a__law_asks ?l__law_asks ?cc__law_asks ?kk__law_asks ?a__law_prices ?l__law_prices ?cc__law_prices ?kk__law_prices ?a__law_any_table ?l__law_any_table ?cc__law_any_table ?kk__law_any_table ?a__law_change ?l__law_change ?cc__law_change ?kk__law_change ?a__law_changes ?l__law_changes ?cc__law_changes ?kk__law_changes ?a__law_served ?l__law_served ?cc__law_served ?kk__law_served ?a__law_world ?l__law_world ?cc__law_world ?kk__law_world ?a__law_raised ?l__law_raised ?cc__law_raised ?kk__law_raised ?a__law_moved ?l__law_moved ?cc__law_moved ?kk__law_moved ?a__law_lists ?l__law_lists ?cc__law_lists ?kk__law_lists ?a__law_store_is ?l__law_store_is ?cc__law_store_is ?kk__law_store_is ?a__law_part ?l__law_part ?cc__law_part ?kk__law_part ?a__law_bad_asks ?l__law_bad_asks ?cc__law_bad_asks ?kk__law_bad_asks ?a__law_bad_line ?l__law_bad_line ?cc__law_bad_line ?kk__law_bad_line ?a__law_bad_costs ?l__law_bad_costs ?cc__law_bad_costs ?kk__law_bad_costs ?a__law_bad_ends ?l__law_bad_ends ?cc__law_bad_ends ?kk__law_bad_ends ?a__law_refused ?l__law_refused ?cc__law_refused ?kk__law_refused ?a__law_price_error ?l__law_price_error ?cc__law_price_error ?kk__law_price_error ?a__law_price_refused ?l__law_price_refused ?cc__law_price_refused ?kk__law_price_refused ?a__law_other ?l__law_other ?cc__law_other ?kk__law_other ?a_law ?l_law ?cc_law ?kk_law ?x_BadAsks ?sa_BadAsks ?ga_BadAsks ?gg_BadAsks ?nb_BadAsks ?ii_BadAsks ?t_WrongThing_init ?l_WrongThing_init ?cc_WrongThing_init ?kc_BadAsks ?eb_BadAsks ?ty_BadAsks ?hd_BadAsks ?ha_BadAsks ?hm_BadAsks ?te_BadAsks ?x_BadAsk ?sa_BadAsk ?ga_BadAsk ?gg_BadAsk ?nb_BadAsk ?ii_BadAsk ?kc_BadAsk ?eb_BadAsk ?ty_BadAsk ?hd_BadAsk ?ha_BadAsk ?hm_BadAsk ?te_BadAsk ?x_BadState ?sa_BadState ?ga_BadState ?gg_BadState ?nb_BadState ?ii_BadState ?kc_BadState ?eb_BadState ?ty_BadState ?hd_BadState ?ha_BadState ?hm_BadState ?te_BadState ?x_BadStore ?sa_BadStore ?ga_BadStore ?gg_BadStore ?nb_BadStore ?ii_BadStore ?t_BadStore_init ?l_BadStore_init ?cc_BadStore_init ?kc_BadStore ?eb_BadStore ?ty_BadStore ?hd_BadStore ?ha_BadStore ?hm_BadStore ?te_BadStore ?hnC ?htC ?pg_Store ?hd_Store ?po_Store ?sa_Store ?na_Store_asks ?na_Store_begins ?na_Store_costs ?na_Store_ends ?mk_Store ?kc_Store ?ha_Store ?hm_Store ?fi_Store_init ?l_Store_init ?cc_Store_init ?kk_Store_init ?if_Store_init ?fi_Store_price ?l_Store_price ?cc_Store_price ?kk_Store_price ?if_Store_price ?fi_Store_len ?l_Store_len ?cc_Store_len ?kk_Store_len ?if_Store_len ?fi_Store_eq ?l_Store_eq ?cc_Store_eq ?kk_Store_eq ?if_Store_eq ?isG ?isStr ?isTup ?nfG ?nfS ?nfT ?kAT ?kAI ?kAB ?kBB ?kBT ?kBV ?kKT ?kKS ?kSS ?kST ?xBA ?xBF ?xSK ?xSF
    (case n_NotImplemented => first | k_is | rfl); (case n_ValueError => first | k_is | rfl); (case n_abs => first | k_is | rfl); (case n_all => first | k_is | rfl)
    (case n_bool => first | k_is | rfl); (case n_int => first | k_is | rfl); (case n_isinstance => first | k_is | rfl); (case n_len => first | k_is | rfl)
    (case n_list => first | k_is | rfl); (case n_max => first | k_is | rfl); (case n_range => first | k_is | rfl); (case n_repr => first | k_is | rfl)
    (case n_str => first | k_is | rfl); (case n_sum => first | k_is | rfl); (case n_tuple => first | k_is | rfl); (case n_zip => first | k_is | rfl)
    (case m_LETTERS => first | k_is | rfl); (case m_MOST_ASKS => first | k_is | rfl); (case m_MOST_STATES => first | k_is | rfl); (case m_AfterError => first | k_is | rfl)
    (case m_WrongThing => first | k_is | rfl); (case m_WrongItem => first | k_is | rfl); (case m_BadAsks => first | k_is | rfl); (case m_BadAsk => first | k_is | rfl)
    (case m_BadState => first | k_is | rfl); (case m_BadStore => first | k_is | rfl); (case m_Unlike => first | k_is | rfl); (case m_TooMany => first | k_is | rfl)
    (case m_Store => first | k_is | rfl); (case a_is_integer => first | k_is | rfl); (case l_is_integer => first | k_is | rfl); (case cc_is_integer => first | k_is | rfl)
    (case kk_is_integer => first | k_is | rfl); (case a_is_tuple => first | k_is | rfl); (case l_is_tuple => first | k_is | rfl); (case cc_is_tuple => first | k_is | rfl)
    (case kk_is_tuple => first | k_is | rfl); (case a_is_below => first | k_is | rfl); (case l_is_below => first | k_is | rfl); (case cc_is_below => first | k_is | rfl)
    (case kk_is_below => first | k_is | rfl); (case a_is_tuple_of => first | k_is | rfl); (case l_is_tuple_of => first | k_is | rfl); (case cc_is_tuple_of => first | k_is | rfl)
    (case kk_is_tuple_of => first | k_is | rfl); (case a_are_integers => first | k_is | rfl); (case l_are_integers => first | k_is | rfl); (case cc_are_integers => first | k_is | rfl)
    (case kk_are_integers => first | k_is | rfl); (case a_is_asks => first | k_is | rfl); (case l_is_asks => first | k_is | rfl); (case cc_is_asks => first | k_is | rfl)
    (case kk_is_asks => first | k_is | rfl); (case a_check_asks => first | k_is | rfl); (case l_check_asks => first | k_is | rfl); (case cc_check_asks => first | k_is | rfl)
    (case kk_check_asks => first | k_is | rfl); (case a_check_ask => first | k_is | rfl); (case l_check_ask => first | k_is | rfl); (case cc_check_ask => first | k_is | rfl)
    (case kk_check_ask => first | k_is | rfl); (case a_check_state => first | k_is | rfl); (case l_check_state => first | k_is | rfl); (case cc_check_state => first | k_is | rfl)
    (case kk_check_state => first | k_is | rfl); (case a_check_like_asks => first | k_is | rfl); (case l_check_like_asks => first | k_is | rfl); (case cc_check_like_asks => first | k_is | rfl)
    (case kk_check_like_asks => first | k_is | rfl); (case a_are_tables => first | k_is | rfl); (case l_are_tables => first | k_is | rfl); (case cc_are_tables => first | k_is | rfl)
    (case kk_are_tables => first | k_is | rfl); (case a_is_table => first | k_is | rfl); (case l_is_table => first | k_is | rfl); (case cc_is_table => first | k_is | rfl)
    (case kk_is_table => first | k_is | rfl); (case a_sums => first | k_is | rfl); (case l_sums => first | k_is | rfl); (case cc_sums => first | k_is | rfl)
    (case kk_sums => first | k_is | rfl); (case a_summed_tables => first | k_is | rfl); (case l_summed_tables => first | k_is | rfl); (case cc_summed_tables => first | k_is | rfl)
    (case kk_summed_tables => first | k_is | rfl); (case a__law_cell => first | k_is | rfl); (case l__law_cell => first | k_is | rfl); (case cc__law_cell => first | k_is | rfl)
    (case kk__law_cell => first | k_is | rfl); (case a__law_source => first | k_is | rfl); (case l__law_source => first | k_is | rfl); (case cc__law_source => first | k_is | rfl)
    (case kk__law_source => first | k_is | rfl); (case a__law_draw => first | k_is | rfl); (case l__law_draw => first | k_is | rfl); (case cc__law_draw => first | k_is | rfl)
    (case kk__law_draw => first | k_is | rfl); (case a__law_is_int => first | k_is | rfl); (case l__law_is_int => first | k_is | rfl); (case cc__law_is_int => first | k_is | rfl)
    (case kk__law_is_int => first | k_is | rfl); (case a__law_exact => first | k_is | rfl); (case l__law_exact => first | k_is | rfl); (case cc__law_exact => first | k_is | rfl)
    (case kk__law_exact => first | k_is | rfl); (case a__law_deep => first | k_is | rfl); (case l__law_deep => first | k_is | rfl); (case cc__law_deep => first | k_is | rfl)
    (case kk__law_deep => first | k_is | rfl); (case a__law_asks => first | k_is | rfl); (case l__law_asks => first | k_is | rfl); (case cc__law_asks => first | k_is | rfl)
    (case kk__law_asks => first | k_is | rfl); (case a__law_prices => first | k_is | rfl); (case l__law_prices => first | k_is | rfl); (case cc__law_prices => first | k_is | rfl)
    (case kk__law_prices => first | k_is | rfl); (case a__law_any_table => first | k_is | rfl); (case l__law_any_table => first | k_is | rfl); (case cc__law_any_table => first | k_is | rfl)
    (case kk__law_any_table => first | k_is | rfl); (case a__law_change => first | k_is | rfl); (case l__law_change => first | k_is | rfl); (case cc__law_change => first | k_is | rfl)
    (case kk__law_change => first | k_is | rfl); (case a__law_changes => first | k_is | rfl); (case l__law_changes => first | k_is | rfl); (case cc__law_changes => first | k_is | rfl)
    (case kk__law_changes => first | k_is | rfl); (case a__law_served => first | k_is | rfl); (case l__law_served => first | k_is | rfl); (case cc__law_served => first | k_is | rfl)
    (case kk__law_served => first | k_is | rfl); (case a__law_world => first | k_is | rfl); (case l__law_world => first | k_is | rfl); (case cc__law_world => first | k_is | rfl)
    (case kk__law_world => first | k_is | rfl); (case a__law_raised => first | k_is | rfl); (case l__law_raised => first | k_is | rfl); (case cc__law_raised => first | k_is | rfl)
    (case kk__law_raised => first | k_is | rfl); (case a__law_moved => first | k_is | rfl); (case l__law_moved => first | k_is | rfl); (case cc__law_moved => first | k_is | rfl)
    (case kk__law_moved => first | k_is | rfl); (case a__law_lists => first | k_is | rfl); (case l__law_lists => first | k_is | rfl); (case cc__law_lists => first | k_is | rfl)
    (case kk__law_lists => first | k_is | rfl); (case a__law_store_is => first | k_is | rfl); (case l__law_store_is => first | k_is | rfl); (case cc__law_store_is => first | k_is | rfl)
    (case kk__law_store_is => first | k_is | rfl); (case a__law_part => first | k_is | rfl); (case l__law_part => first | k_is | rfl); (case cc__law_part => first | k_is | rfl)
    (case kk__law_part => first | k_is | rfl); (case a__law_bad_asks => first | k_is | rfl); (case l__law_bad_asks => first | k_is | rfl); (case cc__law_bad_asks => first | k_is | rfl)
    (case kk__law_bad_asks => first | k_is | rfl); (case a__law_bad_line => first | k_is | rfl); (case l__law_bad_line => first | k_is | rfl); (case cc__law_bad_line => first | k_is | rfl)
    (case kk__law_bad_line => first | k_is | rfl); (case a__law_bad_costs => first | k_is | rfl); (case l__law_bad_costs => first | k_is | rfl); (case cc__law_bad_costs => first | k_is | rfl)
    (case kk__law_bad_costs => first | k_is | rfl); (case a__law_bad_ends => first | k_is | rfl); (case l__law_bad_ends => first | k_is | rfl); (case cc__law_bad_ends => first | k_is | rfl)
    (case kk__law_bad_ends => first | k_is | rfl); (case a__law_refused => first | k_is | rfl); (case l__law_refused => first | k_is | rfl); (case cc__law_refused => first | k_is | rfl)
    (case kk__law_refused => first | k_is | rfl); (case a__law_price_error => first | k_is | rfl); (case l__law_price_error => first | k_is | rfl); (case cc__law_price_error => first | k_is | rfl)
    (case kk__law_price_error => first | k_is | rfl); (case a__law_price_refused => first | k_is | rfl); (case l__law_price_refused => first | k_is | rfl); (case cc__law_price_refused => first | k_is | rfl)
    (case kk__law_price_refused => first | k_is | rfl); (case a__law_other => first | k_is | rfl); (case l__law_other => first | k_is | rfl); (case cc__law_other => first | k_is | rfl)
    (case kk__law_other => first | k_is | rfl); (case a_law => first | k_is | rfl); (case l_law => first | k_is | rfl); (case cc_law => first | k_is | rfl)
    (case kk_law => first | k_is | rfl); (case x_BadAsks => first | k_is | rfl); (case sa_BadAsks => first | k_is | rfl); (case ga_BadAsks => first | k_is | rfl)
    (case gg_BadAsks => first | k_is | rfl); (case nb_BadAsks => first | k_is | rfl); (case ii_BadAsks => first | k_is | rfl); (case t_WrongThing_init => first | k_is | rfl)
    (case l_WrongThing_init => first | k_is | rfl); (case cc_WrongThing_init => first | k_is | rfl); (case kc_BadAsks => first | k_is | rfl); (case eb_BadAsks => first | k_is | rfl)
    (case ty_BadAsks => first | k_is | rfl); (case hd_BadAsks => first | k_is | rfl); (case ha_BadAsks => first | k_is | rfl); (case hm_BadAsks => first | k_is | rfl)
    (case te_BadAsks => first | k_is | rfl); (case x_BadAsk => first | k_is | rfl); (case sa_BadAsk => first | k_is | rfl); (case ga_BadAsk => first | k_is | rfl)
    (case gg_BadAsk => first | k_is | rfl); (case nb_BadAsk => first | k_is | rfl); (case ii_BadAsk => first | k_is | rfl); (case kc_BadAsk => first | k_is | rfl)
    (case eb_BadAsk => first | k_is | rfl); (case ty_BadAsk => first | k_is | rfl); (case hd_BadAsk => first | k_is | rfl); (case ha_BadAsk => first | k_is | rfl)
    (case hm_BadAsk => first | k_is | rfl); (case te_BadAsk => first | k_is | rfl); (case x_BadState => first | k_is | rfl); (case sa_BadState => first | k_is | rfl)
    (case ga_BadState => first | k_is | rfl); (case gg_BadState => first | k_is | rfl); (case nb_BadState => first | k_is | rfl); (case ii_BadState => first | k_is | rfl)
    (case kc_BadState => first | k_is | rfl); (case eb_BadState => first | k_is | rfl); (case ty_BadState => first | k_is | rfl); (case hd_BadState => first | k_is | rfl)
    (case ha_BadState => first | k_is | rfl); (case hm_BadState => first | k_is | rfl); (case te_BadState => first | k_is | rfl); (case x_BadStore => first | k_is | rfl)
    (case sa_BadStore => first | k_is | rfl); (case ga_BadStore => first | k_is | rfl); (case gg_BadStore => first | k_is | rfl); (case nb_BadStore => first | k_is | rfl)
    (case ii_BadStore => first | k_is | rfl); (case t_BadStore_init => first | k_is | rfl); (case l_BadStore_init => first | k_is | rfl); (case cc_BadStore_init => first | k_is | rfl)
    (case kc_BadStore => first | k_is | rfl); (case eb_BadStore => first | k_is | rfl); (case ty_BadStore => first | k_is | rfl); (case hd_BadStore => first | k_is | rfl)
    (case ha_BadStore => first | k_is | rfl); (case hm_BadStore => first | k_is | rfl); (case te_BadStore => first | k_is | rfl); (case hnC => first | k_is | rfl)
    (case htC => first | k_is | rfl); (case pg_Store => first | k_is | rfl); (case hd_Store => first | k_is | rfl); (case po_Store => first | k_is | rfl)
    (case sa_Store => first | k_is | rfl); (case na_Store_asks => first | k_is | rfl); (case na_Store_begins => first | k_is | rfl); (case na_Store_costs => first | k_is | rfl)
    (case na_Store_ends => first | k_is | rfl); (case mk_Store => first | k_is | rfl); (case kc_Store => first | k_is | rfl); (case ha_Store => first | k_is | rfl)
    (case hm_Store => first | k_is | rfl); (case fi_Store_init => first | k_is | rfl); (case l_Store_init => first | k_is | rfl); (case cc_Store_init => first | k_is | rfl)
    (case kk_Store_init => first | k_is | rfl); (case if_Store_init => first | k_is | rfl); (case fi_Store_price => first | k_is | rfl); (case l_Store_price => first | k_is | rfl)
    (case cc_Store_price => first | k_is | rfl); (case kk_Store_price => first | k_is | rfl); (case if_Store_price => first | k_is | rfl); (case fi_Store_len => first | k_is | rfl)
    (case l_Store_len => first | k_is | rfl); (case cc_Store_len => first | k_is | rfl); (case kk_Store_len => first | k_is | rfl); (case if_Store_len => first | k_is | rfl)
    (case fi_Store_eq => first | k_is | rfl); (case l_Store_eq => first | k_is | rfl); (case cc_Store_eq => first | k_is | rfl); (case kk_Store_eq => first | k_is | rfl)
    (case if_Store_eq => first | k_is | rfl); (case isG => first | k_is | rfl); (case isStr => first | k_is | rfl); (case isTup => first | k_is | rfl)
    (case nfG => first | k_is | rfl); (case nfS => first | k_is | rfl); (case nfT => first | k_is | rfl); (case kAT => first | k_is | rfl)
    (case kAI => first | k_is | rfl); (case kAB => first | k_is | rfl); (case kBB => first | k_is | rfl); (case kBT => first | k_is | rfl)
    (case kBV => first | k_is | rfl); (case kKT => first | k_is | rfl); (case kKS => first | k_is | rfl); (case kSS => first | k_is | rfl)
    (case kST => first | k_is | rfl); (case xBA => first | k_is | rfl); (case xBF => first | k_is | rfl); (case xSK => first | k_is | rfl)
    (case xSF => first | k_is | rfl)

