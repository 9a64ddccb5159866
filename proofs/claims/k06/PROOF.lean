import PyProof.Rows.All
import Wide.All
import OpenK.AllK
import Wide.FinOn
import HandS.ForMost
import HandS.Wide
import HandS.IsInst
import HandS.Zip
import HandS.Style
import HandS.TupAny
import HandS.Evl
import HandS.More
import PyProof.ReprBulk
import HandS.Nested
import HandS.ClsMeth
import HandS.ExcInit
import HandS.ExcValue
import HandS.ExcField
import HandS.ExcIs
import KE.KSuper
import KE.KExcSuper
import KE.KExcIs
import HandS.TupMul
import KE.GoesMore
import PyProof.EnumMake
import HandS.Deep
import HandS.TupLe
import HandS.WrittenGet
import HandS.FStr
import HandS.SetFor
import PyProof.ReprRoads
import PySem.Challenge.RW_swiftkin_k06_refusals
set_option Elab.async false
set_option linter.all false
set_option maxRecDepth 100000
set_option maxHeartbeats 4000000
/-! what all the laws' texts share: no word of the program here -/
namespace Kin
open PySem PySem.Spec PyProof.Rows L2 RZ
/-- a def that may be called by its name -/
structure Cl (P : Program) (w : World) (K : PySem.W.Frag) (mg : Str → Option Value) (base : Heap) (k : Nat) (x : Str) (sp : Sp) : Prop where
  ex : ∃ (f : Addr) (fd : FuncData) (ps : List Str), FnOk P w K mg base CX0 k f fd ps sp ∧ mg x = some (.ref f) ∧ PySem.W.keepIn K (.ref f) = true ∧ Binds K fd ps []
theorem Cl.imp {P : Program} {w : World} {K : PySem.W.Frag} {mg : Str → Option Value} {base : Heap} {k : Nat} {x : Str} {sp sp' : Sp} (c : Cl P w K mg base k x sp) (h : ∀ vs H Q E, sp' vs H Q E → sp vs H Q E) : Cl P w K mg base k x sp' := by
  obtain ⟨f, fd, ps, F, r⟩ := c.ex
  exact ⟨f, fd, ps, F.imp h, r⟩
theorem Cl.mono {P : Program} {w : World} {K : PySem.W.Frag} {mg : Str → Option Value} {base : Heap} {j k : Nat} {x : Str} {sp : Sp} (c : Cl P w K mg base j x sp) (h : j ≤ k) : Cl P w K mg base k x sp := by
  obtain ⟨f, fd, ps, F, r⟩ := c.ex
  exact ⟨f, fd, ps, F.mono h, r⟩
section
variable {X : Cx} {k j : Nat} {x : Str} {sp : Sp} {p pos : Pos} {e : Expr} {es : List Expr} {t : TA}
theorem pe_cl (c : Cl X.prog X.w X.K X.mg X.base k x sp) (hr : Room j X.A) (hk : k ≤ j) (hg : Gl X x) (ha : PA X (e :: es) t)
    (hdb : (x == ("__debug__" : Str)) = false := by decide) (he : starEach (e :: es) X.env = (false, eval e X.env) :: starEach es X.env := by rfl) (hpl : (backTo pos (starEach es X.env)).any (·.1) = false := by rfl) :
    PE X (.Call (.Name x p) (e :: es) [] pos) (tCall sp [] E0 t) := by
  obtain ⟨f, fd, ps, F, hm, kp, b⟩ := c.ex
  exact pe_call F (hr.mono hk) hg hm kp b .nil pass0 ha hdb he hpl
end
/-! ### the text's defs: one word for what the end tells of a def -/
structure Def (K : PySem.W.Frag) (mg : Str → Option Value) (x : Str) (ps : List Str) (st : Stmt) : Prop where
  ex : ∃ (f : Addr) (fd : FuncData), Fun K x x st f fd ∧ mg x = some (.ref f) ∧ Binds K fd ps []
section
variable {P : Program} {w : World} {K : PySem.W.Frag} {mg : Str → Option Value} {base : Heap}
theorem Def.cl {x : Str} {st : Stmt} {N ps : List Str} {k : Nat} {sp : Sp} (F : Def K mg x ps st) (S : FnScope N ps (defScope st)) (len : ∀ vs H Q E, sp vs H Q E → vs.length = ps.length)
    (hbody : ∀ (f : Addr) (cdv : Value) (A : Around) (outer : List Env) (s : Shared) (H : Hp) (vs : List V) (Q : VK) (E : XK), Room k (A.deeper (envOfC x (defScope st) s.heap.objs.size f cdv)) → sp vs H Q E →
      ∃ t, PSs (cxOf CX0 P w K mg base N x (defScope st) f cdv A outer s H E).nox (defBody st) t ∧ t { nx := fun _ H' => Q .non H', rt := Q } (start N vs) H) : Cl P w K mg base (k + 1) x sp := by
  obtain ⟨f, fd, F, hm, b⟩ := F.ex
  exact ⟨f, fd, ps, F.ok S len fun cdv A outer s H vs Q E hr h => hbody f cdv A outer s H vs Q E hr h, hm, F.kp, b⟩
end
/-! ### what is kept: all but what stands at p -/
def Fp (p : Addr) (H H' : Hp) : Prop := ∀ b o, b ≠ p → H b = some o → H' b = some o
theorem Fp.refl (p : Addr) (H : Hp) : Fp p H H := fun _ _ _ h => h
theorem Fp.trans {p : Addr} {H H1 H2 : Hp} (a : Fp p H H1) (b : Fp p H1 H2) : Fp p H H2 := fun c o n h => b c o n (a c o n h)
theorem Fp.same {p : Addr} {H H' : Hp} (h : Same H H') : Fp p H H' := fun b o _ e => h b o e
theorem same_new {H : Hp} {p : Addr} {o : HO} (h : H p = none) : Same H (upd H p o) := fun b u q => by
  rw [upd_ne (ne_of_none q h)]
  exact q
theorem Fp.new {p : Addr} {H : Hp} {q : Addr} {o : HO} (h : H q = none) : Fp p H (upd H q o) := Fp.same (same_new h)
theorem Fp.at {p : Addr} {H : Hp} {o : HO} : Fp p H (upd H p o) := fun b u n e => by
  rw [upd_ne n]
  exact e
/-- a thing that was made since may change -/
theorem Fp.mut {p : Addr} {H H' : Hp} {q : Addr} {o : HO} (e : Fp p H H') (h : H q = none) : Fp p H (upd H' q o) := fun b u n hb => by
  rw [upd_ne (ne_of_none hb h)]
  exact e b u n hb
theorem same_mut {H H' : Hp} {q : Addr} {o : HO} (e : Same H H') (h : H q = none) : Same H (upd H' q o) := fun b u hb => by
  rw [upd_ne (ne_of_none hb h)]
  exact e b u hb
theorem Fp.free {p : Addr} {H H' : Hp} (e : Fp p H H') {b : Addr} (n : b ≠ p) (h : H' b = none) : H b = none := by
  cases q : H b with
  | none => rfl
  | some o =>
    rw [e b o n q] at h
    cases h
/-! ### the pot -/
structure PotAt (H : Hp) (p c : Addr) (ns : List Int) (a r : Int) : Prop where
  hp : H p = some (.lst [.ref c, .int a, .int r])
  hc : H c = some (.lst (ns.map V.int))
  ha : 0 ≤ a
  hr : 0 ≤ r
def Pot (H : Hp) (p c : Addr) (ns : List Int) : Prop := ∃ a r, PotAt H p c ns a r
theorem PotAt.ne {H : Hp} {p c : Addr} {ns : List Int} {a r : Int} (h : PotAt H p c ns a r) : c ≠ p := ne_of h.hc h.hp (by
  intro e
  have e2 := HO.lst.inj e
  cases ns with
  | nil => cases e2
  | cons x t => cases e2)
theorem Pot.same {H H' : Hp} {p c : Addr} {ns : List Int} (h : Pot H p c ns) (e : Same H H') : Pot H' p c ns := by
  obtain ⟨a, r, q⟩ := h
  exact ⟨a, r, e _ _ q.hp, e _ _ q.hc, q.ha, q.hr⟩
theorem PotAt.upd {H : Hp} {p c : Addr} {ns : List Int} {a r a' r' : Int} (h : PotAt H p c ns a r) (ha : 0 ≤ a') (hr : 0 ≤ r') : PotAt (upd H p (.lst [.ref c, .int a', .int r'])) p c ns a' r' :=
  ⟨upd_same, by rw [upd_ne h.ne]; exact h.hc, ha, hr⟩
theorem Pot.nep {H : Hp} {p c q : Addr} {ns : List Int} (h : Pot H p c ns) (hq : H q = none) : q ≠ p := fun e => by
  obtain ⟨a, r, z⟩ := h
  rw [e, z.hp] at hq
  cases hq
theorem Pot.nec {H : Hp} {p c q : Addr} {ns : List Int} (h : Pot H p c ns) (hq : H q = none) : q ≠ c := fun e => by
  obtain ⟨a, r, z⟩ := h
  rw [e, z.hc] at hq
  cases hq
theorem Pot.mut {H : Hp} {p c q : Addr} {ns : List Int} {o : HO} (h : Pot H p c ns) (n : q ≠ p) (m : q ≠ c) : Pot (upd H q o) p c ns := by
  obtain ⟨a, r, z⟩ := h
  exact ⟨a, r, by rw [upd_ne n.symm]; exact z.hp, by rw [upd_ne m.symm]; exact z.hc, z.ha, z.hr⟩
/-- from H to H': all but the pot is kept, the pot is a pot -/
structure Go (p c : Addr) (ns : List Int) (H H' : Hp) : Prop where
  st : Pot H p c ns
  k : Fp p H H'
  pot : Pot H' p c ns
section
variable {p c q : Addr} {ns : List Int} {H H1 H2 : Hp} {o : HO}
theorem Go.refl (h : Pot H p c ns) : Go p c ns H H := ⟨h, Fp.refl p H, h⟩
theorem Go.trans (a : Go p c ns H H1) (b : Go p c ns H1 H2) : Go p c ns H H2 := ⟨a.st, a.k.trans b.k, b.pot⟩
theorem Go.same (a : Go p c ns H H1) (e : Same H1 H2) : Go p c ns H H2 := ⟨a.st, a.k.trans (Fp.same e), a.pot.same e⟩
theorem Go.new (a : Go p c ns H H1) (h : H1 q = none) : Go p c ns H (upd H1 q o) := a.same (same_new h)
/-- a thing made since the beginning is changed -/
theorem Go.mut (a : Go p c ns H H1) (h : H q = none) : Go p c ns H (upd H1 q o) := ⟨a.st, a.k.mut h, a.pot.mut (a.st.nep h) (a.st.nec h)⟩
theorem Go.free (a : Go p c ns H H1) (h : H1 q = none) : H q = none := a.k.free (a.pot.nep h) h
theorem Go.get (a : Go p c ns H H1) (n : q ≠ p) (h : H q = some o) : H1 q = some o := a.k q o n h
end

/-! ### loops over enumerate, comprehensions over zip -/
theorem for_enum {K : PySem.W.Frag} {a : Addr} {xs : List V} {g : TG} {tb : TS} {D : Ends} {σ : L2.St} {H : Hp} (Pv : Nat → L2.St → Hp → Prop) (h0 : Pv 0 σ H) (hl : ∀ i σ H, i ≤ xs.length → Pv i σ H → SqL K H a xs)
    (hs : ∀ (i : Nat) x σ H T, xs[i]? = some x → Pv i σ H → H T = none → g (.ref T) σ (upd H T (.tup [.int (i : Nat), x])) fun σ2 H2 => tb { D with nx := Pv (i + 1), ct := Pv (i + 1), bk := D.nx } σ2 H2) (hd : ∀ σ H, Pv xs.length σ H → D.nx σ H) :
    ∃ W : Nat → Nat → L2.St → Hp → Prop, (∃ m, W 0 m σ H) ∧ ∀ i m σ H, W i m σ H →
      ((Ite K a).stop i H ∧ D.nx σ H) ∨ ((Ite K a).go i H ∧ ∃ N : L2.St → Hp → Prop, (∀ σ' H', N σ' H' → ∃ m', m' < m ∧ W (i + 1) m' σ' H') ∧ ∀ x H', (Ite K a).yld i H x H' → g x σ H' fun σ2 H2 => tb { D with nx := N, ct := N, bk := D.nx } σ2 H2) := by
  refine ⟨fun i m σ H => i ≤ xs.length ∧ m + i = xs.length ∧ Pv i σ H, ⟨xs.length, Nat.zero_le _, rfl, h0⟩, fun i m σ H hw => ?_⟩
  obtain ⟨hi, hm, hp⟩ := hw
  have hq := hl i σ H hi hp
  by_cases hlt : i < xs.length
  · refine .inr ⟨⟨xs, xs[i], hq, List.getElem?_eq_getElem hlt⟩, Pv (i + 1), fun σ' H' hp' => ⟨m - 1, by omega, by omega, by omega, hp'⟩, fun x H' hy => ?_⟩
    obtain ⟨T, y, rfl, nT, rfl, fy⟩ := hy
    exact hs i y σ H T (fy xs hq) hp nT
  · have ei : i = xs.length := by omega
    rw [ei] at hp
    exact .inl ⟨⟨xs, hq, by omega⟩, hd σ H hp⟩
/-! ### slices by plain numbers -/
theorem cut_from (xs : List V) (k : Nat) : cutV xs (some (k : Int)) none = xs.drop k := by
  unfold cutV
  rw [HT.sIx_nat, HT.sIx_none]
  by_cases h : k ≤ xs.length
  · rw [Nat.min_eq_left h, ← List.length_drop]
    exact List.take_length
  · have h2 : xs.length ≤ k := by omega
    rw [Nat.min_eq_right h2, List.drop_of_length_le h2, List.drop_of_length_le (Nat.le_refl _)]
    exact List.take_nil
theorem cut_to (xs : List V) (k : Nat) : cutV xs none (some (k : Int)) = xs.take k := by
  unfold cutV
  rw [HT.sIx_nat, HT.sIx_none, List.drop_zero, Nat.sub_zero]
  by_cases h : k ≤ xs.length
  · rw [Nat.min_eq_left h]
  · rw [Nat.min_eq_right (by omega), List.take_length, List.take_of_length_le (by omega)]
theorem cut_len (xs : List V) (lo hi : Option Int) : (cutV xs lo hi).length ≤ xs.length := by
  unfold cutV
  rw [List.length_take, List.length_drop]
  omega
theorem cut_map (f : Int → V) (ns : List Int) (lo hi : Option Int) : ∃ ms : List Int, cutV (ns.map f) lo hi = ms.map f ∧ ms.length ≤ ns.length := by
  unfold cutV
  refine ⟨_, by rw [← List.map_drop, ← List.map_take], ?_⟩
  rw [List.length_take, List.length_drop, List.length_map]
  omega

section
variable {X : Cx}
/-- a statement, a word behind it, the rest from that word -/
def tMid (t u : TS) : TS := fun D σ H => ∃ M : L2.St → Hp → Prop, t { D with nx := M } σ H ∧ ∀ σ' H', M σ' H' → u D σ' H'
theorem pss_cut' {st : Stmt} {rest : List Stmt} {t u : TS} (h1 : PS X st t) (h2 : PSs X rest u) : PSs X (st :: rest) (tMid t u) := Evl.pss_cut h1 h2
end

def nV (k : Nat) : V := .int (k : Int)
def numV : Option Nat → V
  | none => .non
  | some n => nV n
def strV : Option Str → V
  | none => .non
  | some x => .str x
/-! ### data: lists of ints, lists of texts -/
theorem dp_ints {K : PySem.W.Frag} {H : Hp} : ∀ ns : List Int, DpAll K H (ns.map V.int) (ns.map PyData.int)
  | [] => .nil
  | n :: r => .cons (.int n) (dp_ints r)
theorem dp_strs {K : PySem.W.Frag} {H : Hp} : ∀ xs : List Str, DpAll K H (xs.map V.str) (xs.map PyData.str)
  | [] => .nil
  | x :: r => .cons (.str x) (dp_strs r)
theorem lay_ints : ∀ ns : List Int, PyData.canLayAll0 (ns.map PyData.int) = true
  | [] => rfl
  | n :: r => by
    show (PyData.canLay0 (.int n) && PyData.canLayAll0 (r.map PyData.int)) = true
    rw [lay_ints r]
    rfl
theorem depth_ints : ∀ ns : List Int, PyData.depthAll (ns.map PyData.int) = 0
  | [] => rfl
  | n :: r => by
    show max (PyData.depth (.int n)) (PyData.depthAll (r.map PyData.int)) = 0
    rw [depth_ints r]
    rfl
theorem shaped_list {ds : List PyData} {n : Nat} (h1 : PyData.canLayAll0 ds = true) (h2 : PyData.depthAll ds ≤ n) (h3 : n < 64) : SeqAt.shaped (.list ds) = true := by
  unfold SeqAt.shaped
  rw [Bool.and_eq_true, decide_eq_true_eq]
  refine ⟨h1, ?_⟩
  show PyData.depthAll ds + 1 ≤ 64
  omega
theorem shaped_tuple {ds : List PyData} {n : Nat} (h1 : PyData.canLayAll0 ds = true) (h2 : PyData.depthAll ds ≤ n) (h3 : n < 64) : SeqAt.shaped (.tuple ds) = true := by
  unfold SeqAt.shaped
  rw [Bool.and_eq_true, decide_eq_true_eq]
  refine ⟨h1, ?_⟩
  show PyData.depthAll ds + 1 ≤ 64
  omega
theorem shaped_ints (ns : List Int) : SeqAt.shaped (.list (ns.map PyData.int)) = true := shaped_list (lay_ints ns) (Nat.le_of_eq (depth_ints ns)) (by decide)
theorem lay_strs : ∀ xs : List Str, (∀ x ∈ xs, PyData.strOk x = true) → PyData.canLayAll0 (xs.map PyData.str) = true
  | [], _ => rfl
  | x :: r, h => by
    show (PyData.canLay0 (.str x) && PyData.canLayAll0 (r.map PyData.str)) = true
    rw [lay_strs r fun y hy => h y (List.mem_cons_of_mem _ hy), Bool.and_true]
    exact h x List.mem_cons_self
theorem depth_strs : ∀ xs : List Str, PyData.depthAll (xs.map PyData.str) = 0
  | [] => rfl
  | n :: r => by
    show max (PyData.depth (.str n)) (PyData.depthAll (r.map PyData.str)) = 0
    rw [depth_strs r]
    rfl
theorem shaped_strs {xs : List Str} (h : ∀ x ∈ xs, PyData.strOk x = true) : SeqAt.shaped (.list (xs.map PyData.str)) = true := shaped_list (lay_strs xs h) (Nat.le_of_eq (depth_strs xs)) (by decide)
theorem eqv_ints_nil (ns : List Int) : PyData.eqv (.list (ns.map PyData.int)) (.list []) = decide (ns = []) := by
  cases ns with
  | nil => rfl
  | cons n r => rfl

/-! ### the rules that name the written part, with its name given -/
section
variable {X : Cx} {tg l e : Expr} {tl te to : TE} {t : TA} {T : String}
theorem ix_listK (K : PySem.W.Frag) (h : X.K = K := by rfl) : IxR X (rIxL K) := by subst h; exact ix_list
theorem ix_tupK (K : PySem.W.Frag) (h : X.K = K := by rfl) : IxR X (rIxT K) := by subst h; exact ix_tup
theorem sl_listK (K : PySem.W.Frag) (h : X.K = K := by rfl) : SlR X (rSlL K) := by subst h; exact sl_list
theorem sl_tupK (K : PySem.W.Frag) (h : X.K = K := by rfl) : SlR X (rSlA K) := by subst h; exact sl_tupA
theorem op_inK (K : PySem.W.Frag) (h : X.K = K := by rfl) : OpR X (compareOp .In) (rIn K false) := by subst h; exact op_in_seq
theorem op_notInK (K : PySem.W.Frag) (h : X.K = K := by rfl) : OpR X (compareOp .NotIn) (rIn K true) := by subst h; exact op_notIn_seq
theorem op_eqK (K : PySem.W.Frag) (hu : X.A.units + 64 < cLine) (h : X.K = K := by rfl) : OpR X (compareOp .Eq) (rEqD K) := by subst h; exact op_eqD hu
theorem op_neK (K : PySem.W.Frag) (hu : X.A.units + 64 < cLine) (h : X.K = K := by rfl) : OpR X (compareOp .NotEq) (rNeD K) := by subst h; exact op_neD hu
def rLenK (K : PySem.W.Frag) : List V → Hp → VK → Prop := fun xs H Q => ∃ p ys, xs = [.ref p] ∧ (SqL K H p ys ∨ SqT K H p ys) ∧ Q (.int ys.length) H
theorem call_lenK (K : PySem.W.Frag) (h : X.K = K := by rfl) : CallR X (.builtin "len") (rLenK K) := by subst h; exact call_len_seq
def rListK (K : PySem.W.Frag) : List V → Hp → VK → Prop := fun xs H Q => ∃ p ys, xs = [.ref p] ∧ (SqL K H p ys ∨ SqT K H p ys) ∧ ∀ l, H l = none → Q (.ref l) (upd H l (.lst ys))
theorem call_listK (K : PySem.W.Frag) (h : X.K = K := by rfl) : CallR X (.type "list") (rListK K) := by subst h; exact call_list_of
theorem cr_allK (K : PySem.W.Frag) (h : X.K = K := by rfl) (hc : X.calm = true := by rfl) : CallR X (.builtin "all") (rAll K) := by subst h; exact cr_all hc
theorem call_isiK' (K : PySem.W.Frag) (h : X.K = K := by rfl) : CallR X (.builtin "isinstance") (rIsi K) := by subst h; exact call_isi
theorem call_isiTK (K : PySem.W.Frag) (h : X.K = K := by rfl) : CallR X (.builtin "isinstance") (rIsiT K) := by subst h; exact call_isiT
theorem mt_indexK (K : PySem.W.Frag) (h : X.K = K := by rfl) : MtR X "list.index" (rIndex K) := by subst h; exact mt_index
theorem pi_listK (K : PySem.W.Frag) (hl : PE X l tl) (h : X.K = K := by rfl) : PI X tg l (iList K tl) := by subst h; exact pi_list hl
theorem pi_enumK {ta : TA} {p pos tpos : Pos} {elts : List Expr} {kk : Nat} (K : PySem.W.Frag) (hg : Gl X "enumerate") (hm : X.mg "enumerate" = none) (ha : PA X [e] ta) (h : X.K = K := by rfl) (hs : starEach [e] X.env = [(false, eval e X.env)] := by rfl) :
    PI X (.Tuple elts kk tpos) (.Call (.Name "enumerate" p) [e] [] pos) (iEnum K ta) := by subst h; exact pi_enum hg hm ha hs
theorem pi_zipK {e2 : Expr} {ta : TA} {p pos tpos : Pos} {elts : List Expr} {kk : Nat} (K : PySem.W.Frag) (hg : Gl X "zip") (hm : X.mg "zip" = none) (ha : PA X [e, e2] ta) (h : X.K = K := by rfl)
    (hs : starEach [e, e2] X.env = (false, eval e X.env) :: starEach [e2] X.env := by rfl) (hpl : (backTo pos (starEach [e2] X.env)).any (·.1) = false := by rfl) :
    PI X (.Tuple elts kk tpos) (.Call (.Name "zip" p) [e, e2] [] pos) (iZipA K ta) := by subst h; exact pi_zipA hg hm ha hs hpl
theorem pg_tupK {es : List Expr} {k : Nat} {t : TGs} {pos : Pos} (K : PySem.W.Frag) (n : Nat) (hc : X.calm = true) (hts : PGs X es t) (h : X.K = K := by rfl) (hn : (assignEach es X.env).length = n := by rfl) (hst : (assignEach es X.env).findIdx? (·.1) = none := by rfl) :
    PG X (.Tuple es k pos) (gTup K n t) := by subst h; exact pg_tup hc hts hn hst
def tTruK (K : PySem.W.Frag) (ta : TE) : TT := fun σ H Q => ta σ H fun x H' => ∃ k, TruV K x H' k ∧ Q k H'
theorem pt_truK {a : Expr} {ta : TE} (K : PySem.W.Frag) (ha : PE X a ta) (he : ∀ whole, isTrue a X.env whole = (do let v ← whole; standAt a.pos; holding [v] (truthy v))) (h : X.K = K := by rfl) : PT X a (tTruK K ta) := by subst h; exact pt_truth ha he
theorem pe_revK {k : Nat} {p1 p2 p3 pos : Pos} (K : PySem.W.Frag) (he : PE X e te) (h : X.K = K := by rfl) : PE X (.Subscript e (.Slice none none (some (.UnaryOp .USub (.Constant (.int 1) k p1) p2)) p3) pos) (tRevL K te) := by subst h; exact pe_revL he
def rJoinK (K : PySem.W.Frag) : V → List V → Hp → VK → Prop := fun x xs H Q => ∃ a p, ∃ ys : List Str, x = .str a ∧ xs = [.ref p] ∧ (SqL K H p (ys.map V.str) ∨ SqT K H p (ys.map V.str)) ∧
      (ys.map (·.length)).sum + ys.length * a.length ≤ 16777216 ∧ Q (.str (Txt.join a ys)) H
theorem pe_joinK {o : Expr} {apos pos : Pos} (K : PySem.W.Frag) (ho : PE X o to) (he : PE X e te) (h : X.K = K := by rfl) (hs : starEach [e] X.env = [(false, eval e X.env)] := by rfl) (hbase : attributeBase o "join" X.env (eval o X.env) = eval o X.env := by rfl) (hline : (apos.endLine == pos.line) = true := by rfl) :
    PE X (.Call (.Attribute o "join" apos) [e] [] pos) (tM1 (rJoinK K) to te) := by subst h; exact pe_join ho he hs hbase hline
end
section
variable {X : Cx} {o : Expr} {to : TE} {t : TA} {T name id : String} {r : V → List V → Hp → VK → Prop} {apos cpos : Pos} {e : Expr} {es : List Expr}
theorem pe_bm0K (K : PySem.W.Frag) (pa : PlainAttrs T) (slot : Slot T name id) (hty : typeOf (.builtin id) = pure (.type "method_descriptor")) (hm : MtR X id r) (ho : PE X o to) (h : X.K = K := by rfl)
    (hbase : attributeBase o name X.env (eval o X.env) = eval o X.env := by rfl) (hline : (apos.endLine == cpos.line) = true := by rfl) : PE X (.Call (.Attribute o name apos) [] [] cpos) (tBM0 K T r to) := by subst h; exact pe_bm0 pa slot hty hm ho hbase hline
theorem pe_bmK (K : PySem.W.Frag) (pa : PlainAttrs T) (slot : Slot T name id) (hty : typeOf (.builtin id) = pure (.type "method_descriptor")) (hm : MtR X id r) (ho : PE X o to) (ha : PA X (e :: es) t) (h : X.K = K := by rfl)
    (hbase : attributeBase o name X.env (eval o X.env) = eval o X.env := by rfl)
    (hfew : ((backTo cpos (starEach (e :: es) X.env)).all (fun x => !x.1) && (backToKw cpos (keywordEach [] X.env)).all (fun x => x.1.isSome) && decide ((e :: es).length + ([] : List Keyword).length + (if ([] : List Keyword).isEmpty then 0 else 1) < 30)) = true := by rfl)
    (hline : (apos.endLine == cpos.line) = true := by rfl) (hs : starEach (e :: es) X.env = (false, eval e X.env) :: starEach es X.env := by rfl) (hplain : (backTo cpos (starEach es X.env)).any (·.1) = false := by rfl) :
    PE X (.Call (.Attribute o name apos) (e :: es) [] cpos) (tBM K T r to t) := by subst h; exact pe_bm pa slot hty hm ho ha hbase hfew hline hs hplain
end
end Kin
/-! any of a list of lists; a text taken several times -/
namespace Kin
open PySem PySem.Spec PyProof.Rows L2 RZ
section
variable {prog : Program} {w : World} {A : Around} {R : Result → Shared → Prop} {I : Addr} {fp wr : List Addr} {n : Nat} {P : Nat → Value → Prop} {St : Nat → Heap → Prop}
/-- the loop of any, the items' truths read off the heap as it stands (all but wr is as in h0) -/
theorem any_turns (W : Walks prog w A.in1 I fp wr n P St) (h0 : Heap) (tr : Nat → Bool)
    (htr : ∀ i v (s : Shared) (Q : Bool → Shared → Prop) (E : Value → Shared → Prop), P i v → (∀ b o, b ∉ wr → h0.get? b = some o → s.heap.get? b = some o) → (∀ tk, Q (tr i) { s with toks := tk }) → wpAny (model prog w) A.in1 (truthy v) Q E s) :
    ∀ (k i : Nat) (s : Shared), k + i = n → St i s.heap → (∀ b o, b ∉ wr → h0.get? b = some o → s.heap.get? b = some o) →
      (∀ h' tk, (∀ b o, b ∉ wr → h0.get? b = some o → h'.get? b = some o) → R (.ok (.ret (.bool (((List.range n).drop i).any tr)))) { s with heap := h', toks := tk }) → codeAny (model prog w) A (.builtin "any.loop" ⟨[.ref I], []⟩) R s
  | 0, i, s, hk, hst, h0s, hR => by
    have hin : i = n := by omega
    rw [hin] at hst hR
    refine codeAny_builtin F.entry_any_loop (by
      rw [Around.under_plainId F.plain_any_loop _]
      refine wpAny_bind (W.done s _ _ hst fun h' tk hk' => wpAny_bind (wpAny_rule (wpAny_pure ?_)))
      have q := hR h' tk fun b o hb e => hk' b o hb (h0s b o hb e)
      rw [List.drop_of_length_le (Nat.le_of_eq List.length_range)] at q
      exact q)
  | k + 1, i, s, hk, hst, h0s, hR => by
    have hlt : i < n := by omega
    have hd : (List.range n).drop i = i :: (List.range n).drop (i + 1) := by
      rw [List.drop_eq_getElem_cons (by rw [List.length_range]; exact hlt), List.getElem_range]
    refine codeAny_builtin F.entry_any_loop (by
      rw [Around.under_plainId F.plain_any_loop _]
      refine wpAny_bind (W.item i s _ _ hlt hst fun v h' tk hP hst' hk' => ?_)
      have h0' : ∀ b o, b ∉ wr → h0.get? b = some o → h'.get? b = some o := fun b o hb e => hk' b o hb (h0s b o hb e)
      refine wpAny_bind (wpAny_holding (htr i v _ _ _ hP h0' fun tk2 => wpAny_bind (wpAny_letGo ?_)))
      cases hb : tr i with
      | false =>
        refine wpAny_pure ⟨plainId_quiet F.plain_any_loop _, any_turns W h0 tr htr k (i + 1) _ (by omega) hst' h0' fun h2 tk3 hk2 => ?_⟩
        have q := hR h2 tk3 hk2
        rw [hd, List.any_cons, hb, Bool.false_or] at q
        exact q
      | true =>
        refine wpAny_bind (wpAny_rule (wpAny_pure ?_))
        have q := hR h' tk2 h0'
        rw [hd, List.any_cons, hb, Bool.true_or] at q
        exact q)
end
/-- lists that stand at these places -/
abbrev Lists (K : PySem.W.Frag) (H : Hp) : List Addr → List (List V) → Prop := Paired fun a xs => SqL K H a xs
theorem Lists.get {K : PySem.W.Frag} {H : Hp} : ∀ {as : List Addr} {xss : List (List V)} {i : Nat} {a : Addr}, Lists K H as xss → as[i]? = some a → ∃ xs, xss[i]? = some xs ∧ SqL K H a xs
  | _, _, _, _, .nil, e => by cases e
  | _, _, 0, _, .cons r _, e => by cases e; exact ⟨_, rfl, r⟩
  | _, _, i + 1, _, .cons _ t, e => Lists.get (i := i) t e
def rAnyL (K : PySem.W.Frag) : List V → Hp → VK → Prop := fun vs H Q => ∃ (a : Addr) (as : List Addr) (xss : List (List V)), vs = [V.ref a] ∧ SqL K H a (as.map V.ref) ∧ Lists K H as xss ∧ Q (.bl (xss.any fun xs => !xs.isEmpty)) H
theorem any_nums {α : Type} (f : α → Bool) : ∀ (xs : List α), ((List.range xs.length).any fun i => (xs[i]?.map f).getD false) = xs.any f
  | [] => rfl
  | x :: r => by
    rw [List.length_cons, List.range_succ_eq_map, List.any_cons, List.any_map, List.any_cons, ← any_nums f r]
    rfl
theorem cr_anyL {X : Cx} (hc : X.calm = true) : CallR X (.builtin "any") (rAnyL X.K) := by
  intro pins s σ H vs us Q I r h
  obtain ⟨a, as, xss, rfl, hs, hL, q⟩ := h
  obtain ⟨its, rv, hl, _⟩ := I.list hs
  rw [Vals.ref1 r]
  have hlen : its.length = xss.length := by
    rw [← rv.length, List.length_map]
    exact Paired.length hL
  refine call_function_tree F.kind_any F.plain_any F.entry_any (F.args_any1 _) (by
    unfold Builtin.«any»
    refine wpAny_bind (m := oneArg "any" _) (wpAny_pure (wpAny_bind (iter_any hl.isList fun s2 e2 st hne => ?_)))
    subst e2
    refine wpAny_pure ⟨plainId_quiet F.plain_any_loop _, any_turns (Walks.list (A := X.A.in1) (I.ok.hd hc) _ a hne its.toArray) s.heap (fun i => (xss[i]?.map fun xs => !xs.isEmpty).getD false) ?_ _ 0 _ rfl st (fun b o _ e => Heap.get?_push_of_some _ e) ?_⟩
    · intro i v s3 Q3 E3 hv hk hq
      have hv' : its[i]? = some v := by simpa using hv
      have hi : i < its.length := (List.getElem?_eq_some_iff.mp hv').1
      have hia : i < as.length := by rw [hlen, ← Paired.length hL] at hi; exact hi
      obtain ⟨u, hu, ru⟩ := rv.get (i := i) (x := .ref as[i]) (by rw [List.getElem?_map, List.getElem?_eq_getElem hia]; rfl)
      have euv : u = v := Option.some.inj (hu.symm.trans hv')
      subst euv
      obtain ⟨xs, hx, hX⟩ := hL.get (List.getElem?_eq_getElem hia)
      have hq2 := hq
      rw [hx] at hq2
      cases ru
      obtain ⟨ys, ry, pl, hz⟩ := I.list hX
      have hzz := ry.length
      have hl3 := line63
      have nw : as[i] ∉ [s.heap.objs.size] := fun hm => by
        have e1 := List.mem_singleton.mp hm
        obtain ⟨o, eo, _⟩ := pl.isList
        exact absurd (e1 ▸ Heap.lt_size eo) (Nat.lt_irrefl _)
      have il : s3.heap.IsList as[i] ys.toArray := pl.isList.at fun o e => hk _ o nw e
      refine wpAny_truthy_list il (by simp only [List.size_toArray]; omega) ?_
      rw [isEmpty_of ry]
      exact hq2 _
    · intro h' tk hk
      rw [List.drop_zero, List.size_toArray, hlen, any_nums]
      refine ⟨.bl _, H, I.kept fun b o eo => hk b o (fun hm => ?_) eo, rfl, q⟩
      exact absurd (List.mem_singleton.mp hm ▸ Heap.lt_size eo) (Nat.lt_irrefl _))
theorem cr_anyLK {X : Cx} (K : PySem.W.Frag) (h : X.K = K := by rfl) (hc : X.calm = true := by rfl) : CallR X (.builtin "any") (rAnyL K) := by subst h; exact cr_anyL hc
/-! ### a text, so many times -/
theorem fold_rep (a : Array Nat) : ∀ (m : Nat) (acc : Array Nat), List.foldl (fun x1 x2 => x1 ++ x2) acc (List.replicate m a) = acc ++ (List.replicate m a.toList).flatten.toArray
  | 0, acc => by
    show acc = acc ++ #[]
    rw [Array.append_empty]
  | m + 1, acc => by
    rw [List.replicate_succ, List.foldl_cons, fold_rep a m, List.replicate_succ, List.flatten_cons, Array.append_assoc, ← List.append_toArray, Array.toArray_toList]
def rRepS : R2 := fun x y H Q => ∃ (z : Str) (k : Int), x = .str z ∧ y = .int k ∧ 1 ≤ k ∧ k ≤ 1000 ∧ z.length ≤ 1000 ∧ 1 ≤ z.length ∧ Q (.str ⟨(List.replicate k.toNat z.cps.toList).flatten.toArray⟩) H
theorem op_repS {X : Cx} : OpR X (binaryOp .Mult) rRepS := by
  intro pins s σ H x y v u Q I rx ry h
  obtain ⟨z, k, rfl, rfl, h1, h2, h3, h4, q⟩ := h
  obtain ⟨t, rfl⟩ := rx
  obtain ⟨t2, rfl⟩ := ry
  have c1 : ¬ k < 1 := by omega
  have hm : MulOk z k := by
    refine ⟨?_, fun _ _ => ?_, fun _ _ => ?_⟩
    · rw [decide_eq_false (by omega), decide_eq_false (by omega)]
      rfl
    · have e : (2 ^ 63 - 1 : Int) / 1000 ≤ (2 ^ 63 - 1) / k := by
        have e2 : (2 ^ 63 - 1 : Int) / k * k = (2 ^ 63 - 1) - (2 ^ 63 - 1) % k := by
          have := Int.mul_ediv_add_emod (2 ^ 63 - 1) k
          rw [Int.mul_comm] at this
          omega
        have e3 := Int.emod_lt_of_pos (2 ^ 63 - 1) (show 0 < k by omega)
        refine Int.not_lt.mp fun hlt => ?_
        have e4 : (2 ^ 63 - 1 : Int) / k * k ≤ ((2 ^ 63 - 1) / 1000 - 1) * k := Int.mul_le_mul_of_nonneg_right (by omega) (by omega)
        have e5 : ((2 ^ 63 - 1 : Int) / 1000 - 1) * k ≤ ((2 ^ 63 - 1) / 1000 - 1) * 1000 := Int.mul_le_mul_of_nonneg_left h2 (by decide)
        omega
      have e6 : (1000 : Int) < (2 ^ 63 - 1) / 1000 := by decide
      omega
    · have e : z.length * k.toNat ≤ 1000 * 1000 := Nat.mul_le_mul h3 (by omega)
      have e2 : sizeLine = 16777216 := sizeLine_eq
      exact decide_eq_false (by omega)
  refine SB.mul hm fun t3 k3 => ⟨.str _, H, I.tok _, ?_, q⟩
  have e : Txt.mul z k = ⟨(List.replicate k.toNat z.cps.toList).flatten.toArray⟩ := by
    unfold Txt.mul
    rw [if_neg c1]
    by_cases c2 : (k == 1 || z.length == 0) = true
    · rw [if_pos c2]
      have c3 : k = 1 := by
        rcases Bool.or_eq_true _ _ ▸ c2 with c | c
        · exact eq_of_beq c
        · have := eq_of_beq c
          omega
      subst c3
      show z = ⟨(z.cps.toList ++ []).toArray⟩
      rw [List.append_nil]
    · rw [if_neg c2]
      have c4 := fold_rep z.cps k.toNat #[]
      rw [Array.empty_append] at c4
      rw [c4]
  rw [e]
  exact ⟨t3, rfl⟩
end Kin
/-! the mathematics of merging rows: lines and rings -/
namespace Kin
open PySem PySem.Spec PyProof.Rows L2 RZ
abbrev Rows := List (List Str)
def behind (left : Rows) : List Str := (left.map List.tail).flatten
def freeHd (left : Rows) (row : List Str) : Option Str := match row with
  | [] => none
  | h :: _ => if h ∈ behind left then none else some h
theorem freeHd_cons (left : Rows) (h : Str) (t : List Str) : freeHd left (h :: t) = if h ∈ behind left then none else some h := rfl
/-- the heads that stand behind no other head -/
def heads (left : Rows) : List Str := left.filterMap (freeHd left)
def without (name : Str) (row : List Str) : List Str := if row.head? = some name then row.tail else row
def done (left : Rows) : Bool := !(left.any fun r => !r.isEmpty)
def total (left : Rows) : Nat := (left.map List.length).sum
/-- name by name -/
def mergeN : Nat → Rows → Option (List Str)
  | 0, left => if done left then some [] else none
  | n + 1, left => if done left then some [] else match (heads left).head? with
    | none => none
    | some h => (mergeN n (left.map (without h))).map (h :: ·)
def merged (left : Rows) : Option (List Str) := mergeN (total left) left
theorem done_total {left : Rows} (h : total left = 0) : done left = true := by
  unfold done
  rw [Bool.not_eq_true', List.any_eq_false]
  intro r hr
  have : r.length = 0 := by
    unfold total at h
    have := List.sum_eq_zero_iff_forall_eq_nat.mp h r.length (List.mem_map.mpr ⟨r, hr, rfl⟩)
    exact this
  rw [List.length_eq_zero_iff.mp this]
  decide
theorem not_done {left : Rows} (h : done left = false) : ∃ x t, (x :: t) ∈ left := by
  unfold done at h
  rw [Bool.not_eq_false', List.any_eq_true] at h
  obtain ⟨r, hr, h⟩ := h
  cases r with
  | nil => cases h
  | cons x t => exact ⟨x, t, hr⟩
theorem done_iff {left : Rows} : done left = true ↔ ∀ r ∈ left, r = [] := by
  unfold done
  rw [Bool.not_eq_true', List.any_eq_false]
  constructor
  · intro h r hr
    have := h r hr
    cases r with
    | nil => rfl
    | cons x t => exact absurd rfl this
  · intro h r hr
    rw [h r hr]
    decide
theorem mem_behind {left : Rows} {x : Str} : x ∈ behind left ↔ ∃ r ∈ left, x ∈ r.tail := by
  unfold behind
  rw [List.mem_flatten]
  constructor
  · rintro ⟨l, hl, hx⟩
    obtain ⟨r, hr, rfl⟩ := List.mem_map.mp hl
    exact ⟨r, hr, hx⟩
  · rintro ⟨r, hr, hx⟩
    exact ⟨r.tail, List.mem_map.mpr ⟨r, hr, rfl⟩, hx⟩
theorem head_mem {left : Rows} {h : Str} (e : (heads left).head? = some h) : ∃ t, (h :: t) ∈ left ∧ h ∉ behind left := by
  have hm : h ∈ heads left := by
    cases q : heads left with
    | nil => rw [q] at e; cases e
    | cons a r => rw [q] at e; cases e; exact List.mem_cons_self
  unfold heads at hm
  obtain ⟨r, hr, hf⟩ := List.mem_filterMap.mp hm
  cases r with
  | nil => cases hf
  | cons a t =>
    rw [freeHd_cons] at hf
    by_cases c : a ∈ behind left
    · rw [if_pos c] at hf; cases hf
    · rw [if_neg c] at hf
      cases hf
      exact ⟨t, hr, c⟩
theorem no_head {left : Rows} (e : (heads left).head? = none) {x : Str} {t : List Str} (h : (x :: t) ∈ left) : ∃ r ∈ left, x ∈ r.tail := by
  have en : heads left = [] := List.head?_eq_none_iff.mp e
  unfold heads at en
  rw [List.filterMap_eq_nil_iff] at en
  have := en _ h
  rw [freeHd_cons] at this
  by_cases c : x ∈ behind left
  · exact mem_behind.mp c
  · rw [if_neg c] at this
    cases this
theorem without_len (h : Str) (r : List Str) : (without h r).length ≤ r.length := by
  unfold without
  split
  · rw [List.length_tail]; omega
  · exact Nat.le_refl _
theorem total_le (h : Str) : ∀ left : Rows, total (left.map (without h)) ≤ total left
  | [] => Nat.le_refl _
  | r :: t => by
    have h1 := without_len h r
    have h2 := total_le h t
    unfold total at h2 ⊢
    rw [List.map_cons, List.map_cons, List.map_cons, List.sum_cons, List.sum_cons]
    omega
theorem total_lt {h : Str} {t : List Str} : ∀ {left : Rows}, (h :: t) ∈ left → total (left.map (without h)) < total left
  | r :: u, hm => by
    have h1 := without_len h r
    have h2 := total_le h u
    unfold total at h2 ⊢
    rw [List.map_cons, List.map_cons, List.map_cons, List.sum_cons, List.sum_cons]
    rcases List.mem_cons.mp hm with e | e
    · subst e
      have h3 : (without h (h :: t)).length = t.length := by
        unfold without
        rw [if_pos (show (h :: t).head? = some h from rfl)]
        rfl
      rw [h3, List.length_cons]
      omega
    · have h3 := total_lt e
      unfold total at h3
      omega
/-- the measure is enough -/
theorem mergeN_more : ∀ (n m : Nat) (left : Rows), total left ≤ n → total left ≤ m → mergeN n left = mergeN m left
  | 0, 0, left, _, _ => rfl
  | 0, m + 1, left, h, _ => by
    have d := done_total (Nat.le_zero.mp h)
    unfold mergeN
    rw [if_pos d, if_pos d]
  | n + 1, 0, left, _, h => by
    have d := done_total (Nat.le_zero.mp h)
    unfold mergeN
    rw [if_pos d, if_pos d]
  | n + 1, m + 1, left, h1, h2 => by
    unfold mergeN
    by_cases d : done left = true
    · rw [if_pos d, if_pos d]
    · rw [if_neg d, if_neg d]
      cases e : (heads left).head? with
      | none => rfl
      | some x =>
        obtain ⟨t, hm, _⟩ := head_mem e
        have := total_lt hm
        show (mergeN n _).map _ = (mergeN m _).map _
        rw [mergeN_more n m _ (by omega) (by omega)]
theorem merged_done {left : Rows} (d : done left = true) : merged left = some [] := by
  unfold merged
  cases total left with
  | zero => unfold mergeN; rw [if_pos d]
  | succ n => unfold mergeN; rw [if_pos d]
theorem merged_none {left : Rows} (d : done left = false) (e : (heads left).head? = none) : merged left = none := by
  unfold merged
  have d2 : ¬ done left = true := by rw [d]; decide
  cases total left with
  | zero => unfold mergeN; rw [if_neg d2]
  | succ n => unfold mergeN; rw [if_neg d2, e]
theorem merged_some {left : Rows} {h : Str} (d : done left = false) (e : (heads left).head? = some h) : merged left = (merged (left.map (without h))).map (h :: ·) := by
  obtain ⟨t, hm, _⟩ := head_mem e
  have hlt := total_lt hm
  have d2 : ¬ done left = true := by rw [d]; decide
  unfold merged
  cases q : total left with
  | zero => omega
  | succ n =>
    rw [show mergeN (n + 1) left = (mergeN n (left.map (without h))).map (h :: ·) by
      conv => lhs; unfold mergeN
      rw [if_neg d2, e]]
    rw [mergeN_more n (total (left.map (without h))) _ (by omega) (Nat.le_refl _)]
/-! ### where a name stands behind a head -/
def against (left : Rows) (name : Str) : Option Nat := left.findIdx? fun r => decide (name ∈ r.tail)
theorem against_none {left : Rows} {x : Str} : against left x = none ↔ x ∉ behind left := by
  unfold against
  rw [List.findIdx?_eq_none_iff, mem_behind]
  constructor
  · rintro h ⟨r, hr, hx⟩
    have := of_decide_eq_false (h r hr)
    exact this hx
  · intro h r hr
    exact decide_eq_false fun hx => h ⟨r, hr, hx⟩
theorem against_some {left : Rows} {x : Str} {n : Nat} (h : against left x = some n) : ∃ r, left[n]? = some r ∧ x ∈ r.tail := by
  unfold against at h
  rw [List.findIdx?_eq_some_iff_getElem] at h
  obtain ⟨hn, hp, _⟩ := h
  exact ⟨left[n], List.getElem?_eq_getElem hn, of_decide_eq_true hp⟩
/-- a name, another one, the number of a row -/
structure Dem where
  one : Str
  other : Str
  num : Nat
/-- in this row (of distinct names) one stands ahead of other -/
def Ahead (row : List Str) (x y : Str) : Prop := ∃ a b, row = a ++ x :: b ∧ y ∈ b
def DemIn (rows : Rows) (d : Dem) : Prop := ∃ row, rows[d.num]? = some row ∧ Ahead row d.one d.other
/-- each one's other is the next one's one, the last one's the first one's -/
def Chain (ds : List Dem) : Prop := ∀ i, i < ds.length → (ds[i]?).map Dem.other = (ds[(i + 1) % ds.length]?).map Dem.one
def IsRing (rows : Rows) (ds : List Dem) : Prop := ds ≠ [] ∧ (∀ d ∈ ds, DemIn rows d) ∧ Chain ds
/-- left is what is left of rows: each row without some names from its beginning -/
def LeftOf (rows left : Rows) : Prop := left.length = rows.length ∧ ∀ (n : Nat) r, left[n]? = some r → ∃ row, rows[n]? = some row ∧ ∃ a : List Str, row = a ++ r
theorem LeftOf.refl (rows : Rows) : LeftOf rows rows := ⟨rfl, fun n r h => ⟨r, h, [], rfl⟩⟩
theorem LeftOf.step {rows left : Rows} (h : LeftOf rows left) (x : Str) : LeftOf rows (left.map (without x)) := by
  refine ⟨by rw [List.length_map]; exact h.1, fun n r hr => ?_⟩
  rw [List.getElem?_map] at hr
  cases e : left[n]? with
  | none => rw [e] at hr; cases hr
  | some l =>
    rw [e] at hr
    obtain ⟨row, h1, a, h2⟩ := h.2 n l e
    have er : without x l = r := Option.some.inj hr
    unfold without at er
    split at er
    · cases l with
      | nil => exact ⟨row, h1, a, by rw [← er]; exact h2⟩
      | cons y t => exact ⟨row, h1, a ++ [y], by rw [← er, h2, List.append_assoc]; rfl⟩
    · exact ⟨row, h1, a, by rw [← er]; exact h2⟩
theorem LeftOf.dem {rows left : Rows} (h : LeftOf rows left) {d : Dem} {t : List Str} (hn : left[d.num]? = some (d.one :: t)) (hy : d.other ∈ t) : DemIn rows d := by
  obtain ⟨row, h1, a, h2⟩ := h.2 _ _ hn
  exact ⟨row, h1, a, t, h2, hy⟩
/-! ### the ring by going from each head to the one ahead of it -/
/-- what the ring's loop has met: the names, the demands that lead from each to the next -/
structure Met (left : Rows) (met : List Str) (ds : List Dem) (name : Str) : Prop where
  len : ds.length = met.length
  nd : met.Nodup
  hd : ∃ t, (name :: t) ∈ left
  mt : ∀ x ∈ met, ∃ t, (x :: t) ∈ left
  fst : met = [] ∨ True
  dem : ∀ (i : Nat) d, ds[i]? = some d → (∃ t, left[d.num]? = some (d.one :: t) ∧ d.other ∈ t) ∧ met[i]? = some d.other ∧ (met ++ [name])[i + 1]? = some d.one
theorem Met.start {left : Rows} {name : Str} {t : List Str} (h : (name :: t) ∈ left) : Met left [] [] name :=
  ⟨rfl, List.nodup_nil, ⟨t, h⟩, (fun x hx => nomatch hx), .inl rfl, fun i d h => nomatch h⟩
theorem Met.step {left : Rows} {met : List Str} {ds : List Dem} {name one : Str} {n : Nat} {t : List Str} (m : Met left met ds name) (h0 : name ∉ met) (hn : left[n]? = some (one :: t)) (ht : name ∈ t) :
    Met left (met ++ [name]) (ds ++ [⟨one, name, n⟩]) one := by
  refine ⟨by rw [List.length_append, List.length_append, m.len]; rfl, ?_, ⟨t, List.mem_of_getElem? hn⟩, fun x hx => ?_, .inr trivial, fun i d hd => ?_⟩
  · rw [List.nodup_append]
    refine ⟨m.nd, List.nodup_cons.mpr ⟨List.not_mem_nil, List.nodup_nil⟩, fun a ha b hb e => ?_⟩
    rw [List.mem_singleton.mp hb] at e
    exact h0 (e ▸ ha)
  · rcases List.mem_append.mp hx with h | h
    · exact m.mt x h
    · rw [List.mem_singleton.mp h]
      exact m.hd
  · by_cases hi : i < ds.length
    · rw [List.getElem?_append_left hi] at hd
      obtain ⟨h1, h2, h3⟩ := m.dem i d hd
      refine ⟨h1, by rw [List.getElem?_append_left (by rw [← m.len]; exact hi)]; exact h2, ?_⟩
      rw [List.getElem?_append_left (by rw [List.length_append, ← m.len]; show i + 1 < ds.length + 1; omega)]
      exact h3
    · rw [List.getElem?_append_right (by omega)] at hd
      have hi2 : i - ds.length = 0 := by
        have := (List.getElem?_eq_some_iff.mp hd).1
        have e : ([⟨one, name, n⟩] : List Dem).length = 1 := rfl
        omega
      rw [hi2] at hd
      cases hd
      have ei : i = met.length := by rw [← m.len]; omega
      subst ei
      refine ⟨⟨t, hn, ht⟩, by rw [List.getElem?_concat_length], ?_⟩
      rw [List.getElem?_append_right (by rw [List.length_append]; exact Nat.le_refl _), List.length_append]
      show [one][met.length + 1 - (met.length + 1)]? = some one
      rw [Nat.sub_self]
      rfl
/-- how many rows' heads aren't met -/
def unmet (left : Rows) (met : List Str) : Nat := (left.filter fun r => match r with | [] => false | h :: _ => decide (h ∉ met)).length
theorem unmet_le (left : Rows) (met : List Str) : unmet left met ≤ left.length := List.length_filter_le _ _
theorem filter_lt {α : Type} {p q : α → Bool} {x : α} : ∀ {l : List α}, (∀ y ∈ l, q y = true → p y = true) → x ∈ l → p x = true → q x = false → (l.filter q).length < (l.filter p).length
  | a :: r, h, hx, hp, hq => by
    have hle : ∀ {m : List α}, (∀ y ∈ m, q y = true → p y = true) → (m.filter q).length ≤ (m.filter p).length := fun {m} hm => by
      induction m with
      | nil => exact Nat.le_refl _
      | cons b t ih =>
        have i2 := ih fun y hy => hm y (List.mem_cons_of_mem _ hy)
        rw [List.filter_cons, List.filter_cons]
        by_cases c : q b = true
        · rw [if_pos c, if_pos (hm b List.mem_cons_self c), List.length_cons, List.length_cons]
          omega
        · rw [if_neg c]
          split
          · rw [List.length_cons]; omega
          · exact i2
    rw [List.filter_cons, List.filter_cons]
    rcases List.mem_cons.mp hx with e | e
    · subst e
      rw [if_pos hp, if_neg (by rw [hq]; decide), List.length_cons]
      exact Nat.lt_succ_of_le (hle fun y hy => h y (List.mem_cons_of_mem _ hy))
    · have ih := filter_lt (fun y hy => h y (List.mem_cons_of_mem _ hy)) e hp hq
      by_cases c : q a = true
      · rw [if_pos c, if_pos (h a List.mem_cons_self c), List.length_cons, List.length_cons]
        omega
      · rw [if_neg c]
        split
        · rw [List.length_cons]; omega
        · exact ih
theorem unmet_lt {left : Rows} {met : List Str} {x : Str} {t : List Str} (h : (x :: t) ∈ left) (hx : x ∉ met) : unmet left (met ++ [x]) < unmet left met := by
  unfold unmet
  refine filter_lt (x := x :: t) (fun y _ hy => ?_) h (decide_eq_true hx) (decide_eq_false (fun hn => hn (List.mem_append.mpr (.inr List.mem_cons_self))))
  cases y with
  | nil => cases hy
  | cons a r =>
    have := of_decide_eq_true hy
    exact decide_eq_true fun hm => this (List.mem_append.mpr (.inl hm))
/-- the ring: from where the name was met on, turned about -/
theorem Met.ring {rows left : Rows} {met : List Str} {ds : List Dem} {name : Str} {j : Nat} (m : Met left met ds name) (L : LeftOf rows left) (hj : met[j]? = some name) : IsRing rows (ds.drop j).reverse := by
  have hjl := (List.getElem?_eq_some_iff.mp hj).1
  have hlen : (ds.drop j).length = met.length - j := by rw [List.length_drop, m.len]
  refine ⟨fun e => ?_, fun d hd => ?_, fun i hi => ?_⟩
  · have := congrArg List.length e
    rw [List.length_reverse, hlen] at this
    have e0 : ([] : List Dem).length = 0 := rfl
    omega
  · have hd2 := List.mem_of_mem_drop (List.mem_reverse.mp hd)
    obtain ⟨i, hi, e⟩ := List.getElem_of_mem hd2
    obtain ⟨⟨t, h1, h2⟩, _⟩ := m.dem i d (by rw [List.getElem?_eq_getElem hi, e])
    exact L.dem h1 h2
  · rw [List.length_reverse, hlen] at hi ⊢
    generalize hn : met.length - j = n at hi hlen ⊢
    have at_ : ∀ k, k < n → ∃ d, (ds.drop j).reverse[k]? = some d ∧ met[j + (n - 1 - k)]? = some d.other ∧ (met ++ [name])[j + (n - k)]? = some d.one := fun k hk => by
      have hlt : j + (n - 1 - k) < ds.length := by rw [m.len]; omega
      obtain ⟨_, h2, h3⟩ := m.dem (j + (n - 1 - k)) ds[j + (n - 1 - k)] (List.getElem?_eq_getElem hlt)
      refine ⟨ds[j + (n - 1 - k)], ?_, h2, ?_⟩
      · rw [List.getElem?_reverse (by rw [hlen]; exact hk), hlen, List.getElem?_drop, List.getElem?_eq_getElem hlt]
      · rw [show j + (n - k) = j + (n - 1 - k) + 1 by omega]
        exact h3
    obtain ⟨d, hd, h1, h2⟩ := at_ i hi
    rw [hd]
    by_cases hl : i + 1 < n
    · rw [Nat.mod_eq_of_lt hl]
      obtain ⟨e, he, h3, h4⟩ := at_ (i + 1) hl
      rw [he]
      show some d.other = some e.one
      rw [← h1, ← h4, show n - (i + 1) = n - 1 - i by omega, List.getElem?_append_left (by omega)]
    · have ei : i + 1 = n := by omega
      rw [ei, Nat.mod_self]
      obtain ⟨e, he, h3, h4⟩ := at_ 0 (by omega)
      rw [he]
      show some d.other = some e.one
      have e1 : j + (n - 0) = met.length := by omega
      rw [e1, List.getElem?_concat_length] at h4
      have e2 : j + (n - 1 - i) = j := by omega
      rw [e2, hj] at h1
      rw [← h1, ← h4]
end Kin
namespace Kin
open PySem PySem.Spec PyProof.Rows L2 RZ
/-! ### what kind a value is -/
def tyN : PyData → String
  | .none => "NoneType"
  | .bool _ => "bool"
  | .int _ => "int"
  | .str _ => "str"
  | .list _ => "list"
  | .tuple _ => "tuple"
  | .dict _ => "dict"
theorem sq_ty {K : PySem.W.Frag} {H : Hp} {a : Addr} {xs : List V} (h : SqL K H a xs) : TyX K H (.ref a) (.type "list") := by
  rcases h with (h | ⟨o, h⟩) | ⟨o, its, n, h1, h2, _⟩
  · exact .base (.lst h)
  · exact .base (.frz h)
  · exact .kList h1 h2
theorem st_ty {K : PySem.W.Frag} {H : Hp} {a : Addr} {xs : List V} (h : SqT K H a xs) : TyX K H (.ref a) (.type "tuple") := by
  rcases h with (h | ⟨o, h⟩) | ⟨o, its, n, h1, h2, _⟩
  · exact .base (.tup h)
  · exact .fTuple h
  · exact .kTuple h1 h2
theorem dp_ty {K : PySem.W.Frag} {H : Hp} {x : V} {d : PyData} (h : Dp K H x d) : TyX K H x (.type (tyN d)) := by
  cases h with
  | non => exact .base .non
  | bl b => exact .base (.bl b)
  | int i => exact .base (.int i)
  | str x => exact .base (.str x)
  | lst h _ => exact sq_ty h
  | tup h _ => exact st_ty h
theorem isi {K : PySem.W.Frag} {H : Hp} {x : V} {d : PyData} {T : String} {b : Bool} {Q : VK} (h : Dp K H x d) (hb : kitB (tyN d) T = some b) (q : Q (.bl b) H) : rIsi K [x, .ty T] H Q :=
  ⟨x, .ty T, .type (tyN d), .type T, b, rfl, .ty T, dp_ty h, kit_ty hb, q⟩
theorem yes {c A B : Prop} [Decidable c] (hc : c) (h : A) : if c then A else B := by
  rw [if_pos hc]
  exact h
theorem no {c A B : Prop} [Decidable c] (hc : ¬ c) (h : B) : if c then A else B := by
  rw [if_neg hc]
  exact h
/-! ### data that stays -/
mutual
theorem dp_same {K : PySem.W.Frag} {H H' : Hp} (e : Same H H') : ∀ (d : PyData) (x : V), Dp K H x d → Dp K H' x d
  | _, _, .non => .non
  | _, _, .bl b => .bl b
  | _, _, .int i => .int i
  | _, _, .str x => .str x
  | .list ds, _, .lst h a => .lst (e.seq h) (dpAll_same e ds _ a)
  | .tuple ds, _, .tup h a => .tup (by
      rcases h with (h | ⟨o, h⟩) | h
      · exact .inl (.inl (e _ _ h))
      · exact .inl (.inr ⟨o, e _ _ h⟩)
      · exact .inr h) (dpAll_same e ds _ a)
theorem dpAll_same {K : PySem.W.Frag} {H H' : Hp} (e : Same H H') : ∀ (ds : List PyData) (xs : List V), DpAll K H xs ds → DpAll K H' xs ds
  | _, _, .nil => .nil
  | d :: ds, x :: xs, .cons h t => .cons (dp_same e d x h) (dpAll_same e ds xs t)
end
theorem st_same {K : PySem.W.Frag} {H H' : Hp} {a : Addr} {xs : List V} (e : Same H H') (h : SqT K H a xs) : SqT K H' a xs := by
  rcases h with (h | ⟨o, h⟩) | h
  · exact .inl (.inl (e _ _ h))
  · exact .inl (.inr ⟨o, e _ _ h⟩)
  · exact .inr h
theorem dpAll_len {K : PySem.W.Frag} {H : Hp} : ∀ {xs : List V} {ds : List PyData}, DpAll K H xs ds → xs.length = ds.length
  | _, _, .nil => rfl
  | _, _, .cons _ t => congrArg (· + 1) (dpAll_len t)
theorem dpAll_get {K : PySem.W.Frag} {H : Hp} : ∀ {xs : List V} {ds : List PyData} {i : Nat} {x : V}, DpAll K H xs ds → xs[i]? = some x → ∃ d, ds[i]? = some d ∧ Dp K H x d
  | _, _, _, _, .nil, e => by cases e
  | _, _, 0, _, .cons r _, e => by cases e; exact ⟨_, rfl, r⟩
  | _, _, i + 1, _, .cons _ t, e => dpAll_get (i := i) t e
theorem depth_get : ∀ {ds : List PyData} {i : Nat} {d : PyData}, ds[i]? = some d → d.depth ≤ PyData.depthAll ds
  | [], _, _, e => by cases e
  | a :: r, 0, d, e => by
    cases e
    exact Nat.le_max_left _ _
  | a :: r, i + 1, d, e => Nat.le_trans (depth_get (ds := r) (i := i) e) (Nat.le_max_right _ _)
mutual
/-- the most things in one list or tuple -/
def wide : PyData → Nat
  | .list xs => max xs.length (wideAll xs)
  | .tuple xs => max xs.length (wideAll xs)
  | _ => 0
def wideAll : List PyData → Nat
  | [] => 0
  | x :: xs => max (wide x) (wideAll xs)
end
theorem wide_get : ∀ {ds : List PyData} {i : Nat} {d : PyData}, ds[i]? = some d → wide d ≤ wideAll ds
  | [], _, _, e => by cases e
  | a :: r, 0, d, e => by
    cases e
    show wide a ≤ max (wide a) (wideAll r)
    exact Nat.le_max_left _ _
  | a :: r, i + 1, d, e => by
    show wide d ≤ max (wide a) (wideAll r)
    exact Nat.le_trans (wide_get (ds := r) (i := i) e) (Nat.le_max_right _ _)
/-! ### a comprehension over zip -/
theorem lc_zipL {K : PySem.W.Frag} {a b : Addr} {xs ys : List V} {g : TG} {tt : TT} {te : TE} {vs : List Nat} {σ : L2.St} {H1 : Hp} {D : Addr} {Qd : Hp → Prop} (hn : xs.length = ys.length) (Pv : Nat → Hp → Prop) (h0 : Pv 0 (upd H1 D (.lst [])))
    (hl : ∀ i H, i ≤ xs.length → Pv i H → SqL K H a xs ∧ SqL K H b ys)
    (hs : ∀ i x y H T, xs[i]? = some x → ys[i]? = some y → Pv i H → H T = none → g (.ref T) (wipe σ vs) (upd H T (.tup [x, y])) fun σ2 H2 => wipe σ2 vs = wipe σ vs ∧ tt σ2 H2 fun b H3 =>
      if b = true then te σ2 H3 fun y H4 => ∃ acc, H4 D = some (.lst acc) ∧ acc.length < sizeLine ∧ Pv (i + 1) (upd H4 D (.lst (acc ++ [y]))) else Pv (i + 1) H3) (hd : ∀ H, Pv xs.length H → Qd H) :
    ∃ W : Nat → Nat → Hp → Prop, (∃ m, W 0 m (upd H1 D (.lst []))) ∧ ∀ i m H, W i m H →
      ((Itz K a b).stop i H ∧ Qd H) ∨ ((Itz K a b).go i H ∧ ∃ Nx : Hp → Prop, (∀ H', Nx H' → ∃ m', m' < m ∧ W (i + 1) m' H') ∧ ∀ x H', (Itz K a b).yld i H x H' → g x (wipe σ vs) H' fun σ2 H2 => wipe σ2 vs = wipe σ vs ∧ tt σ2 H2 fun b H3 =>
        if b = true then te σ2 H3 fun y H4 => ∃ acc, H4 D = some (.lst acc) ∧ acc.length < sizeLine ∧ Nx (upd H4 D (.lst (acc ++ [y]))) else Nx H3) := by
  refine ⟨fun i m H => i ≤ xs.length ∧ m + i = xs.length ∧ Pv i H, ⟨xs.length, Nat.zero_le _, rfl, h0⟩, fun i m H hw => ?_⟩
  obtain ⟨hi, hm, hp⟩ := hw
  obtain ⟨q1, q2⟩ := hl i H hi hp
  by_cases hlt : i < xs.length
  · have hlt2 : i < ys.length := by omega
    refine .inr ⟨⟨xs, ys, xs[i], ys[i], q1, q2, List.getElem?_eq_getElem hlt, List.getElem?_eq_getElem hlt2⟩, Pv (i + 1), fun H' hp' => ⟨m - 1, by omega, by omega, by omega, hp'⟩, fun v H' hy => ?_⟩
    obtain ⟨T, x, y, rfl, nT, rfl, fx, fy⟩ := hy
    exact hs i x y H T (fx xs q1) (fy ys q2) hp nT
  · have ei : i = xs.length := by omega
    rw [ei] at hp
    exact .inl ⟨⟨xs, ys, q1, q2, .inl (by omega)⟩, hd H hp⟩
theorem lc_zipT {K : PySem.W.Frag} {a b : Addr} {xs ys : List V} {g : TG} {tt : TT} {te : TE} {vs : List Nat} {σ : L2.St} {H1 : Hp} {D : Addr} {Qd : Hp → Prop} (hn : xs.length = ys.length) (Pv : Nat → Hp → Prop) (h0 : Pv 0 (upd H1 D (.lst [])))
    (hl : ∀ i H, i ≤ xs.length → Pv i H → SqT K H a xs ∧ SqT K H b ys)
    (hs : ∀ i x y H T, xs[i]? = some x → ys[i]? = some y → Pv i H → H T = none → g (.ref T) (wipe σ vs) (upd H T (.tup [x, y])) fun σ2 H2 => wipe σ2 vs = wipe σ vs ∧ tt σ2 H2 fun b H3 =>
      if b = true then te σ2 H3 fun y H4 => ∃ acc, H4 D = some (.lst acc) ∧ acc.length < sizeLine ∧ Pv (i + 1) (upd H4 D (.lst (acc ++ [y]))) else Pv (i + 1) H3) (hd : ∀ H, Pv xs.length H → Qd H) :
    ∃ W : Nat → Nat → Hp → Prop, (∃ m, W 0 m (upd H1 D (.lst []))) ∧ ∀ i m H, W i m H →
      ((ItzT K a b).stop i H ∧ Qd H) ∨ ((ItzT K a b).go i H ∧ ∃ Nx : Hp → Prop, (∀ H', Nx H' → ∃ m', m' < m ∧ W (i + 1) m' H') ∧ ∀ x H', (ItzT K a b).yld i H x H' → g x (wipe σ vs) H' fun σ2 H2 => wipe σ2 vs = wipe σ vs ∧ tt σ2 H2 fun b H3 =>
        if b = true then te σ2 H3 fun y H4 => ∃ acc, H4 D = some (.lst acc) ∧ acc.length < sizeLine ∧ Nx (upd H4 D (.lst (acc ++ [y]))) else Nx H3) := by
  refine ⟨fun i m H => i ≤ xs.length ∧ m + i = xs.length ∧ Pv i H, ⟨xs.length, Nat.zero_le _, rfl, h0⟩, fun i m H hw => ?_⟩
  obtain ⟨hi, hm, hp⟩ := hw
  obtain ⟨q1, q2⟩ := hl i H hi hp
  by_cases hlt : i < xs.length
  · have hlt2 : i < ys.length := by omega
    refine .inr ⟨⟨xs, ys, xs[i], ys[i], q1, q2, List.getElem?_eq_getElem hlt, List.getElem?_eq_getElem hlt2⟩, Pv (i + 1), fun H' hp' => ⟨m - 1, by omega, by omega, by omega, hp'⟩, fun v H' hy => ?_⟩
    obtain ⟨T, x, y, rfl, nT, rfl, fx, fy⟩ := hy
    exact hs i x y H T (fx xs q1) (fy ys q2) hp nT
  · have ei : i = xs.length := by omega
    rw [ei] at hp
    exact .inl ⟨⟨xs, ys, q1, q2, .inl (by omega)⟩, hd H hp⟩
/-! ### rows in the heap -/
abbrev Strs (K : PySem.W.Frag) (H : Hp) : List Addr → Rows → Prop := Paired fun b row => SqL K H b (row.map V.str)
def RowsAt (K : PySem.W.Frag) (H : Hp) (a : Addr) (as : List Addr) (left : Rows) : Prop := SqL K H a (as.map V.ref) ∧ Strs K H as left
theorem Strs.same {K : PySem.W.Frag} {H H' : Hp} (e : Same H H') {as : List Addr} {left : Rows} (h : Strs K H as left) : Strs K H' as left := Paired.mapP h fun _ _ q => e.seq q
theorem RowsAt.same {K : PySem.W.Frag} {H H' : Hp} {a : Addr} {as : List Addr} {left : Rows} (h : RowsAt K H a as left) (e : Same H H') : RowsAt K H' a as left := ⟨e.seq h.1, h.2.same e⟩
theorem Strs.len {K : PySem.W.Frag} {H : Hp} {as : List Addr} {left : Rows} (h : Strs K H as left) : as.length = left.length := Paired.length h
theorem Strs.get {K : PySem.W.Frag} {H : Hp} : ∀ {as : List Addr} {left : Rows} {i : Nat} {b : Addr}, Strs K H as left → as[i]? = some b → ∃ row, left[i]? = some row ∧ SqL K H b (row.map V.str)
  | _, _, _, _, .nil, e => by cases e
  | _, _, 0, _, .cons r _, e => by cases e; exact ⟨_, rfl, r⟩
  | _, _, i + 1, _, .cons _ t, e => Strs.get (i := i) t e
theorem Strs.at {K : PySem.W.Frag} {H : Hp} : ∀ {as : List Addr} {left : Rows} {i : Nat} {row : List Str}, Strs K H as left → left[i]? = some row → ∃ b, as[i]? = some b ∧ SqL K H b (row.map V.str)
  | _, _, _, _, .nil, e => by cases e
  | _, _, 0, _, .cons r _, e => by cases e; exact ⟨_, rfl, r⟩
  | _, _, i + 1, _, .cons _ t, e => Strs.at (i := i) t e
theorem Strs.snoc {K : PySem.W.Frag} {H : Hp} {b : Addr} {row : List Str} : ∀ {as : List Addr} {left : Rows}, Strs K H as left → SqL K H b (row.map V.str) → Strs K H (as ++ [b]) (left ++ [row])
  | _, _, .nil, h => .cons h .nil
  | _, _, .cons r t, h => .cons r (Strs.snoc t h)
theorem Strs.lists {K : PySem.W.Frag} {H : Hp} : ∀ {as : List Addr} {left : Rows}, Strs K H as left → Lists K H as (left.map fun r => r.map V.str)
  | _, _, .nil => .nil
  | _, _, .cons r t => .cons r (Strs.lists t)
theorem flat_strs : ∀ xs : List Str, (xs.map V.str).all flatV = true
  | [] => rfl
  | x :: r => by
    rw [List.map_cons, List.all_cons, flat_strs r]
    rfl
theorem inV_strs (x : Str) : ∀ xs : List Str, inV (.str x) (xs.map V.str) = decide (x ∈ xs)
  | [] => by
    rw [decide_eq_false List.not_mem_nil]
    rfl
  | y :: r => by
    have ih := inV_strs x r
    unfold inV at ih ⊢
    rw [List.map_cons, List.any_cons, ih]
    show ((y == x) || decide (x ∈ r)) = decide (x ∈ y :: r)
    by_cases e : y = x
    · rw [e, beq_self_eq_true, Bool.true_or, decide_eq_true List.mem_cons_self]
    · rw [beq_false_of_ne e, Bool.false_or]
      by_cases c : x ∈ r
      · rw [decide_eq_true c, decide_eq_true (List.mem_cons_of_mem _ c)]
      · rw [decide_eq_false c, decide_eq_false fun h => (List.mem_cons.mp h).elim (fun q => e q.symm) c]
theorem cut_tail (xs : List Str) : cutV (xs.map V.str) (some 1) none = xs.tail.map V.str := by
  have h := cut_from (xs.map V.str) 1
  rw [List.drop_one, ← List.map_tail] at h
  exact h
theorem cut_head (xs : List Str) : cutV (xs.map V.str) none (some 1) = (xs.take 1).map V.str := by
  have h := cut_to (xs.map V.str) 1
  rw [← List.map_take] at h
  exact h
/-- the item of a list of places, or of texts, as a value -/
theorem ref_of {as : List Addr} {i : Nat} {x : V} (h : (as.map V.ref)[i]? = some x) : ∃ b, as[i]? = some b ∧ x = .ref b := by
  rw [List.getElem?_map] at h
  cases e : as[i]? with
  | none => rw [e] at h; cases h
  | some b => rw [e] at h; exact ⟨b, rfl, (Option.some.inj h).symm⟩
theorem str_of {xs : List Str} {i : Nat} {x : V} (h : (xs.map V.str)[i]? = some x) : ∃ z, xs[i]? = some z ∧ x = .str z := by
  rw [List.getElem?_map] at h
  cases e : xs[i]? with
  | none => rw [e] at h; cases h
  | some b => rw [e] at h; exact ⟨b, rfl, (Option.some.inj h).symm⟩
/-- texts as they may stand in data -/
def Ok (xs : List Str) : Prop := ∀ x ∈ xs, PyData.strOk x = true
theorem Ok.take {xs : List Str} (h : Ok xs) (n : Nat) : Ok (xs.take n) := fun x hx => h x (List.mem_of_mem_take hx)
theorem Ok.tail {xs : List Str} (h : Ok xs) : Ok xs.tail := fun x hx => h x (List.mem_of_mem_tail hx)
theorem eqv_strs : ∀ xs ys : List Str, PyData.eqvAll (xs.map PyData.str) (ys.map PyData.str) = decide (xs = ys)
  | [], [] => rfl
  | [], _ :: _ => rfl
  | _ :: _, [] => rfl
  | x :: r, y :: t => by
    show ((x == y) && PyData.eqvAll (r.map PyData.str) (t.map PyData.str)) = decide (x :: r = y :: t)
    rw [eqv_strs r t]
    by_cases e : x = y
    · rw [e, beq_self_eq_true, Bool.true_and]
      by_cases c : r = t
      · rw [c, decide_eq_true rfl, decide_eq_true rfl]
      · rw [decide_eq_false c, decide_eq_false fun h => c (List.cons.inj h).2]
    · rw [beq_false_of_ne e, Bool.false_and, decide_eq_false fun h => e (List.cons.inj h).1]
/-- the demands in the heap -/
abbrev DemsAt (H : Hp) : List Addr → List Dem → Prop := Paired fun t d => H t = some (.tup [.str d.one, .str d.other, nV d.num])
theorem paired_drop {α β : Type} {R : α → β → Prop} : ∀ (n : Nat) {xs : List α} {ys : List β}, Paired R xs ys → Paired R (xs.drop n) (ys.drop n)
  | 0, _, _, h => h
  | _ + 1, _, _, .nil => .nil
  | n + 1, _, _, .cons _ t => paired_drop n t
theorem paired_snoc {α β : Type} {R : α → β → Prop} {x : α} {y : β} (h : R x y) : ∀ {xs : List α} {ys : List β}, Paired R xs ys → Paired R (xs ++ [x]) (ys ++ [y])
  | _, _, .nil => .cons h .nil
  | _, _, .cons r t => .cons r (paired_snoc h t)
theorem paired_rev {α β : Type} {R : α → β → Prop} : ∀ {xs : List α} {ys : List β}, Paired R xs ys → Paired R xs.reverse ys.reverse
  | _, _, .nil => .nil
  | x :: xs, y :: ys, .cons r t => by
    rw [List.reverse_cons, List.reverse_cons]
    exact paired_snoc r (paired_rev t)
theorem DemsAt.same {H H' : Hp} {ts : List Addr} {ds : List Dem} (h : DemsAt H ts ds) (e : Same H H') : DemsAt H' ts ds := Paired.mapP h fun _ _ q => e _ _ q
theorem DemsAt.mut {H : Hp} {ts : List Addr} {ds : List Dem} {q : Addr} {xs : List V} {o : HO} (h : DemsAt H ts ds) (hq : H q = some (.lst xs)) : DemsAt (upd H q o) ts ds := Paired.mapP h fun t d z => by
  rw [upd_ne (ne_of z hq fun e => nomatch e)]
  exact z
def hds (left : Rows) : List Str := left.filterMap List.head?
section
variable {K : PySem.W.Frag}
/-- tracked lists of texts, apart from some places -/
abbrev StrsN (H : Hp) (av : List Addr) : List Addr → Rows → Prop := Paired fun b row => H b = some (.lst (row.map V.str)) ∧ b ∉ av
theorem StrsN.same {H H' : Hp} {av bs : List Addr} {left : Rows} (h : StrsN H av bs left) (e : Same H H') : StrsN H' av bs left := Paired.mapP h fun _ _ q => ⟨e _ _ q.1, q.2⟩
theorem StrsN.mut {H : Hp} {av bs : List Addr} {left : Rows} {q : Addr} {o : HO} (h : StrsN H av bs left) (hq : q ∈ av) : StrsN (upd H q o) av bs left := Paired.mapP h fun b _ z => ⟨by
  rw [upd_ne fun e : b = q => z.2 (by rw [e]; exact hq)]
  exact z.1, z.2⟩
theorem StrsN.strs {K : PySem.W.Frag} {H : Hp} {av : List Addr} {bs : List Addr} {left : Rows} (h : StrsN H av bs left) : Strs K H bs left := Paired.mapP h fun _ _ q => SqL.of q.1
theorem StrsN.av {H : Hp} {av av' bs : List Addr} {left : Rows} (h : StrsN H av bs left) (hs : ∀ b, H b ≠ none → b ∉ av → b ∉ av') : StrsN H av' bs left := Paired.mapP h fun b _ q => ⟨q.1, hs b (by rw [q.1]; exact fun e => nomatch e) q.2⟩
theorem StrsN.get {H : Hp} {av : List Addr} : ∀ {bs : List Addr} {left : Rows} {i : Nat} {b : Addr}, StrsN H av bs left → bs[i]? = some b → ∃ row, left[i]? = some row ∧ H b = some (.lst (row.map V.str)) ∧ b ∉ av
  | _, _, _, _, .nil, e => by cases e
  | _, _, 0, _, .cons r _, e => by cases e; exact ⟨_, rfl, r⟩
  | _, _, i + 1, _, .cons _ t, e => StrsN.get (i := i) t e
theorem any_done (left : Rows) : ((left.map fun r => r.map V.str).any fun xs => !xs.isEmpty) = !done left := by
  unfold done
  rw [Bool.not_not, List.any_map]
  congr 1
  funext r
  cases r <;> rfl
end
theorem ok_without {left : Rows} (h : ∀ r ∈ left, Ok r) (x : Str) : ∀ r ∈ left.map (without x), Ok r := fun r hr => by
  obtain ⟨r0, h0, rfl⟩ := List.mem_map.mp hr
  unfold without
  split
  · exact (h r0 h0).tail
  · exact h r0 h0
structure MB (mg : Str → Option Value) : Prop where
  m_isinstance : mg "isinstance" = none
  m_bool : mg "bool" = none
  m_str : mg "str" = none
  m_int : mg "int" = none
  m_tuple : mg "tuple" = none
  m_list : mg "list" = none
  m_len : mg "len" = none
  m_all : mg "all" = none
  m_zip : mg "zip" = none
  m_range : mg "range" = none
  m_enumerate : mg "enumerate" = none
  m_any : mg "any" = none
/-! ### rows as data -/
def rowD (r : List Str) : PyData := .list (r.map PyData.str)
theorem dp_rows {K : PySem.W.Frag} {H : Hp} : ∀ {as : List Addr} {rows : Rows}, Strs K H as rows → DpAll K H (as.map V.ref) (rows.map rowD)
  | _, _, .nil => .nil
  | _, _, .cons h t => .cons (.lst h (dp_strs _)) (dp_rows t)
theorem RowsAt.dp {K : PySem.W.Frag} {H : Hp} {a : Addr} {as : List Addr} {rows : Rows} (h : RowsAt K H a as rows) : Dp K H (.ref a) (.list (rows.map rowD)) := .lst h.1 (dp_rows h.2)
theorem lay_rows : ∀ rows : Rows, (∀ r ∈ rows, Ok r) → PyData.canLayAll0 (rows.map rowD) = true
  | [], _ => rfl
  | r :: t, h => by
    show (PyData.canLayAll0 (r.map PyData.str) && PyData.canLayAll0 (t.map rowD)) = true
    rw [lay_rows t fun y hy => h y (List.mem_cons_of_mem _ hy), lay_strs r (h r List.mem_cons_self)]
    rfl
theorem depth_rows : ∀ rows : Rows, PyData.depthAll (rows.map rowD) ≤ 1
  | [] => Nat.zero_le 1
  | r :: t => by
    show max (PyData.depthAll (r.map PyData.str) + 1) (PyData.depthAll (t.map rowD)) ≤ 1
    have h := depth_rows t
    rw [depth_strs]
    omega
theorem shaped_rows {rows : Rows} (h : ∀ r ∈ rows, Ok r) : SeqAt.shaped (.list (rows.map rowD)) = true := shaped_list (lay_rows rows h) (depth_rows rows) (by decide)
theorem eqv_rows : ∀ xs ys : Rows, PyData.eqvAll (xs.map rowD) (ys.map rowD) = decide (xs = ys)
  | [], [] => rfl
  | [], _ :: _ => rfl
  | _ :: _, [] => rfl
  | x :: r, y :: t => by
    show (PyData.eqvAll (x.map PyData.str) (y.map PyData.str) && PyData.eqvAll (r.map rowD) (t.map rowD)) = decide (x :: r = y :: t)
    rw [eqv_rows r t, eqv_strs]
    by_cases e : x = y
    · rw [decide_eq_true e, Bool.true_and]
      by_cases c : r = t
      · rw [decide_eq_true c, decide_eq_true (by rw [e, c])]
      · rw [decide_eq_false c, decide_eq_false fun h => c (List.cons.inj h).2]
    · rw [decide_eq_false e, Bool.false_and, decide_eq_false fun h => e (List.cons.inj h).1]
theorem done_filter (left : Rows) : decide ((left.filter fun r => !decide (r = [])) = []) = done left := by
  by_cases d : done left = true
  · rw [d, decide_eq_true]
    rw [List.filter_eq_nil_iff]
    intro r hr
    rw [done_iff.mp d r hr, decide_eq_true rfl]
    decide
  · have d2 : done left = false := by
      cases q : done left with
      | true => exact absurd q d
      | false => rfl
    rw [d2, decide_eq_false]
    intro e
    obtain ⟨x, t, h⟩ := not_done d2
    have := List.filter_eq_nil_iff.mp e _ h
    rw [decide_eq_false fun z => nomatch z] at this
    exact this rfl
theorem behind_take {left : Rows} {i : Nat} {row : List Str} (h : left[i]? = some row) : behind (left.take (i + 1)) = behind (left.take i) ++ row.tail := by
  unfold behind
  rw [List.take_add_one, h, List.map_append, List.flatten_append]
  show _ ++ (row.tail ++ []) = _
  rw [List.append_nil]
theorem behind_len : ∀ left : Rows, (behind left).length ≤ total left
  | [] => Nat.le_refl 0
  | r :: t => by
    have h := behind_len t
    unfold behind total at h ⊢
    rw [List.map_cons, List.flatten_cons, List.length_append, List.map_cons, List.sum_cons, List.length_tail]
    omega
theorem total_take (left : Rows) (i : Nat) : total (left.take i) ≤ total left := by
  have e : total left = total (left.take i) + total (left.drop i) := by
    unfold total
    rw [← List.sum_append, ← List.map_append, List.take_append_drop]
  omega
/-! ### demands as data -/
def demD (d : Dem) : PyData := .tuple [.str d.one, .str d.other, .int d.num]
theorem dp_dems {K : PySem.W.Frag} {H : Hp} : ∀ {ts : List Addr} {ds : List Dem}, DemsAt H ts ds → DpAll K H (ts.map V.ref) (ds.map demD)
  | _, _, .nil => .nil
  | _, _, .cons h t => .cons (.tup (SqT.of h) (.cons (.str _) (.cons (.str _) (.cons (.int _) .nil)))) (dp_dems t)
theorem DemIn.oks {rows : Rows} {d : Dem} (h : DemIn rows d) (ok : ∀ r ∈ rows, Ok r) : PyData.strOk d.one = true ∧ PyData.strOk d.other = true := by
  obtain ⟨row, h1, a, b, h2, h3⟩ := h
  have k := ok row (List.mem_of_getElem? h1)
  rw [h2] at k
  exact ⟨k _ (List.mem_append.mpr (.inr List.mem_cons_self)), k _ (List.mem_append.mpr (.inr (List.mem_cons_of_mem _ h3)))⟩
theorem lay_dems {rows : Rows} (ok : ∀ r ∈ rows, Ok r) : ∀ ds : List Dem, (∀ d ∈ ds, DemIn rows d) → PyData.canLayAll0 (ds.map demD) = true
  | [], _ => rfl
  | d :: t, h => by
    obtain ⟨o1, o2⟩ := (h d List.mem_cons_self).oks ok
    show ((PyData.strOk d.one && (PyData.strOk d.other && true)) && PyData.canLayAll0 (t.map demD)) = true
    rw [o1, o2, lay_dems ok t fun y hy => h y (List.mem_cons_of_mem _ hy)]
    rfl
theorem depth_dems : ∀ ds : List Dem, PyData.depthAll (ds.map demD) ≤ 1
  | [] => Nat.zero_le 1
  | d :: t => by
    show max (max 0 (max 0 (max 0 0)) + 1) (PyData.depthAll (t.map demD)) ≤ 1
    have h := depth_dems t
    omega
theorem Dems.get {H : Hp} : ∀ {ts : List Addr} {ds : List Dem} {i : Nat} {t : Addr}, DemsAt H ts ds → ts[i]? = some t → ∃ d, ds[i]? = some d ∧ H t = some (.tup [.str d.one, .str d.other, nV d.num])
  | _, _, _, _, .nil, e => by cases e
  | _, _, 0, _, .cons r _, e => by cases e; exact ⟨_, rfl, r⟩
  | _, _, i + 1, _, .cons _ t, e => Dems.get (i := i) t e
theorem Dems.at {H : Hp} : ∀ {ts : List Addr} {ds : List Dem} {i : Nat} {d : Dem}, DemsAt H ts ds → ds[i]? = some d → ∃ t, ts[i]? = some t ∧ H t = some (.tup [.str d.one, .str d.other, nV d.num])
  | _, _, _, _, .nil, e => by cases e
  | _, _, 0, _, .cons r _, e => by cases e; exact ⟨_, rfl, r⟩
  | _, _, i + 1, _, .cons _ t, e => Dems.at (i := i) t e
/-- where the two stand in a row of unlike names -/
theorem ahead_at {row : List Str} {x y : Str} (nd : row.Nodup) (h : Ahead row x y) : ∃ j k : Nat, j < k ∧ row[j]? = some x ∧ row[k]? = some y := by
  obtain ⟨a, b, rfl, hy⟩ := h
  obtain ⟨k, hk, e⟩ := List.getElem_of_mem hy
  refine ⟨a.length, a.length + (k + 1), by omega, by rw [List.getElem?_append_right (Nat.le_refl _), Nat.sub_self]; rfl, ?_⟩
  rw [List.getElem?_append_right (by omega), show a.length + (k + 1) - a.length = k + 1 by omega, List.getElem?_cons_succ, List.getElem?_eq_getElem hk, e]
theorem first_at {row : List Str} {x : Str} {j : Nat} (nd : row.Nodup) (h : row[j]? = some x) : ∀ (m : Nat) (z : V), m < j → (row.map V.str)[m]? = some z → eqV z (.str x) = false := fun m z hm hz => by
  obtain ⟨y, hy, rfl⟩ := str_of hz
  refine beq_false_of_ne fun e => ?_
  subst e
  have := nd_ix nd hy h
  omega
theorem wide_strs : ∀ xs : List Str, wideAll (xs.map PyData.str) = 0
  | [] => rfl
  | x :: r => by
    show max 0 (wideAll (r.map PyData.str)) = 0
    rw [wide_strs r]
    rfl
end Kin
/-! what an expression gives, as data, while some places may change -/
namespace Kin
open PySem PySem.Spec PyProof.Rows L2 RZ
/-- what may change (mv), what data keep away from (av), and what holds all along (I) -/
structure En where
  mv : List Addr
  av : List Addr
  sub : ∀ b ∈ mv, b ∈ av
  I : Hp → Prop
  on : ∀ {H : Hp}, I H → ∀ a ∈ av, H a ≠ none
  kp : ∀ {H H' : Hp}, I H → Same H H' → I H'
/-- all else stays -/
def En.R (E : En) (H H' : Hp) : Prop := E.I H ∧ (∀ b o, b ∉ E.mv → H b = some o → H' b = some o) ∧ E.I H'
def En0 : En where
  mv := []
  av := []
  sub := fun _ h => h
  I := fun _ => True
  on := fun _ _ h => nomatch h
  kp := fun _ _ => trivial
/-- the pot at p; data keep away from it and from some other places -/
def EnP (p c : Addr) (ns : List Int) (rs : List Addr) : En where
  mv := [p]
  av := p :: rs
  sub := fun b h => by
    rw [List.mem_singleton.mp h]
    exact List.mem_cons_self
  I := fun H => Pot H p c ns ∧ ∀ b ∈ rs, H b ≠ none
  on := fun {H} h a ha => by
    rcases List.mem_cons.mp ha with rfl | ha
    · intro e
      obtain ⟨⟨_, _, z⟩, _⟩ := h
      rw [z.hp] at e
      cases e
    · exact h.2 a ha
  kp := fun {H H'} h s => ⟨h.1.same s, fun b hb e => h.2 b hb (s.free e)⟩
section
variable {E : En} {H H1 H2 H' : Hp}
theorem En.rf (h : E.I H) : E.R H H := ⟨h, fun _ _ _ e => e, h⟩
theorem En.R.rfl (h : E.R H H1) : E.R H1 H1 := En.rf h.2.2
theorem En.R.here (h : E.R H H1) : E.R H H := En.rf h.1
theorem En.R.tr (a : E.R H H1) (b : E.R H1 H2) : E.R H H2 := ⟨a.1, fun c o n h => b.2.1 c o n (a.2.1 c o n h), b.2.2⟩
theorem En.same (h : E.I H) (s : Same H H') : E.R H H' := ⟨h, fun b o _ e => s b o e, E.kp h s⟩
theorem En.R.same (a : E.R H H1) (s : Same H1 H2) : E.R H H2 := a.tr (En.same a.2.2 s)
theorem En.R.new {q : Addr} {o : HO} (a : E.R H H1) (n : H1 q = none) : E.R H (upd H1 q o) := a.same (same_new n)
theorem En.off {q : Addr} (h : E.I H) (n : H q = none) : q ∉ E.av := fun m => E.on h q m n
theorem En.R.get {q : Addr} {o : HO} (a : E.R H H1) (n : q ∉ E.mv) (h : H q = some o) : H1 q = some o := a.2.1 q o n h
theorem En.R.free {q : Addr} (a : E.R H H1) (n : H1 q = none) : H q = none := by
  cases e : H q with
  | none => rfl
  | some o =>
    rw [a.2.1 q o (fun m => En.off a.2.2 n (E.sub q m)) e] at n
    cases n
/-- a thing made since the beginning is changed -/
theorem En.R.mut {q : Addr} {o : HO} (a : E.R H H1) (n : H q = none) (i : E.I (upd H1 q o)) : E.R H (upd H1 q o) := ⟨a.1, fun b u m e => by
  rw [upd_ne (ne_of_none e n)]
  exact a.2.1 b u m e, i⟩
theorem Go.r {p c : Addr} {ns : List Int} {rs : List Addr} (g : Go p c ns H H') (h : ∀ b ∈ rs, H b ≠ none) : (EnP p c ns rs).R H H' := ⟨⟨g.st, h⟩, fun b o n e => g.k b o (fun q => n (List.mem_singleton.mpr q)) e, g.pot, fun b hb e => by
  by_cases q : b = p
  · subst q
    obtain ⟨_, _, z⟩ := g.pot
    rw [z.hp] at e
    cases e
  · exact h b hb (g.k.free q e)⟩
theorem R.go {p c : Addr} {ns : List Int} {rs : List Addr} (g : (EnP p c ns rs).R H H') : Go p c ns H H' := ⟨g.1.1, fun b o n e => g.2.1 b o (fun q => n (List.mem_singleton.mp q)) e, g.2.2.1⟩
end
/-! ### data apart from these places: its lists are the run's own -/
section
variable {K : PySem.W.Frag} {av : List Addr} {H : Hp}
mutual
inductive Da (K : PySem.W.Frag) (av : List Addr) (H : Hp) : V → PyData → Prop
  | non : Da K av H .non .none
  | bl (b : Bool) : Da K av H (.bl b) (.bool b)
  | int (i : Int) : Da K av H (.int i) (.int i)
  | str (x : Str) : Da K av H (.str x) (.str x)
  | lst {a : Addr} {xs : List V} {ds : List PyData} (n : a ∉ av) (h : H a = some (.lst xs)) (t : DaAll K av H xs ds) : Da K av H (.ref a) (.list ds)
  | tup {a : Addr} {xs : List V} {ds : List PyData} (n : a ∉ av) (h : H a = some (.tup xs)) (t : DaAll K av H xs ds) : Da K av H (.ref a) (.tuple ds)
inductive DaAll (K : PySem.W.Frag) (av : List Addr) (H : Hp) : List V → List PyData → Prop
  | nil : DaAll K av H [] []
  | cons {x : V} {d : PyData} {xs : List V} {ds : List PyData} (h : Da K av H x d) (t : DaAll K av H xs ds) : DaAll K av H (x :: xs) (d :: ds)
end
mutual
theorem Da.dp : ∀ {d : PyData} {x : V}, Da K av H x d → Dp K H x d
  | _, _, .non => .non
  | _, _, .bl b => .bl b
  | _, _, .int i => .int i
  | _, _, .str x => .str x
  | .list _, _, .lst _ h t => .lst (SqL.of h) (DaAll.dp t)
  | .tuple _, _, .tup _ h t => .tup (SqT.of h) (DaAll.dp t)
theorem DaAll.dp : ∀ {ds : List PyData} {xs : List V}, DaAll K av H xs ds → DpAll K H xs ds
  | _, _, .nil => .nil
  | _ :: _, _ :: _, .cons h t => .cons (Da.dp h) (DaAll.dp t)
end
mutual
theorem Da.mono {H' : Hp} (e : ∀ b o, b ∉ av → H b = some o → H' b = some o) : ∀ {d : PyData} {x : V}, Da K av H x d → Da K av H' x d
  | _, _, .non => .non
  | _, _, .bl b => .bl b
  | _, _, .int i => .int i
  | _, _, .str x => .str x
  | .list _, _, .lst n h t => .lst n (e _ _ n h) (DaAll.mono e t)
  | .tuple _, _, .tup n h t => .tup n (e _ _ n h) (DaAll.mono e t)
theorem DaAll.mono {H' : Hp} (e : ∀ b o, b ∉ av → H b = some o → H' b = some o) : ∀ {ds : List PyData} {xs : List V}, DaAll K av H xs ds → DaAll K av H' xs ds
  | _, _, .nil => .nil
  | _ :: _, _ :: _, .cons h t => .cons (Da.mono e h) (DaAll.mono e t)
end
mutual
/-- data keep away from what is not there yet -/
theorem Da.off {q : Addr} (n : H q = none) : ∀ {d : PyData} {x : V}, Da K av H x d → Da K (av ++ [q]) H x d
  | _, _, .non => .non
  | _, _, .bl b => .bl b
  | _, _, .int i => .int i
  | _, _, .str x => .str x
  | .list _, _, .lst m h t => .lst (fun z => (List.mem_append.mp z).elim m fun z => by
      rw [List.mem_singleton.mp z, n] at h
      cases h) h (DaAll.off n t)
  | .tuple _, _, .tup m h t => .tup (fun z => (List.mem_append.mp z).elim m fun z => by
      rw [List.mem_singleton.mp z, n] at h
      cases h) h (DaAll.off n t)
theorem DaAll.off {q : Addr} (n : H q = none) : ∀ {ds : List PyData} {xs : List V}, DaAll K av H xs ds → DaAll K (av ++ [q]) H xs ds
  | _, _, .nil => .nil
  | _ :: _, _ :: _, .cons h t => .cons (Da.off n h) (DaAll.off n t)
end
mutual
theorem Da.less {bv : List Addr} (s : ∀ b ∈ bv, b ∈ av) : ∀ {d : PyData} {x : V}, Da K av H x d → Da K bv H x d
  | _, _, .non => .non
  | _, _, .bl b => .bl b
  | _, _, .int i => .int i
  | _, _, .str x => .str x
  | .list _, _, .lst m h t => .lst (fun z => m (s _ z)) h (DaAll.less s t)
  | .tuple _, _, .tup m h t => .tup (fun z => m (s _ z)) h (DaAll.less s t)
theorem DaAll.less {bv : List Addr} (s : ∀ b ∈ bv, b ∈ av) : ∀ {ds : List PyData} {xs : List V}, DaAll K av H xs ds → DaAll K bv H xs ds
  | _, _, .nil => .nil
  | _ :: _, _ :: _, .cons h t => .cons (Da.less s h) (DaAll.less s t)
end
/-- a place that they keep away from is changed -/
theorem Da.put {q : Addr} {o : HO} {d : PyData} {x : V} (h : Da K av H x d) (m : q ∈ av) : Da K av (upd H q o) x d := h.mono fun b u n e => by
  rw [upd_ne fun z : b = q => n (by rw [z]; exact m)]
  exact e
theorem DaAll.put {q : Addr} {o : HO} {ds : List PyData} {xs : List V} (h : DaAll K av H xs ds) (m : q ∈ av) : DaAll K av (upd H q o) xs ds := h.mono fun b u n e => by
  rw [upd_ne fun z : b = q => n (by rw [z]; exact m)]
  exact e
theorem DaAll.len : ∀ {xs : List V} {ds : List PyData}, DaAll K av H xs ds → xs.length = ds.length
  | _, _, .nil => rfl
  | _, _, .cons _ t => congrArg (· + 1) (DaAll.len t)
theorem DaAll.get : ∀ {xs : List V} {ds : List PyData} {i : Nat} {x : V}, DaAll K av H xs ds → xs[i]? = some x → ∃ d, ds[i]? = some d ∧ Da K av H x d
  | _, _, _, _, .nil, e => by cases e
  | _, _, 0, _, .cons r _, e => by cases e; exact ⟨_, rfl, r⟩
  | _, _, i + 1, _, .cons _ t, e => DaAll.get (i := i) t e
theorem DaAll.at : ∀ {xs : List V} {ds : List PyData} {i : Nat} {d : PyData}, DaAll K av H xs ds → ds[i]? = some d → ∃ x, xs[i]? = some x ∧ Da K av H x d
  | _, _, _, _, .nil, e => by cases e
  | _, _, 0, _, .cons r _, e => by cases e; exact ⟨_, rfl, r⟩
  | _, _, i + 1, _, .cons _ t, e => DaAll.at (i := i) t e
theorem DaAll.app : ∀ {xs ys : List V} {ds es : List PyData}, DaAll K av H xs ds → DaAll K av H ys es → DaAll K av H (xs ++ ys) (ds ++ es)
  | _, _, _, _, .nil, h => h
  | _, _, _, _, .cons r t, h => .cons r (DaAll.app t h)
theorem DaAll.drop : ∀ (n : Nat) {xs : List V} {ds : List PyData}, DaAll K av H xs ds → DaAll K av H (xs.drop n) (ds.drop n)
  | 0, _, _, h => h
  | _ + 1, _, _, .nil => .nil
  | n + 1, _, _, .cons _ t => DaAll.drop n t
theorem DaAll.take : ∀ (n : Nat) {xs : List V} {ds : List PyData}, DaAll K av H xs ds → DaAll K av H (xs.take n) (ds.take n)
  | 0, _, _, _ => .nil
  | _ + 1, _, _, .nil => .nil
  | n + 1, _, _, .cons h t => .cons h (DaAll.take n t)
theorem DaAll.rev : ∀ {xs : List V} {ds : List PyData}, DaAll K av H xs ds → DaAll K av H xs.reverse ds.reverse
  | _, _, .nil => .nil
  | _, _, .cons h t => by
    rw [List.reverse_cons, List.reverse_cons]
    exact (DaAll.rev t).app (.cons h .nil)
theorem da_strs : ∀ xs : List Str, DaAll K av H (xs.map V.str) (xs.map PyData.str)
  | [] => .nil
  | x :: r => .cons (.str x) (da_strs r)
theorem da_ints : ∀ xs : List Int, DaAll K av H (xs.map V.int) (xs.map PyData.int)
  | [] => .nil
  | x :: r => .cons (.int x) (da_ints r)
theorem da_bools : ∀ xs : List Bool, DaAll K av H (xs.map V.bl) (xs.map PyData.bool)
  | [] => .nil
  | x :: r => .cons (.bl x) (da_bools r)
end
section
variable {K : PySem.W.Frag} {E : En} {H H1 H2 : Hp}
theorem Da.r {x : V} {d : PyData} (h : Da K E.av H x d) (r : E.R H H1) : Da K E.av H1 x d := h.mono fun b o n => r.2.1 b o fun m => n (E.sub b m)
theorem DaAll.r {xs : List V} {ds : List PyData} (h : DaAll K E.av H xs ds) (r : E.R H H1) : DaAll K E.av H1 xs ds := h.mono fun b o n => r.2.1 b o fun m => n (E.sub b m)
theorem Da.newT {q : Addr} {xs : List V} {ds : List PyData} (i : E.I H) (n : H q = none) (h : DaAll K E.av H xs ds) : Da K E.av (upd H q (.tup xs)) (.ref q) (.tuple ds) :=
  .tup (En.off i n) upd_same (h.r (En.same i (same_new n)))
theorem Da.newL {q : Addr} {xs : List V} {ds : List PyData} (i : E.I H) (n : H q = none) (h : DaAll K E.av H xs ds) : Da K E.av (upd H q (.lst xs)) (.ref q) (.list ds) :=
  .lst (En.off i n) upd_same (h.r (En.same i (same_new n)))
end
/-! ### what is given -/
def Gv (K : PySem.W.Frag) (E : En) (te : TE) (σ : L2.St) (H : Hp) (G : PyData → Prop) : Prop := ∀ H1, E.R H H1 → ∀ Q : VK, (∀ x d H2, E.R H1 H2 → Da K E.av H2 x d → G d → Q x H2) → te σ H1 Q
def GvA (K : PySem.W.Frag) (E : En) (ta : TA) (σ : L2.St) (H : Hp) (G : List PyData → Prop) : Prop := ∀ H1, E.R H H1 → ∀ Q : List V → Hp → Prop, (∀ xs ds H2, E.R H1 H2 → DaAll K E.av H2 xs ds → G ds → Q xs H2) → ta σ H1 Q
def GvT (E : En) (tt : TT) (σ : L2.St) (H : Hp) (G : Bool → Prop) : Prop := ∀ H1, E.R H H1 → ∀ Q : Bool → Hp → Prop, (∀ b H2, E.R H1 H2 → G b → Q b H2) → tt σ H1 Q
def GvO (K : PySem.W.Frag) (E : En) (to : TO) (σ : L2.St) (H : Hp) (G : Option Int → Prop) : Prop := ∀ H1, E.R H H1 → ∀ Q : Option Int → Hp → Prop, (∀ o H2, E.R H1 H2 → G o → Q o H2) → to σ H1 Q
section
variable {K : PySem.W.Frag} {E : En} {H H1 H2 : Hp} {σ : L2.St} {ta tb te : TE} {tA : TA} {t u : TT} {G G' : PyData → Prop}
theorem Gv.r (h : Gv K E te σ H G) (r : E.R H H1) : Gv K E te σ H1 G := fun H2 r2 Q q => h H2 (r.tr r2) Q q
theorem GvT.r {G : Bool → Prop} (h : GvT E t σ H G) (r : E.R H H1) : GvT E t σ H1 G := fun H2 r2 Q q => h H2 (r.tr r2) Q q
theorem Gv.imp (h : Gv K E te σ H G) (i : ∀ d, G d → G' d) : Gv K E te σ H G' := fun H1 r Q q => h H1 r Q fun x d H2 r2 hd g => q x d H2 r2 hd (i d g)
theorem GvT.imp {G G' : Bool → Prop} (h : GvT E t σ H G) (i : ∀ d, G d → G' d) : GvT E t σ H G' := fun H1 r Q q => h H1 r Q fun b H2 r2 g => q b H2 r2 (i b g)
theorem gv_var {i : Nat} {x : V} {d : PyData} (hd : Da K E.av H x d) (h : σ[i]? = some (some x) := by rfl) : Gv K E (tVar i) σ H (· = d) := fun H1 r Q q => ⟨x, h, q x d H1 r.rfl (hd.r r) rfl⟩
theorem gv_non : Gv K E (tC .non) σ H (· = .none) := fun H1 r Q q => q _ _ H1 r.rfl .non rfl
theorem gv_bl {b : Bool} : Gv K E (tC (.bl b)) σ H (· = .bool b) := fun H1 r Q q => q _ _ H1 r.rfl (.bl b) rfl
theorem gv_int {i : Int} : Gv K E (tC (.int i)) σ H (· = .int i) := fun H1 r Q q => q _ _ H1 r.rfl (.int i) rfl
theorem gv_str {x : Str} : Gv K E (tC (.str x)) σ H (· = .str x) := fun H1 r Q q => q _ _ H1 r.rfl (.str x) rfl
theorem ga_nil : GvA K E tNil σ H (· = []) := fun H1 r Q q => q [] [] H1 r.rfl .nil rfl
theorem ga_cons {G : PyData → Prop} {Gs : PyData → List PyData → Prop} (h : Gv K E te σ H G) (t : ∀ d, G d → GvA K E tA σ H (Gs d)) : GvA K E (tCons te tA) σ H (fun l => ∃ d r, l = d :: r ∧ G d ∧ Gs d r) := fun H1 r Q q =>
  h H1 r _ fun x d H2 r2 hd g => t d g H2 (r.tr r2) _ fun xs ds H3 r3 hds gs => q _ _ H3 (r2.tr r3) (.cons (hd.r r3) hds) ⟨d, ds, rfl, g, gs⟩
/-- the same of what is sure -/
theorem ga_cons' {d : PyData} {ds : List PyData} (h : Gv K E te σ H (· = d)) (t : GvA K E tA σ H (· = ds)) : GvA K E (tCons te tA) σ H (· = d :: ds) := fun H1 r Q q =>
  h H1 r _ fun x d' H2 r2 hd g => t H2 (r.tr r2) _ fun xs ds' H3 r3 hds gs => q _ _ H3 (r2.tr r3) (.cons (hd.r r3) hds) (by rw [g, gs])
theorem gv_tup {Gs : List PyData → Prop} (h : GvA K E tA σ H Gs) (l : ∀ ds, Gs ds → ds.length ≤ 1000) : Gv K E (tTup tA) σ H (fun d => ∃ ds, d = .tuple ds ∧ Gs ds) := fun H1 r Q q =>
  h H1 r _ fun xs ds H2 r2 hds g => ⟨by rw [hds.len]; exact Nat.le_of_lt (small1000 (l ds g)), fun p np => q _ _ _ (r2.new np) (Da.newT r2.2.2 np hds) ⟨ds, rfl, g⟩⟩
theorem gv_tup' {ds : List PyData} (h : GvA K E tA σ H (· = ds)) (l : ds.length ≤ 1000 := by decide) : Gv K E (tTup tA) σ H (· = .tuple ds) := (gv_tup h fun _ e => by rw [e]; exact l).imp fun d ⟨ds', e, g⟩ => by rw [e, g]
theorem gv_lst {Gs : List PyData → Prop} (h : GvA K E tA σ H Gs) (l : ∀ ds, Gs ds → ds.length ≤ 1000) : Gv K E (tLst tA) σ H (fun d => ∃ ds, d = .list ds ∧ Gs ds) := fun H1 r Q q =>
  h H1 r _ fun xs ds H2 r2 hds g => ⟨by rw [hds.len]; exact Nat.le_of_lt (small1000 (l ds g)), fun p np => q _ _ _ (r2.new np) (Da.newL r2.2.2 np hds) ⟨ds, rfl, g⟩⟩
theorem gv_lst' {ds : List PyData} (h : GvA K E tA σ H (· = ds)) (l : ds.length ≤ 1000 := by decide) : Gv K E (tLst tA) σ H (· = .list ds) := (gv_lst h fun _ e => by rw [e]; exact l).imp fun d ⟨ds', e, g⟩ => by rw [e, g]
/-- an operator over what two expressions give -/
theorem gv_op {r : R2} {G1 : PyData → Prop} {G2 : PyData → PyData → Prop} (ha : Gv K E ta σ H G1) (hb : ∀ d, G1 d → Gv K E tb σ H (G2 d))
    (hr : ∀ x y d e H1 (Q : VK), E.R H H1 → Da K E.av H1 x d → Da K E.av H1 y e → G1 d → G2 d e → (∀ z f H2, E.R H1 H2 → Da K E.av H2 z f → G f → Q z H2) → r x y H1 Q) : Gv K E (tOp r ta tb) σ H G := fun H1 r1 Q q =>
  ha H1 r1 _ fun x d H2 r2 hd g1 => hb d g1 H2 (r1.tr r2) _ fun y e H3 r3 he g2 => hr x y d e H3 Q ((r1.tr r2).tr r3) (hd.r r3) he g1 g2 fun z f H4 r4 hz g => q z f H4 ((r2.tr r3).tr r4) hz g
theorem atI_lt {ds : List PyData} {xs : List V} (h : DaAll K E.av H xs ds) {i : Nat} (hi : i < ds.length) : ∃ x, xs[i]? = some x ∧ Da K E.av H x ds[i] := h.at (List.getElem?_eq_getElem hi)
theorem gv_ixT {G1 : PyData → Prop} {G2 : PyData → PyData → Prop} (ha : Gv K E ta σ H G1) (hb : ∀ d, G1 d → Gv K E tb σ H (G2 d)) (hg : ∀ d e, G1 d → G2 d e → ∃ ds i f, d = .tuple ds ∧ e = .int ((i : Nat) : Int) ∧ ds[i]? = some f ∧ G f) : Gv K E (tOp (rIxT K) ta tb) σ H G :=
  gv_op ha hb fun x y d e H1 Q r hd he g1 g2 q => by
    obtain ⟨ds, i, f, rfl, rfl, hf, g⟩ := hg d e g1 g2
    cases he
    cases hd with
    | tup n h t =>
      obtain ⟨v, hv, hvd⟩ := t.at hf
      exact ⟨_, _, _, v, rfl, rfl, SqT.of h, at_of (j := i) rfl hv, q v f H1 r.rfl hvd g⟩
theorem gv_ixL {G1 : PyData → Prop} {G2 : PyData → PyData → Prop} (ha : Gv K E ta σ H G1) (hb : ∀ d, G1 d → Gv K E tb σ H (G2 d)) (hg : ∀ d e, G1 d → G2 d e → ∃ ds i f, d = .list ds ∧ e = .int ((i : Nat) : Int) ∧ ds[i]? = some f ∧ G f) : Gv K E (tOp (rIxL K) ta tb) σ H G :=
  gv_op ha hb fun x y d e H1 Q r hd he g1 g2 q => by
    obtain ⟨ds, i, f, rfl, rfl, hf, g⟩ := hg d e g1 g2
    cases he
    cases hd with
    | lst n h t =>
      obtain ⟨v, hv, hvd⟩ := t.at hf
      exact ⟨_, _, _, v, rfl, rfl, SqL.of h, at_of (j := i) rfl hv, q v f H1 r.rfl hvd g⟩
theorem gv_cat {ds es : List PyData} (ha : Gv K E ta σ H (· = .list ds)) (hb : Gv K E tb σ H (· = .list es)) (l : ds.length + es.length ≤ 1000) : Gv K E (tOp rCat ta tb) σ H (· = .list (ds ++ es)) :=
  gv_op (G2 := fun _ => (· = .list es)) ha (fun _ _ => hb) fun x y d e H1 Q r hd he g1 g2 q => by
    subst g1 g2
    cases hd with
    | lst n h t =>
      cases he with
      | lst n2 h2 t2 => exact ⟨_, _, _, _, rfl, rfl, h, h2, by rw [t.len, t2.len]; exact Nat.le_of_lt (small1000 l), fun p np => q _ _ _ (r.rfl.new np) (Da.newL r.2.2 np (t.app t2)) rfl⟩
theorem gv_catT {G1 : PyData → Prop} {G2 : PyData → PyData → Prop} (ha : Gv K E ta σ H G1) (hb : ∀ d, G1 d → Gv K E tb σ H (G2 d)) (hg : ∀ d e, G1 d → G2 d e → ∃ ds es, d = .tuple ds ∧ e = .tuple es ∧ ds.length + es.length ≤ 1000 ∧ G (.tuple (ds ++ es))) : Gv K E (tOp (rCatA K) ta tb) σ H G :=
  gv_op ha hb fun x y d e H1 Q r hd he g1 g2 q => by
    obtain ⟨ds, es, rfl, rfl, l, g⟩ := hg d e g1 g2
    cases hd with
    | tup n h t =>
      cases he with
      | tup n2 h2 t2 =>
        rename_i a1 xs a2 ys
        refine ⟨_, _, _, _, rfl, rfl, SqT.of h, SqT.of h2, by rw [t.len, t2.len]; exact Nat.le_of_lt (small1000 l), fun e0 => ?_, fun e1 e0 => ?_, fun _ _ p np => q _ _ _ (r.rfl.new np) (Da.newT r.2.2 np (t.app t2)) g⟩
        · subst e0
          cases t
          exact q _ _ _ r.rfl (.tup n2 h2 t2) g
        · subst e0
          cases t2
          rw [List.append_nil] at g
          exact q _ _ _ r.rfl (.tup n h t) g
theorem gv_I0 {f : Int → Int → V} {fd : Int → Int → PyData} {i j : Int} (ha : Gv K E ta σ H (· = .int i)) (hb : Gv K E tb σ H (· = .int j)) (hf : ∀ H, Da K E.av H (f i j) (fd i j)) : Gv K E (tOp (rI0 f) ta tb) σ H (· = fd i j) :=
  gv_op (G2 := fun _ => (· = .int j)) ha (fun _ _ => hb) fun x y d e H1 Q r hd he g1 g2 q => by
    subst g1 g2
    cases hd
    cases he
    exact ⟨i, j, rfl, rfl, q _ _ H1 r.rfl (hf H1) rfl⟩
theorem gv_Ic {C : Int → Int → Prop} {f : Int → Int → V} {fd : Int → Int → PyData} {G1 G2 : Int → Prop} (ha : Gv K E ta σ H (fun d => ∃ i, d = .int i ∧ G1 i)) (hb : Gv K E tb σ H (fun d => ∃ j, d = .int j ∧ G2 j)) (hc : ∀ i j, G1 i → G2 j → C i j) (hf : ∀ i j H, Da K E.av H (f i j) (fd i j)) :
    Gv K E (tOp (rI C f) ta tb) σ H (fun d => ∃ i j, d = fd i j ∧ G1 i ∧ G2 j) :=
  gv_op (G2 := fun _ d => ∃ j, d = .int j ∧ G2 j) ha (fun _ _ => hb) fun x y d e H1 Q r hd he g1 g2 q => by
    obtain ⟨i, rfl, g1⟩ := g1
    obtain ⟨j, rfl, g2⟩ := g2
    cases hd
    cases he
    exact ⟨i, j, rfl, rfl, hc i j g1 g2, q _ _ H1 r.rfl (hf i j H1) ⟨i, j, rfl, g1, g2⟩⟩
theorem gv_I0c {f : Int → Int → V} {fd : Int → Int → PyData} {G1 G2 : Int → Prop} (ha : Gv K E ta σ H (fun d => ∃ i, d = .int i ∧ G1 i)) (hb : Gv K E tb σ H (fun d => ∃ j, d = .int j ∧ G2 j)) (hf : ∀ i j H, Da K E.av H (f i j) (fd i j)) :
    Gv K E (tOp (rI0 f) ta tb) σ H (fun d => ∃ i j, d = fd i j ∧ G1 i ∧ G2 j) :=
  gv_op (G2 := fun _ d => ∃ j, d = .int j ∧ G2 j) ha (fun _ _ => hb) fun x y d e H1 Q r hd he g1 g2 q => by
    obtain ⟨i, rfl, g1⟩ := g1
    obtain ⟨j, rfl, g2⟩ := g2
    cases hd
    cases he
    exact ⟨i, j, rfl, rfl, q _ _ H1 r.rfl (hf i j H1) ⟨i, j, rfl, g1, g2⟩⟩
/-- ints that are sure -/
theorem gi_op {C : Int → Int → Prop} {f : Int → Int → Int} {i j : Int} (ha : Gv K E ta σ H (· = .int i)) (hb : Gv K E tb σ H (· = .int j)) (hc : C i j) : Gv K E (tOp (rI C fun i j => .int (f i j)) ta tb) σ H (· = .int (f i j)) :=
  gv_op (G2 := fun _ => (· = .int j)) ha (fun _ _ => hb) fun x y d e H1 Q r hd he g1 g2 q => by
    subst g1 g2
    cases hd
    cases he
    exact ⟨i, j, rfl, rfl, hc, q _ _ H1 r.rfl (.int _) rfl⟩
theorem gi_op0 {f : Int → Int → Int} {i j : Int} (ha : Gv K E ta σ H (· = .int i)) (hb : Gv K E tb σ H (· = .int j)) : Gv K E (tOp (rI0 fun i j => .int (f i j)) ta tb) σ H (· = .int (f i j)) := gv_I0 (f := fun i j => .int (f i j)) (fd := fun i j => .int (f i j)) ha hb fun _ => .int _
theorem gi_neg {i : Int} (ha : Gv K E ta σ H (· = .int i)) : Gv K E (tUn (rU fun i => .int (-i)) ta) σ H (· = .int (-i)) := fun H1 r Q q => ha H1 r _ fun x d H2 r2 hd g => by
  subst g
  cases hd
  exact ⟨i, rfl, q _ _ H2 r2 (.int _) rfl⟩
theorem gv_repS {z : Str} {k : Int} (ha : Gv K E ta σ H (· = .str z)) (hb : Gv K E tb σ H (· = .int k)) (h : 1 ≤ k ∧ k ≤ 1000 ∧ z.length ≤ 1000 ∧ 1 ≤ z.length) : Gv K E (tOp rRepS ta tb) σ H (· = .str ⟨(List.replicate k.toNat z.cps.toList).flatten.toArray⟩) :=
  gv_op (G2 := fun _ => (· = .int k)) ha (fun _ _ => hb) fun x y d e H1 Q r hd he g1 g2 q => by
    subst g1 g2
    cases hd
    cases he
    exact ⟨z, k, rfl, rfl, h.1, h.2.1, h.2.2.1, h.2.2.2, q _ _ H1 r.rfl (.str _) rfl⟩
theorem go_none : GvO K E tNoPart σ H (· = none) := fun H1 r Q q => q none H1 r.rfl rfl
theorem go_some {i : Int} (h : Gv K E te σ H (· = .int i)) : GvO K E (tPart te) σ H (· = some i) := fun H1 r Q q => h H1 r _ fun x d H2 r2 hd g => by
  subst g
  cases hd
  exact ⟨i, rfl, q _ H2 r2 rfl⟩
def cutD (ds : List PyData) (lo hi : Option Int) : List PyData := (ds.drop (HT.sIx ds.length 0 lo)).take (HT.sIx ds.length ds.length hi - HT.sIx ds.length 0 lo)
theorem DaAll.cut {xs : List V} {ds : List PyData} (h : DaAll K E.av H xs ds) (lo hi : Option Int) : DaAll K E.av H (cutV xs lo hi) (cutD ds lo hi) := by
  unfold cutV cutD
  rw [h.len]
  exact (h.drop _).take _
theorem gv_slT {ds : List PyData} {to tp : TO} {lo hi : Option Int} (ha : Gv K E ta σ H (· = .tuple ds)) (hl : GvO K E to σ H (· = lo)) (hh : GvO K E tp σ H (· = hi)) : Gv K E (tSl (rSlA K) ta to tp) σ H (· = .tuple (cutD ds lo hi)) := fun H1 r1 Q q =>
  ha H1 r1 _ fun x d H2 r2 hd g => hl H2 (r1.tr r2) _ fun l H3 r3 gl => hh H3 ((r1.tr r2).tr r3) _ fun u H4 r4 gu => by
    subst g gl gu
    have r24 := r3.tr r4
    have hd := hd.r r24
    have rr := r2.tr r24
    cases hd with
    | tup n h t =>
      rename_i a xs
      refine ⟨a, xs, rfl, SqT.of h, fun e => ?_, fun _ p np => q _ _ _ (rr.new np) (Da.newT rr.2.2 np (t.cut l u)) rfl⟩
      have e2 : cutD ds l u = ds := by
        unfold cutD
        rw [← t.len, e.1, e.2, List.drop_zero, Nat.sub_zero, t.len, List.take_length]
      refine q _ _ _ rr ?_ rfl
      rw [e2]
      exact .tup n h t
theorem gv_slL {ds : List PyData} {to tp : TO} {lo hi : Option Int} (ha : Gv K E ta σ H (· = .list ds)) (hl : GvO K E to σ H (· = lo)) (hh : GvO K E tp σ H (· = hi)) : Gv K E (tSl (rSlL K) ta to tp) σ H (· = .list (cutD ds lo hi)) := fun H1 r1 Q q =>
  ha H1 r1 _ fun x d H2 r2 hd g => hl H2 (r1.tr r2) _ fun l H3 r3 gl => hh H3 ((r1.tr r2).tr r3) _ fun u H4 r4 gu => by
    subst g gl gu
    have r24 := r3.tr r4
    have hd := hd.r r24
    have rr := r2.tr r24
    cases hd with
    | lst n h t => exact ⟨_, _, rfl, SqL.of h, fun p np => q _ _ _ (rr.new np) (Da.newL rr.2.2 np (t.cut l u)) rfl⟩
theorem cutD_to (ds : List PyData) (k : Nat) : cutD ds none (some (k : Int)) = ds.take k := by
  unfold cutD
  rw [HT.sIx_nat, HT.sIx_none, List.drop_zero, Nat.sub_zero]
  by_cases h : k ≤ ds.length
  · rw [Nat.min_eq_left h]
  · rw [Nat.min_eq_right (by omega), List.take_length, List.take_of_length_le (by omega)]
theorem cutD_from (ds : List PyData) (k : Nat) : cutD ds (some (k : Int)) none = ds.drop k := by
  unfold cutD
  rw [HT.sIx_nat, HT.sIx_none]
  by_cases h : k ≤ ds.length
  · rw [Nat.min_eq_left h, ← List.length_drop]
    exact List.take_length
  · have h2 : ds.length ≤ k := by omega
    rw [Nat.min_eq_right h2, List.drop_of_length_le h2, List.drop_of_length_le (Nat.le_refl _)]
    exact List.take_nil
/-- list(..) of a list or a tuple -/
theorem gv_list {G1 : PyData → Prop} (ha : Gv K E ta σ H G1) (hg : ∀ d, G1 d → ∃ ds, (d = .list ds ∨ d = .tuple ds) ∧ G (.list ds)) : Gv K E (tCB (rListK K) (tCons ta tNil)) σ H G := fun H1 r Q q => ha H1 r _ fun x d H2 r2 hd g1 => by
  obtain ⟨ds, e, g2⟩ := hg d g1
  rcases e with rfl | rfl
  · cases hd with
    | lst n h t => exact ⟨_, _, rfl, .inl (SqL.of h), fun l nl => q _ _ _ (r2.new nl) (Da.newL r2.2.2 nl t) g2⟩
  · cases hd with
    | tup n h t => exact ⟨_, _, rfl, .inr (SqT.of h), fun l nl => q _ _ _ (r2.new nl) (Da.newL r2.2.2 nl t) g2⟩
theorem gv_len {ds : List PyData} (ha : Gv K E ta σ H (fun d => d = .list ds ∨ d = .tuple ds)) : Gv K E (tCB (rLenK K) (tCons ta tNil)) σ H (· = .int ds.length) := fun H1 r Q q => ha H1 r _ fun x d H2 r2 hd g => by
  rcases g with rfl | rfl
  · cases hd with
    | lst n h t => exact ⟨_, _, rfl, .inl (SqL.of h), by rw [t.len]; exact q _ _ _ r2 (.int _) rfl⟩
  · cases hd with
    | tup n h t => exact ⟨_, _, rfl, .inr (SqT.of h), by rw [t.len]; exact q _ _ _ r2 (.int _) rfl⟩
end
/-! ### a new list, by its place -/
def GvN (K : PySem.W.Frag) (E : En) (te : TE) (σ : L2.St) (H : Hp) (G : List PyData → Prop) : Prop := ∀ H1, E.R H H1 → ∀ Q : VK, (∀ q xs ds H2, E.R H1 H2 → H2 q = none → DaAll K E.av H2 xs ds → G ds → Q (.ref q) (upd H2 q (.lst xs))) → te σ H1 Q
section
variable {K : PySem.W.Frag} {E : En} {H : Hp} {σ : L2.St} {ta tb : TE} {tA : TA}
theorem gn_lst {Gs : List PyData → Prop} (h : GvA K E tA σ H Gs) (l : ∀ ds, Gs ds → ds.length ≤ 1000) : GvN K E (tLst tA) σ H Gs := fun H1 r Q q =>
  h H1 r _ fun xs ds H2 r2 hds g => ⟨by rw [hds.len]; exact Nat.le_of_lt (small1000 (l ds g)), fun p np => q p xs ds H2 r2 np hds g⟩
theorem gn_cat {A B : List PyData → Prop} (ha : Gv K E ta σ H (fun d => ∃ ds, d = .list ds ∧ A ds)) (hb : Gv K E tb σ H (fun d => ∃ ds, d = .list ds ∧ B ds)) (l : ∀ ds es, A ds → B es → ds.length + es.length ≤ 1000) : GvN K E (tOp rCat ta tb) σ H (fun z => ∃ ds es, z = ds ++ es ∧ A ds ∧ B es) := fun H1 r Q q =>
  ha H1 r _ fun x d H2 r2 hd g1 => hb H2 (r.tr r2) _ fun y e H3 r3 he g2 => by
    obtain ⟨ds, rfl, g1⟩ := g1
    obtain ⟨es, rfl, g2⟩ := g2
    have hd := hd.r r3
    cases hd with
    | lst n h t =>
      cases he with
      | lst n2 h2 t2 => exact ⟨_, _, _, _, rfl, rfl, h, h2, by rw [t.len, t2.len]; exact Nat.le_of_lt (small1000 (l ds es g1 g2)), fun p np => q p _ _ H3 (r2.tr r3) np (t.app t2) ⟨ds, es, rfl, g1, g2⟩⟩
theorem gs_asgN {i : Nat} {te : TE} {tz : TS} {D : Ends} {G : List PyData → Prop} (h : GvN K E te σ H G) (hi : E.I H) (k : ∀ q xs ds H1, E.R H H1 → H1 q = none → DaAll K E.av H1 xs ds → G ds → tz D (σ.set i (some (.ref q))) (upd H1 q (.lst xs))) : tSeq (tAsg te (gName i)) tz D σ H :=
  h H (En.rf hi) _ fun q xs ds H1 r n hd g => k q xs ds H1 r n hd g
end
/-! ### statements -/
section
variable {K : PySem.W.Frag} {E : En} {H : Hp} {σ : L2.St} {te : TE} {t : TT} {tz tu tw : TS} {D : Ends} {G : PyData → Prop}
theorem gs_asg {i : Nat} (h : Gv K E te σ H G) (hi : E.I H) (k : ∀ x d H1, E.R H H1 → Da K E.av H1 x d → G d → tz D (σ.set i (some x)) H1) : tSeq (tAsg te (gName i)) tz D σ H := h H (En.rf hi) _ fun x d H1 r hd g => k x d H1 r hd g
theorem gs_ret (h : Gv K E te σ H G) (hi : E.I H) (k : ∀ x d H1, E.R H H1 → Da K E.av H1 x d → G d → D.rt x H1) : tRet te D σ H := h H (En.rf hi) _ fun x d H1 r hd g => k x d H1 r hd g
end
theorem gcons {K : PySem.W.Frag} {E : En} {H : Hp} {σ : L2.St} {te : TE} {tA : TA} {G : PyData → Prop} {Gs : List PyData → Prop} {G' : List PyData → Prop} (h : Gv K E te σ H G) (t : GvA K E tA σ H Gs) (k : ∀ d r, G d → Gs r → G' (d :: r)) : GvA K E (tCons te tA) σ H G' := fun H1 r Q q =>
  h H1 r _ fun x d H2 r2 hd g => t H2 (r.tr r2) _ fun xs ds H3 r3 hds gs => q _ _ H3 (r2.tr r3) (.cons (hd.r r3) hds) (k d ds g gs)
theorem ga_all0 {K : PySem.W.Frag} {E : En} {H : Hp} {σ : L2.St} {G : PyData → Prop} : GvA K E tNil σ H (fun l => l.length = 0 ∧ ∀ d ∈ l, G d) := fun H1 r Q q => q [] [] H1 r.rfl .nil ⟨rfl, fun d h => nomatch h⟩
theorem ga_all {K : PySem.W.Frag} {E : En} {H : Hp} {σ : L2.St} {te : TE} {tA : TA} {n : Nat} {G : PyData → Prop} (h : Gv K E te σ H G) (t : GvA K E tA σ H (fun l => l.length = n ∧ ∀ d ∈ l, G d)) : GvA K E (tCons te tA) σ H (fun l => l.length = n + 1 ∧ ∀ d ∈ l, G d) :=
  gcons h t fun d r g gs => ⟨congrArg (· + 1) gs.1, fun e he => by
    rcases List.mem_cons.mp he with rfl | he
    · exact g
    · exact gs.2 e he⟩
theorem gv_eqI {K : PySem.W.Frag} {E : En} {H : Hp} {σ : L2.St} {ta tb : TE} {G1 : Int → Prop} {j : Int} (ha : Gv K E ta σ H (fun d => ∃ i, d = .int i ∧ G1 i)) (hb : Gv K E tb σ H (· = .int j)) : Gv K E (tOp rEq ta tb) σ H (fun d => ∃ i, d = .bool (decide (V.int i = V.int j)) ∧ G1 i) :=
  gv_op (G2 := fun _ => (· = .int j)) ha (fun _ _ => hb) fun x y d e H1 Q r hd he g1 g2 q => by
    obtain ⟨i, rfl, g1⟩ := g1
    subst g2
    cases hd
    cases he
    exact ⟨rfl, q _ _ H1 r.rfl (.bl _) ⟨i, rfl, g1⟩⟩
/-- a word and one thing -/
theorem gv_pair {K : PySem.W.Frag} {E : En} {H : Hp} {σ : L2.St} {te : TE} {w : Str} {G : PyData → Prop} (h : Gv K E te σ H G) : Gv K E (tTup (tCons (tC (.str w)) (tCons te tNil))) σ H (fun d => ∃ e, d = .tuple [.str w, e] ∧ G e) :=
  (gv_tup (Gs := fun l => ∃ e, l = [.str w, e] ∧ G e) (gcons gv_str (gcons (Gs := (· = [])) (G' := fun l => ∃ e, l = [e] ∧ G e) h ga_nil fun d r g e => ⟨d, by rw [e], g⟩) fun d r g ⟨e, h1, h2⟩ => ⟨e, by rw [g, h1], h2⟩) fun ds ⟨e, h1, _⟩ => by rw [h1]; show 2 ≤ 1000; decide).imp fun d ⟨ds, h1, e, h2, h3⟩ => ⟨e, by rw [h1, h2], h3⟩
theorem gv_catA {K : PySem.W.Frag} {E : En} {H : Hp} {σ : L2.St} {ta tb : TE} {A B : List PyData → Prop} (ha : Gv K E ta σ H (fun d => ∃ ds, d = .list ds ∧ A ds)) (hb : Gv K E tb σ H (fun d => ∃ ds, d = .list ds ∧ B ds)) (l : ∀ ds es, A ds → B es → ds.length + es.length ≤ 1000) : Gv K E (tOp rCat ta tb) σ H (fun d => ∃ ds es, d = .list (ds ++ es) ∧ A ds ∧ B es) :=
  gv_op (G2 := fun _ d => ∃ ds, d = .list ds ∧ B ds) ha (fun _ _ => hb) fun x y d e H1 Q r hd he g1 g2 q => by
    obtain ⟨ds, rfl, g1⟩ := g1
    obtain ⟨es, rfl, g2⟩ := g2
    cases hd with
    | lst n h t =>
      cases he with
      | lst n2 h2 t2 => exact ⟨_, _, _, _, rfl, rfl, h, h2, by rw [t.len, t2.len]; exact Nat.le_of_lt (small1000 (l ds es g1 g2)), fun p np => q _ _ _ (r.rfl.new np) (Da.newL r.2.2 np (t.app t2)) ⟨ds, es, rfl, g1, g2⟩⟩
end Kin
/-! sorts of drawn data, and what gives which sort -/
namespace Kin
open PySem PySem.Spec PyProof.Rows L2 RZ
inductive Ty
  | non | bool | nv
  | int (l h : Int)
  | lit (s : Str)
  | name
  | str (n : Nat)
  | low (m n : Nat)
  | tup (ts : List Ty)
  | lst (t : Ty) (m n : Nat)
  | tps (t : Ty) (m n : Nat)
  | or (a b : Ty)
def goodSign (c : Nat) : Bool := (decide (32 ≤ c) && decide (c ≤ 126)) || (decide (c = 9) || decide (c = 10))
def strB' (n : Nat) (z : Str) : Bool := decide (z.length ≤ n) && z.cps.toList.all goodSign
def nameB' (z : Str) : Bool := decide (1 ≤ z.length) && (decide (z.length ≤ 8) && z.cps.toList.all fun c => decide (97 ≤ c) && decide (c ≤ 122))
/-- small letters, m to n of them -/
def lowB (m n : Nat) (z : Str) : Bool := decide (m ≤ z.length) && (decide (z.length ≤ n) && z.cps.toList.all fun c => decide (97 ≤ c) && decide (c ≤ 122))
mutual
def Ty.has : Ty → PyData → Prop
  | .non, d => d = .none
  | .bool, d => ∃ b, d = .bool b
  | .nv, _ => False
  | .int l h, d => ∃ i, d = .int i ∧ l ≤ i ∧ i ≤ h
  | .lit s, d => d = .str s
  | .name, d => ∃ z, d = .str z ∧ nameB' z = true
  | .str n, d => ∃ z, d = .str z ∧ strB' n z = true
  | .low m n, d => ∃ z, d = .str z ∧ lowB m n z = true
  | .tup ts, d => ∃ ds, d = .tuple ds ∧ Ty.hasAll ts ds
  | .lst t m n, d => ∃ ds, d = .list ds ∧ m ≤ ds.length ∧ ds.length ≤ n ∧ ∀ e ∈ ds, t.has e
  | .tps t m n, d => ∃ ds, d = .tuple ds ∧ m ≤ ds.length ∧ ds.length ≤ n ∧ ∀ e ∈ ds, t.has e
  | .or a b, d => a.has d ∨ b.has d
def Ty.hasAll : List Ty → List PyData → Prop
  | [], [] => True
  | t :: ts, d :: ds => t.has d ∧ Ty.hasAll ts ds
  | _, _ => False
end
theorem hasAll_len : ∀ {ts : List Ty} {ds : List PyData}, Ty.hasAll ts ds → ts.length = ds.length
  | [], [], _ => rfl
  | _ :: _, _ :: _, h => congrArg (· + 1) (hasAll_len h.2)
theorem hasAll_get : ∀ {ts : List Ty} {ds : List PyData} {i : Nat} {t : Ty}, Ty.hasAll ts ds → ts[i]? = some t → ∃ d, ds[i]? = some d ∧ t.has d
  | _ :: _, _ :: _, 0, _, h, e => by cases e; exact ⟨_, rfl, h.1⟩
  | _ :: _, _ :: _, i + 1, _, h, e => hasAll_get (i := i) h.2 e
/-! ### one sort within another -/
mutual
def sub : Nat → Ty → Ty → Bool
  | 0, _, _ => false
  | k + 1, .or a b, t => sub k a t && sub k b t
  | k + 1, .nv, _ => true
  | k + 1, s, .or a b => sub k s a || sub k s b
  | _ + 1, .non, .non => true
  | _ + 1, .bool, .bool => true
  | _ + 1, .int l h, .int l' h' => decide (l' ≤ l) && decide (h ≤ h')
  | _ + 1, .lit s, .lit s' => decide (s = s')
  | _ + 1, .lit s, .str n => strB' n s
  | _ + 1, .lit s, .name => nameB' s
  | _ + 1, .name, .name => true
  | _ + 1, .name, .str n => decide (8 ≤ n)
  | _ + 1, .str m, .str n => decide (m ≤ n)
  | _ + 1, .low m n, .low m' n' => decide (m' ≤ m) && decide (n ≤ n')
  | _ + 1, .low m n, .name => decide (1 ≤ m) && decide (n ≤ 8)
  | _ + 1, .low _ n, .str k => decide (n ≤ k)
  | _ + 1, .lit s, .low m n => lowB m n s
  | k + 1, .tup ts, .tup us => subAll k ts us
  | k + 1, .tup ts, .tps u m n => decide (m ≤ ts.length) && (decide (ts.length ≤ n) && subOne k ts u)
  | k + 1, .lst t m n, .lst u m' n' => decide (m' ≤ m) && (decide (n ≤ n') && (decide (n = 0) || sub k t u))
  | k + 1, .tps t m n, .tps u m' n' => decide (m' ≤ m) && (decide (n ≤ n') && (decide (n = 0) || sub k t u))
  | _ + 1, _, _ => false
def subAll : Nat → List Ty → List Ty → Bool
  | 0, _, _ => false
  | _ + 1, [], [] => true
  | k + 1, t :: ts, u :: us => sub k t u && subAll k ts us
  | _ + 1, _, _ => false
def subOne : Nat → List Ty → Ty → Bool
  | 0, _, _ => false
  | _ + 1, [], _ => true
  | k + 1, t :: ts, u => sub k t u && subOne k ts u
end
theorem name_str {z : Str} {n : Nat} (h : nameB' z = true) (hn : 8 ≤ n) : strB' n z = true := by
  unfold nameB' at h
  unfold strB'
  rw [Bool.and_eq_true, Bool.and_eq_true, List.all_eq_true] at h
  rw [Bool.and_eq_true, List.all_eq_true]
  refine ⟨decide_eq_true (Nat.le_trans (of_decide_eq_true h.2.1) hn), fun c hc => ?_⟩
  have := h.2.2 c hc
  rw [Bool.and_eq_true] at this
  have h1 := of_decide_eq_true this.1
  have h2 := of_decide_eq_true this.2
  unfold goodSign
  rw [decide_eq_true (show 32 ≤ c by omega), decide_eq_true (show c ≤ 126 by omega)]
  rfl
theorem str_str {z : Str} {m n : Nat} (h : strB' m z = true) (hn : m ≤ n) : strB' n z = true := by
  unfold strB' at h ⊢
  rw [Bool.and_eq_true] at h ⊢
  exact ⟨decide_eq_true (Nat.le_trans (of_decide_eq_true h.1) hn), h.2⟩
theorem low_low {z : Str} {m n m' n' : Nat} (h : lowB m n z = true) (h1 : m' ≤ m) (h2 : n ≤ n') : lowB m' n' z = true := by
  unfold lowB at h ⊢
  rw [Bool.and_eq_true, Bool.and_eq_true] at h ⊢
  exact ⟨decide_eq_true (Nat.le_trans h1 (of_decide_eq_true h.1)), decide_eq_true (Nat.le_trans (of_decide_eq_true h.2.1) h2), h.2.2⟩
theorem low_name {z : Str} {m n : Nat} (h : lowB m n z = true) (h1 : 1 ≤ m) (h2 : n ≤ 8) : nameB' z = true := low_low h h1 h2
theorem low_str {z : Str} {m n k : Nat} (h : lowB m n z = true) (h2 : n ≤ k) : strB' k z = true := by
  unfold lowB at h
  unfold strB'
  rw [Bool.and_eq_true, Bool.and_eq_true, List.all_eq_true] at h
  rw [Bool.and_eq_true, List.all_eq_true]
  refine ⟨decide_eq_true (Nat.le_trans (of_decide_eq_true h.2.1) h2), fun c hc => ?_⟩
  have := h.2.2 c hc
  rw [Bool.and_eq_true] at this
  have h1 := of_decide_eq_true this.1
  have h2 := of_decide_eq_true this.2
  unfold goodSign
  rw [decide_eq_true (show 32 ≤ c by omega), decide_eq_true (show c ≤ 126 by omega)]
  rfl
theorem sub_ok : ∀ k : Nat, (∀ a b d, sub k a b = true → a.has d → b.has d) ∧ (∀ ts us ds, subAll k ts us = true → Ty.hasAll ts ds → Ty.hasAll us ds) ∧ (∀ ts u ds, subOne k ts u = true → Ty.hasAll ts ds → ∀ e ∈ ds, u.has e) := by
  intro k
  induction k with
  | zero => exact ⟨fun a b d h => by simp [sub] at h, fun a b d h => by simp [subAll] at h, fun a b d h => by simp [subOne] at h⟩
  | succ k ih =>
    obtain ⟨i1, i2, i3⟩ := ih
    refine ⟨fun a b d h ha => ?_, fun ts us ds h hd => ?_, fun ts u ds h hd => ?_⟩
    · cases a with
      | or x y =>
        simp only [sub, Bool.and_eq_true] at h
        simp only [Ty.has] at ha
        exact ha.elim (i1 x b d h.1) (i1 y b d h.2)
      | nv => exact ha.elim
      | _ =>
        cases b with
        | or x y =>
          simp only [sub, Bool.or_eq_true] at h
          simp only [Ty.has]
          exact h.elim (fun h => .inl (i1 _ _ d h ha)) fun h => .inr (i1 _ _ d h ha)
        | _ =>
          first
            | (simp [sub] at h; done)
            | exact ha
            | (simp only [sub, Bool.and_eq_true, decide_eq_true_eq] at h
               simp only [Ty.has] at ha ⊢
               first
                 | (obtain ⟨i, e, h1, h2⟩ := ha; exact ⟨i, e, Int.le_trans h.1 h1, Int.le_trans h2 h.2⟩)
                 | (rw [← h]; exact ha)
                 | exact ⟨_, ha, h⟩
                 | (obtain ⟨z, e, h1⟩ := ha; exact ⟨z, e, name_str h1 h⟩)
                 | (obtain ⟨z, e, h1⟩ := ha; exact ⟨z, e, str_str h1 h⟩)
                 | (obtain ⟨z, e, h1⟩ := ha; exact ⟨z, e, low_low h1 h.1 h.2⟩)
                 | (obtain ⟨z, e, h1⟩ := ha; exact ⟨z, e, low_name h1 h.1 h.2⟩)
                 | (obtain ⟨z, e, h1⟩ := ha; exact ⟨z, e, low_str h1 h⟩)
                 | (obtain ⟨ds, e, h1⟩ := ha; exact ⟨ds, e, i2 _ _ _ h h1⟩)
                 | (obtain ⟨ds, e, h1⟩ := ha
                    have l := hasAll_len h1
                    exact ⟨ds, e, by omega, by omega, i3 _ _ _ h.2.2 h1⟩)
                 | (obtain ⟨ds, e, h1, h2, h3⟩ := ha
                    refine ⟨ds, e, Nat.le_trans h.1 h1, Nat.le_trans h2 h.2.1, fun x hx => ?_⟩
                    have h4 := h.2.2
                    rw [Bool.or_eq_true, decide_eq_true_eq] at h4
                    rcases h4 with h4 | h4
                    · have := List.length_pos_of_mem hx
                      omega
                    · exact i1 _ _ x h4 (h3 x hx)))
    · match ts, us, ds, h, hd with
      | [], [], [], _, _ => trivial
      | t :: ts, u :: us, d :: ds, h, hd =>
        simp only [subAll, Bool.and_eq_true] at h
        exact ⟨i1 t u d h.1 hd.1, i2 ts us ds h.2 hd.2⟩
    · match ts, ds, h, hd with
      | [], [], _, _ => intro e he; cases he
      | t :: ts, d :: ds, h, hd =>
        simp only [subOne, Bool.and_eq_true] at h
        intro e he
        rcases List.mem_cons.mp he with rfl | he
        · exact i1 t u _ h.1 hd.1
        · exact i3 ts u ds h.2 hd.2 e he
theorem Ty.sub {a b : Ty} {d : PyData} (k : Nat) (h : Kin.sub k a b = true) (ha : a.has d) : b.has d := (sub_ok k).1 a b d h ha
end Kin
namespace Kin
open PySem PySem.Spec PyProof.Rows L2 RZ
theorem good_ok {x : Str} (h : x.cps.toList.all goodSign = true) : PyData.strOk x = true := by
  unfold PyData.strOk
  rw [← Array.all_toList, List.all_eq_true]
  rw [List.all_eq_true] at h
  intro c hc
  have := h c hc
  unfold goodSign at this
  rw [Bool.or_eq_true, Bool.and_eq_true, Bool.or_eq_true, decide_eq_true_eq, decide_eq_true_eq, decide_eq_true_eq, decide_eq_true_eq] at this
  exact decide_eq_true (by omega)
/-! ### data that a law draws -/
mutual
def fine : PyData → Bool
  | .none => true
  | .bool _ => true
  | .int i => decide (i.natAbs < 10 ^ 31)
  | .str x => decide (x.length ≤ 21) && x.cps.toList.all goodSign
  | .list ds => fineAll ds
  | .tuple ds => fineAll ds
  | .dict _ => false
def fineAll : List PyData → Bool
  | [] => true
  | d :: t => fine d && fineAll t
end
theorem fineAll_iff : ∀ {ds : List PyData}, fineAll ds = true ↔ ∀ d ∈ ds, fine d = true
  | [] => ⟨(fun _ _ h => nomatch h), fun _ => rfl⟩
  | d :: t => by
    show (fine d && fineAll t) = true ↔ _
    rw [Bool.and_eq_true, fineAll_iff (ds := t), List.forall_mem_cons]
mutual
theorem fine_lay : ∀ {d : PyData}, fine d = true → PyData.canLay0 d = true
  | .none, _ => rfl
  | .bool _, _ => rfl
  | .int _, _ => rfl
  | .str x, h => by
    have h : (decide (x.length ≤ 21) && x.cps.toList.all goodSign) = true := h
    rw [Bool.and_eq_true] at h
    exact good_ok h.2
  | .list ds, h => fineAll_lay (ds := ds) h
  | .tuple ds, h => fineAll_lay (ds := ds) h
theorem fineAll_lay : ∀ {ds : List PyData}, fineAll ds = true → PyData.canLayAll0 ds = true
  | [], _ => rfl
  | d :: t, h => by
    have h : (fine d && fineAll t) = true := h
    rw [Bool.and_eq_true] at h
    show (PyData.canLay0 d && PyData.canLayAll0 t) = true
    rw [fine_lay h.1, fineAll_lay h.2]
    rfl
end
theorem fine_log {i : Int} (h : i.natAbs < 10 ^ 31) : i.natAbs.log2 < 1920 := by
  by_cases z : i.natAbs = 0
  · rw [z]
    decide
  · rw [Nat.log2_lt z]
    exact Nat.lt_of_lt_of_le h (by decide)
mutual
theorem fine_showable : ∀ {d : PyData}, fine d = true → d.showable = true
  | .none, _ => rfl
  | .bool _, _ => rfl
  | .int i, h => decide_eq_true (fine_log (of_decide_eq_true h))
  | .str x, h => rfl
  | .list ds, h => fineAll_showable (ds := ds) h
  | .tuple ds, h => fineAll_showable (ds := ds) h
theorem fineAll_showable : ∀ {ds : List PyData}, fineAll ds = true → PyData.showableAll ds = true
  | [], _ => rfl
  | d :: t, h => by
    have h : (fine d && fineAll t) = true := h
    rw [Bool.and_eq_true] at h
    show (d.showable && PyData.showableAll t) = true
    rw [fine_showable h.1, fineAll_showable h.2]
    rfl
end
mutual
theorem fine_short : ∀ {d : PyData}, fine d = true → d.leavesShort 40 = true
  | .none, _ => rfl
  | .bool _, _ => rfl
  | .int i, h => decide_eq_true (by
    have e := int_text_length_le10 (a := i) (k := 31) (by decide) (of_decide_eq_true h)
    show (Str.ofString (toString i)).length ≤ 40
    rw [PySem.ofString_length]
    omega)
  | .str x, h => by
    have h : (decide (x.length ≤ 21) && x.cps.toList.all goodSign) = true := h
    rw [Bool.and_eq_true] at h
    have h1 := good_ok h.2
    unfold PyData.strOk at h1
    rw [← Array.all_toList, List.all_eq_true] at h1
    show x.cps.toList.all _ = true
    rw [List.all_eq_true]
    intro c hc
    have := of_decide_eq_true (h1 c hc)
    exact decide_eq_true (Nat.lt_of_lt_of_le this (by decide))
  | .list ds, h => fineAll_short (ds := ds) h
  | .tuple ds, h => fineAll_short (ds := ds) h
theorem fineAll_short : ∀ {ds : List PyData}, fineAll ds = true → PyData.leavesShortAll 40 ds = true
  | [], _ => rfl
  | d :: t, h => by
    have h : (fine d && fineAll t) = true := h
    rw [Bool.and_eq_true] at h
    show (d.leavesShort 40 && PyData.leavesShortAll 40 t) = true
    rw [fine_short h.1, fineAll_short h.2]
    rfl
end
/-- drawn data of some depth and bulk -/
structure Fi (a b : Nat) (d : PyData) : Prop where
  f : fine d = true
  dep : d.depth ≤ a
  blk : d.bulk ≤ b
theorem Fi.mono {a b a' b' : Nat} {d : PyData} (h : Fi a b d) (h1 : a ≤ a') (h2 : b ≤ b') : Fi a' b' d := ⟨h.f, Nat.le_trans h.dep h1, Nat.le_trans h.blk h2⟩
theorem Fi.shaped {a b : Nat} {d : PyData} (h : Fi a b d) (ha : a ≤ 60) : SeqAt.shaped d = true := by
  unfold SeqAt.shaped
  have := h.dep
  rw [fine_lay h.f, decide_eq_true (by omega)]
  rfl
theorem Fi.shown {a b : Nat} {d : PyData} (h : Fi a b d) (hb : b ≤ 10000) : d.shown.length ≤ sizeLine := by
  have e := PyData.shown_le_bulk 40 (by decide) d (fine_short h.f)
  have := h.blk
  rw [sizeLine_eq]
  omega
theorem bulkAll_app : ∀ xs ys : List PyData, PyData.bulkAll (xs ++ ys) = PyData.bulkAll xs + PyData.bulkAll ys
  | [], ys => (Nat.zero_add _).symm
  | x :: xs, ys => by
    show x.bulk + 1 + PyData.bulkAll (xs ++ ys) = x.bulk + 1 + PyData.bulkAll xs + PyData.bulkAll ys
    rw [bulkAll_app xs ys]
    omega
theorem bulkAll_part (xs : List PyData) (k : Nat) : PyData.bulkAll (xs.take k) + PyData.bulkAll (xs.drop k) = PyData.bulkAll xs := by
  rw [← bulkAll_app, List.take_append_drop]
theorem depthAll_le {n : Nat} : ∀ {xs : List PyData}, PyData.depthAll xs ≤ n ↔ ∀ x ∈ xs, x.depth ≤ n
  | [] => ⟨(fun _ _ h => nomatch h), fun _ => Nat.zero_le _⟩
  | x :: xs => by
    show max x.depth (PyData.depthAll xs) ≤ n ↔ _
    rw [Nat.max_le, depthAll_le (xs := xs), List.forall_mem_cons]
theorem len_bulk : ∀ xs : List PyData, xs.length ≤ PyData.bulkAll xs
  | [] => Nat.zero_le _
  | x :: xs => by
    have := len_bulk xs
    show xs.length + 1 ≤ x.bulk + 1 + PyData.bulkAll xs
    omega
/-! ### sorts that fit -/
mutual
def dep : Nat → Ty → Nat
  | 0, _ => 0
  | k + 1, .tup ts => depMax k ts + 1
  | k + 1, .lst t _ _ => dep k t + 1
  | k + 1, .tps t _ _ => dep k t + 1
  | k + 1, .or a b => max (dep k a) (dep k b)
  | _ + 1, _ => 0
def depMax : Nat → List Ty → Nat
  | 0, _ => 0
  | _ + 1, [] => 0
  | k + 1, t :: ts => max (dep k t) (depMax k ts)
end
mutual
def blk : Nat → Ty → Nat
  | 0, _ => 0
  | k + 1, .tup ts => blkSum k ts
  | k + 1, .lst t _ n => n * (blk k t + 1)
  | k + 1, .tps t _ n => n * (blk k t + 1)
  | k + 1, .or a b => max (blk k a) (blk k b)
  | _ + 1, .str n => n
  | _ + 1, .low _ n => n
  | _ + 1, .name => 8
  | _ + 1, .lit s => s.length
  | _ + 1, _ => 0
def blkSum : Nat → List Ty → Nat
  | 0, _ => 0
  | _ + 1, [] => 0
  | k + 1, t :: ts => blk k t + 1 + blkSum k ts
end
mutual
def okf : Nat → Ty → Bool
  | 0, _ => false
  | k + 1, .tup ts => okfAll k ts
  | k + 1, .lst t _ _ => okf k t
  | k + 1, .tps t _ _ => okf k t
  | k + 1, .or a b => okf k a && okf k b
  | _ + 1, .str n => decide (n ≤ 21)
  | _ + 1, .low _ n => decide (n ≤ 21)
  | _ + 1, .lit s => strB' 21 s
  | _ + 1, .int l h => decide (-(10 ^ 31) < l) && decide (h < 10 ^ 31)
  | _ + 1, _ => true
def okfAll : Nat → List Ty → Bool
  | 0, _ => false
  | _ + 1, [] => true
  | k + 1, t :: ts => okf k t && okfAll k ts
end
theorem bulkAll_le {b : Nat} : ∀ {ds : List PyData}, (∀ d ∈ ds, d.bulk ≤ b) → PyData.bulkAll ds ≤ ds.length * (b + 1)
  | [], _ => Nat.zero_le _
  | d :: ds, h => by
    have h1 := h d List.mem_cons_self
    have h2 := bulkAll_le (ds := ds) fun e he => h e (List.mem_cons_of_mem _ he)
    show d.bulk + 1 + PyData.bulkAll ds ≤ (ds.length + 1) * (b + 1)
    rw [Nat.add_mul, Nat.one_mul]
    omega
theorem fit_ok : ∀ k : Nat, (∀ T d, okf k T = true → T.has d → Fi (dep k T) (blk k T) d) ∧ (∀ Ts ds, okfAll k Ts = true → Ty.hasAll Ts ds → fineAll ds = true ∧ PyData.depthAll ds ≤ depMax k Ts ∧ PyData.bulkAll ds ≤ blkSum k Ts) := by
  intro k
  induction k with
  | zero => exact ⟨fun T d h => by simp [okf] at h, fun T d h => by simp [okfAll] at h⟩
  | succ k ih =>
    obtain ⟨i1, i2⟩ := ih
    refine ⟨fun T d h hd => ?_, fun Ts ds h hd => ?_⟩
    · cases T with
      | non => rw [show d = .none from hd]; exact ⟨rfl, Nat.le_refl _, Nat.le_refl _⟩
      | bool => obtain ⟨b, rfl⟩ := hd; exact ⟨rfl, Nat.le_refl _, Nat.le_refl _⟩
      | nv => exact hd.elim
      | int l h' =>
        obtain ⟨i, rfl, h1, h2⟩ := hd
        simp only [okf, Bool.and_eq_true, decide_eq_true_eq] at h
        refine ⟨decide_eq_true ?_, Nat.le_refl _, Nat.le_refl _⟩
        have e1 : (10 : Int) ^ 31 = 10000000000000000000000000000000 := by decide +kernel
        have e2 : (10 : Nat) ^ 31 = 10000000000000000000000000000000 := by decide +kernel
        rw [e1] at h
        rw [e2]
        omega
      | lit s =>
        rw [show d = .str s from hd]
        simp only [okf] at h
        exact ⟨h, Nat.le_refl _, Nat.le_refl _⟩
      | name =>
        obtain ⟨z, rfl, h1⟩ := hd
        have h2 := name_str h1 (show 8 ≤ 21 by decide)
        refine ⟨h2, Nat.le_refl _, ?_⟩
        have h3 := name_str h1 (Nat.le_refl 8)
        unfold strB' at h3
        rw [Bool.and_eq_true] at h3
        exact of_decide_eq_true h3.1
      | str n =>
        obtain ⟨z, rfl, h1⟩ := hd
        simp only [okf, decide_eq_true_eq] at h
        have h2 := str_str h1 h
        refine ⟨h2, Nat.le_refl _, ?_⟩
        unfold strB' at h1
        rw [Bool.and_eq_true] at h1
        exact of_decide_eq_true h1.1
      | low m n =>
        obtain ⟨z, rfl, h1⟩ := hd
        simp only [okf, decide_eq_true_eq] at h
        replace h1 := low_str h1 (Nat.le_refl n)
        have h2 := str_str h1 h
        refine ⟨h2, Nat.le_refl _, ?_⟩
        unfold strB' at h1
        rw [Bool.and_eq_true] at h1
        exact of_decide_eq_true h1.1
      | tup ts =>
        obtain ⟨ds, rfl, h1⟩ := hd
        simp only [okf] at h
        obtain ⟨g1, g2, g3⟩ := i2 ts ds h h1
        exact ⟨g1, Nat.succ_le_succ g2, g3⟩
      | lst t m n =>
        obtain ⟨ds, rfl, h1, h2, h3⟩ := hd
        simp only [okf] at h
        refine ⟨fineAll_iff.mpr fun e he => (i1 t e h (h3 e he)).f, Nat.succ_le_succ (depthAll_le.mpr fun e he => (i1 t e h (h3 e he)).dep), ?_⟩
        exact Nat.le_trans (bulkAll_le fun e he => (i1 t e h (h3 e he)).blk) (Nat.mul_le_mul_right _ h2)
      | tps t m n =>
        obtain ⟨ds, rfl, h1, h2, h3⟩ := hd
        simp only [okf] at h
        refine ⟨fineAll_iff.mpr fun e he => (i1 t e h (h3 e he)).f, Nat.succ_le_succ (depthAll_le.mpr fun e he => (i1 t e h (h3 e he)).dep), ?_⟩
        exact Nat.le_trans (bulkAll_le fun e he => (i1 t e h (h3 e he)).blk) (Nat.mul_le_mul_right _ h2)
      | or a b =>
        simp only [okf, Bool.and_eq_true] at h
        rcases hd with hd | hd
        · exact (i1 a d h.1 hd).mono (Nat.le_max_left _ _) (Nat.le_max_left _ _)
        · exact (i1 b d h.2 hd).mono (Nat.le_max_right _ _) (Nat.le_max_right _ _)
    · match Ts, ds, h, hd with
      | [], [], _, _ => exact ⟨rfl, Nat.zero_le _, Nat.zero_le _⟩
      | t :: ts, d :: ds, h, hd =>
        simp only [okfAll, Bool.and_eq_true] at h
        have g := i1 t d h.1 hd.1
        obtain ⟨g1, g2, g3⟩ := i2 ts ds h.2 hd.2
        refine ⟨?_, ?_, ?_⟩
        · show (fine d && fineAll ds) = true
          rw [g.f, g1]
          rfl
        · exact Nat.max_le.mpr ⟨Nat.le_trans g.dep (Nat.le_max_left _ _), Nat.le_trans g2 (Nat.le_max_right _ _)⟩
        · have := g.blk
          show d.bulk + 1 + PyData.bulkAll ds ≤ blk k t + 1 + blkSum k ts
          omega
theorem Ty.fi {T : Ty} {d : PyData} (k : Nat) (h : okf k T = true) (hd : T.has d) : Fi (dep k T) (Kin.blk k T) d := (fit_ok k).1 T d h hd
theorem Ty.shaped {T : Ty} {d : PyData} (k : Nat) (h : (okf k T && decide (dep k T ≤ 60)) = true) (hd : T.has d) : SeqAt.shaped d = true := by
  rw [Bool.and_eq_true] at h
  exact (Ty.fi k h.1 hd).shaped (of_decide_eq_true h.2)
end Kin
namespace Kin
open PySem PySem.Spec PyProof.Rows L2 RZ
def topS (i : Nat) : Stmt := PySem.Challenge.pw_swiftkin_k06_refusals.main.body.getD i (.Pass ⟨0, 0, 0, 0⟩)
section
variable {P : Program} {w : World} {K : PySem.W.Frag} {mg : Str → Option Value} {base : Heap}
/-! _law_blend -/
abbrev s_law_blend : Stmt := topS 19
theorem sc_law_blend : FnScope ["cell", "at", "one", "two", "three"] ["cell", "at"] (defScope s_law_blend) := ⟨rfl, rfl, rfl, by decide +kernel, rfl, by decide +kernel, by decide +kernel⟩
def sp_law_blend : Sp := fun vs H Q _ => ∃ cell at' : Int, vs = [.int cell, .int at'] ∧ 0 ≤ at' ∧ ∀ r : Int, 0 ≤ r → Q (.int r) H
theorem ok_law_blend (F : Def K mg "_law_blend" ["cell", "at"] s_law_blend) : Cl P w K mg base 1 "_law_blend" sp_law_blend := by
  refine F.cl sc_law_blend (fun vs H Q E h => ?_) (fun f cdv A outer s H vs Q E hr h => ?_)
  · obtain ⟨x, y, rfl, _⟩ := h
    rfl
  obtain ⟨cell, at', rfl, h0, q⟩ := h
  have nd := sc_law_blend.nd
  refine ⟨_, (pss_cons (ps_if (pt_cmpR op_ge (pv 0) (pe_op op_pow pe_int pe_int) (by rfl)) (pss_one (ps_ret (pv 0))) pss_nil)
    (pss_cons (ps_set (i := 2) nd rfl (Or.inl rfl) (pe_op op_mod (pe_op op_add (pe_op op_add (pe_op op_mul (pe_op op_mod (pv 0) pe_int) pe_int) (pe_op op_mul (pv 1) pe_int)) pe_int) pe_int))
    (pss_cons (ps_set (i := 3) nd rfl (Or.inl rfl) (pe_op op_mod (pe_op op_add (pe_op op_add (pe_op op_mul (pv 2) (pv 2)) (pe_op op_mul (pv 1) pe_int)) (pe_op op_mod (pv 0) pe_int)) pe_int))
    (pss_cons (ps_set (i := 4) nd rfl (Or.inl rfl) (pe_op op_mod (pe_op op_add (pe_op op_add (pe_op op_mul (pv 3) (pv 3)) (pe_op op_mul (pv 2) pe_int)) pe_int) pe_int))
    (pss_one (ps_ret (pe_op op_add (pe_op op_mul (pe_op op_add (pe_op op_mul (pv 2) pe_int) (pv 3)) pe_int) (pv 4)))))))), ?_⟩
  refine ⟨_, rfl, _, _, rfl, rfl, ⟨by decide, by decide, by decide⟩, _, _, rfl, rfl, _, rfl, ite2 (fun c => ?_) (fun c => ?_)⟩
  · exact ⟨_, rfl, q _ (by
      have e : (10 : Int) ^ Int.toNat 18 = 1000000000000000000 := by decide
      have := of_decide_eq_true c
      omega)⟩
  · have a1 : 0 ≤ cell % 998244353 := Int.emod_nonneg _ (by decide)
    have a2 : cell % 998244353 < 998244353 := Int.emod_lt_of_pos _ (by decide)
    refine ⟨_, rfl, _, _, rfl, rfl, (by show (0 : Int) < 998244353; decide), _, _, rfl, rfl, .inl ⟨by omega, by omega⟩, _, rfl, _, _, rfl, rfl, .inr ⟨by decide, by decide⟩, _, _, rfl, rfl, _, _, rfl, rfl, _, _, rfl, rfl, (by show (0 : Int) < 2147483399; decide), ?_⟩
    generalize hone : (cell % 998244353 * 40692 + at' * 69621 + 1009) % 2147483399 = one
    have b1 : 0 ≤ one := by rw [← hone]; exact Int.emod_nonneg _ (by decide)
    have b2 : one < 2147483399 := by rw [← hone]; exact Int.emod_lt_of_pos _ (by decide)
    refine ⟨_, rfl, _, rfl, _, _, rfl, rfl, .inl ⟨by omega, by omega⟩, _, rfl, _, _, rfl, rfl, .inr ⟨by decide, by decide⟩, _, _, rfl, rfl, _, rfl, _, _, rfl, rfl, (by show (0 : Int) < 131071; decide), _, _, rfl, rfl, _, _, rfl, rfl, (by show (0 : Int) < 2147483647; decide), ?_⟩
    generalize htwo : (one * one + at' * 48271 + cell % 131071) % 2147483647 = two
    have c1 : 0 ≤ two := by rw [← htwo]; exact Int.emod_nonneg _ (by decide)
    have c2 : two < 2147483647 := by rw [← htwo]; exact Int.emod_lt_of_pos _ (by decide)
    refine ⟨_, rfl, _, rfl, _, _, rfl, rfl, .inl ⟨by omega, by omega⟩, _, rfl, _, _, rfl, rfl, .inl ⟨by omega, by omega⟩, _, _, rfl, rfl, _, _, rfl, rfl, _, _, rfl, rfl, (by show (0 : Int) < 2147483629; decide), ?_⟩
    generalize hthree : (two * two + one * 17 + 3) % 2147483629 = three
    have d1 : 0 ≤ three := by rw [← hthree]; exact Int.emod_nonneg _ (by decide)
    refine ⟨_, rfl, _, _, rfl, rfl, .inl ⟨by omega, by omega⟩, _, rfl, _, _, rfl, rfl, _, _, rfl, rfl, .inr ⟨by decide, by decide⟩, _, rfl, _, _, rfl, rfl, ?_⟩
    exact q _ (by omega)
/-! _law_pot -/
abbrev s_law_pot : Stmt := topS 20
theorem sc_law_pot : FnScope ["script", "cells", "k", "cell"] ["script"] (defScope s_law_pot) := ⟨rfl, rfl, rfl, by decide +kernel, rfl, by decide +kernel, by decide +kernel⟩
def sp_law_pot (K : PySem.W.Frag) : Sp := fun vs H Q _ => ∃ (a : Addr) (ns : List Int), vs = [.ref a] ∧ SqL K H a (ns.map V.int) ∧ ns.length ≤ 63 ∧ ∀ p c ms H', Same H H' → H p = none → H c = none → Pot H' p c ms → Q (.ref p) H'
theorem ok_law_pot (F : Def K mg "_law_pot" ["script"] s_law_pot) (m_list : mg "list" = none) (m_enumerate : mg "enumerate" = none) : Cl P w K mg base 1 "_law_pot" (sp_law_pot K) := by
  refine F.cl sc_law_pot (fun vs H Q E h => ?_) (fun f cdv A outer s H vs Q E hr h => ?_)
  · obtain ⟨x, y, rfl, _⟩ := h
    rfl
  obtain ⟨a, ns, rfl, hS, hl, q⟩ := h
  have nd := sc_law_pot.nd
  refine ⟨_, (pss_cons (ps_set (i := 1) nd rfl (Or.inl rfl) (pe_callTy (call_listK K) (by rfl) m_list (by decide +kernel) (pa_cons (pe_slice (sl_listK K) (pv 0) po_none (po_some pe_int)) pa_nil)))
    (pss_cons (ps_for PassesOwn.never rfl (pi_enumK K (by rfl) m_enumerate (pa_cons (pe_slice (sl_listK K) (pv 0) (po_some pe_int) (po_some pe_int)) pa_nil)) (pg_tupK K 2 rfl (pgs_cons (pg_name (i := 2) nd rfl (Or.inl rfl)) (pgs_cons (pg_name (i := 3) nd rfl (Or.inl rfl)) pgs_nil))) (pss_one (ps_asg (pe_op op_add (pe_ix (ix_listK K) (pv 1) (pe_op op_mod (pv 2) pe_int) (fun _ _ => rfl)) (pv 3)) (pg_sub (pv 1) (pe_op op_mod (pv 2) pe_int) set_list))))
    (pss_one (ps_ret (pe_lst (pa_cons (pv 1) (pa_cons pe_int (pa_cons pe_int pa_nil)))))))), ?_⟩
  have e1 : cutV (ns.map V.int) none (some 12) = (ns.take 12).map V.int := by rw [List.map_take]; exact cut_to _ 12
  have e2 : cutV (ns.map V.int) (some 12) (some 63) = (ns.drop 12).map V.int := by
    unfold cutV
    have q1 := HT.sIx_nat (ns.map V.int).length 0 12
    have q2 := HT.sIx_nat (ns.map V.int).length (ns.map V.int).length 63
    rw [show ((12 : Nat) : Int) = 12 from rfl] at q1
    rw [show ((63 : Nat) : Int) = 63 from rfl] at q2
    rw [q1, q2, List.length_map, Nat.min_eq_right hl, List.map_drop]
    by_cases h : 12 ≤ ns.length
    · rw [Nat.min_eq_left h]
      exact List.take_of_length_le (by rw [List.length_drop, List.length_map]; omega)
    · rw [Nat.min_eq_right (by omega), Nat.sub_self, List.take_zero]
      exact (List.drop_of_length_le (by rw [List.length_map]; omega)).symm
  generalize hms : ns.take 12 = ms at e1
  generalize hzs : ns.drop 12 = zs at e2
  have hlen : zs.length ≠ 0 → ms.length = 12 := fun h => by
    rw [← hzs, List.length_drop] at h
    rw [← hms, List.length_take]
    omega
  refine ⟨_, rfl, 12, rfl, a, _, rfl, hS, fun d nd => ?_⟩
  rw [e1]
  refine ⟨d, _, rfl, .inl (SqL.of upd_same), fun c nc => ?_⟩
  have g1 : Same H (upd (upd H d (.lst (ms.map V.int))) c (.lst (ms.map V.int))) := (same_new nd).trans (same_new nc)
  refine ⟨_, rfl, 12, rfl, 63, rfl, a, ns.map V.int, rfl, g1.seq hS, fun e ne => ?_⟩
  rw [e2]
  have nec : c ≠ e := fun q => by
    rw [← q, upd_same] at ne
    cases ne
  have ncH : H c = none := (same_new nd).free nc
  refine ⟨e, _, rfl, SqL.of upd_same, for_enum (xs := zs.map V.int) (fun i σ H' => ∃ (y2 y3 : Option V) (ks : List Int), σ = [some (.ref a), some (.ref c), y2, y3] ∧ Same H H' ∧ H' e = some (.lst (zs.map V.int)) ∧ H' c = some (.lst (ks.map V.int)) ∧ ks.length = ms.length) ?_ ?_ ?_ ?_⟩
  · refine ⟨none, none, ms, rfl, g1.trans (same_new ne), upd_same, ?_, rfl⟩
    rw [upd_ne nec, upd_same]
  · rintro i σ H' hi ⟨y2, y3, ks, rfl, sm, he, hc, hk⟩
    exact SqL.of he
  · rintro i x σ H' T hx ⟨y2, y3, ks, rfl, sm, he, hc, hk⟩ nT
    obtain ⟨z, hz, rfl⟩ : ∃ z, zs[i]? = some z ∧ x = .int z := by
      rw [List.getElem?_map] at hx
      cases e : zs[i]? with
      | none => rw [e] at hx; cases hx
      | some z => rw [e] at hx; exact ⟨z, rfl, (Option.some.inj hx).symm⟩
    have hi := (List.getElem?_eq_some_iff.mp hz).1
    have h12 : ks.length = 12 := hk.trans (hlen (by omega))
    have nTc : c ≠ T := ne_of_none hc nT
    have nTe : e ≠ T := ne_of_none he nT
    obtain ⟨j, hj, ej⟩ : ∃ j : Nat, j < ks.length ∧ (i : Int) % 12 = (j : Int) := ⟨((i : Int) % 12).toNat, by omega, by omega⟩
    have gj : (ks.map V.int)[j]? = some (.int ks[j]) := by rw [List.getElem?_map, List.getElem?_eq_getElem hj]; rfl
    refine ⟨T, _, rfl, SqT.of upd_same, rfl, _, _, rfl, _, _, rfl, rfl, ?_⟩
    refine ⟨_, rfl, _, rfl, _, _, rfl, rfl, (by show (0 : Int) < 12; decide), c, _, _, _, rfl, rfl, SqL.of (by rw [upd_ne nTc]; exact hc), at_of ej gj, _, rfl, _, _, rfl, rfl, ?_⟩
    refine ⟨_, rfl, _, rfl, _, _, rfl, rfl, (by show (0 : Int) < 12; decide), c, _, _, j, rfl, rfl, (by rw [upd_ne nTc]; exact hc), (by rw [ej]; exact Evl.ixN_nat (by rw [List.length_map]; exact hj)), ?_⟩
    refine ⟨some (.int i), some (.int z), ks.set j (ks[j] + z), rfl, same_mut (sm.trans (same_new nT)) ncH, ?_, ?_, by rw [List.length_set]; exact hk⟩
    · rw [upd_ne nec.symm, upd_ne nTe]
      exact he
    · rw [upd_same, List.map_set]
  · rintro σ H' ⟨y2, y3, ks, rfl, sm, he, hc, hk⟩
    refine ⟨_, rfl, (by show 3 ≤ sizeLine; decide), fun p np => ?_⟩
    exact q p c ks _ (sm.trans (same_new np)) (sm.free np) ncH ⟨0, 0, upd_same, by rw [upd_ne (ne_of_none hc np)]; exact hc, Int.le_refl 0, Int.le_refl 0⟩
/-! _law_pick -/
abbrev s_law_pick : Stmt := topS 21
theorem sc_law_pick : FnScope ["pot", "many", "at", "cell", "found"] ["pot", "many"] (defScope s_law_pick) := ⟨rfl, rfl, rfl, by decide +kernel, rfl, by decide +kernel, by decide +kernel⟩

def Mny (m : Int) : Prop := 0 < m ∧ m < 2 ^ 200
def sp_law_pick : Sp := fun vs H Q _ => ∃ (p c : Addr) (ns : List Int) (many : Int), vs = [.ref p, .int many] ∧ Pot H p c ns ∧ Mny many ∧ ∀ (r : Int) H', 0 ≤ r → r < many → Go p c ns H H' → Q (.int r) H'
theorem ok_law_pick (F : Def K mg "_law_pick" ["pot", "many"] s_law_pick) (m_len : mg "len" = none) (c_law_blend : Cl P w K mg base 1 "_law_blend" sp_law_blend) : Cl P w K mg base 2 "_law_pick" sp_law_pick := by
  refine F.cl sc_law_pick (fun vs H Q E h => ?_) (fun f cdv A outer s H vs Q E hr h => ?_)
  · obtain ⟨p, c, ns, m, rfl, _⟩ := h
    rfl
  obtain ⟨p, c, ns, m, rfl, hP, hm, q⟩ := h
  have nd := sc_law_pick.nd
  refine ⟨_, (pss_cut' (ps_if (pt_cmpR op_lt (pe_ix (ix_listK K) (pv 0) pe_int (fun _ _ => rfl)) (pv 1) (by rfl)) (pss_cons (ps_set (i := 2) nd rfl (Or.inl rfl) (pe_ix (ix_listK K) (pv 0) pe_int (fun _ _ => rfl)))
    (pss_cons (ps_set (i := 3) nd rfl (Or.inl rfl) (pe_op op_mul pe_int (pv 2)))
    (pss_cut' (ps_if (pt_cmpR op_lt (pv 2) (pe_callB (call_lenK K) (by rfl) m_len PySem.boot_len (pa_cons (pe_ix (ix_listK K) (pv 0) pe_int (fun _ _ => rfl)) pa_nil)) (by rfl)) (pss_one (ps_set (i := 3) nd rfl (Or.inl rfl) (pe_ix (ix_listK K) (pe_ix (ix_listK K) (pv 0) pe_int (fun _ _ => rfl)) (pv 2) (fun _ _ => rfl)))) (pss_one (ps_if (pt_cmpR (op_neK K hr.units) (pe_ix (ix_listK K) (pv 0) pe_int (fun _ _ => rfl)) (pe_lst pa_nil) (by rfl)) (pss_one (ps_set (i := 3) nd rfl (Or.inl rfl) (pe_op op_mod (pe_ix (ix_listK K) (pe_ix (ix_listK K) (pv 0) pe_int (fun _ _ => rfl)) (pe_op op_mod (pe_op op_add (pe_op op_mul (pv 2) pe_int) pe_int) (pe_callB (call_lenK K) (by rfl) m_len PySem.boot_len (pa_cons (pe_ix (ix_listK K) (pv 0) pe_int (fun _ _ => rfl)) pa_nil))) (fun _ _ => rfl)) (pe_op op_add (pe_op op_pow pe_int pe_int) (pe_op op_mul pe_int (pv 2)))))) pss_nil)))
    (pss_cons (ps_asg (pe_op op_add (pv 2) pe_int) (pg_sub (pv 0) pe_int set_list))
    (pss_one (ps_asg (pe_cl c_law_blend hr (by decide) (by rfl) (pa_cons (pv 3) (pa_cons (pv 2) pa_nil))) (pg_sub (pv 0) pe_int set_list))))))) pss_nil)
    (pss_cons (ps_set (i := 4) nd rfl (Or.inl rfl) (pe_op op_mod (pe_ix (ix_listK K) (pv 0) pe_int (fun _ _ => rfl)) (pv 1)))
    (pss_cons (ps_asg (pe_op op_fdivW (pe_ix (ix_listK K) (pv 0) pe_int (fun _ _ => rfl)) (pv 1)) (pg_sub (pv 0) pe_int set_list))
    (pss_one (ps_ret (pv 4)))))), ?_⟩
  obtain ⟨a, r, hp⟩ := id hP
  -- behind the first if: the pot's third is r, whatever it is
  refine ⟨fun σ H' => ∃ (y2 y3 : Option V), σ = [some (.ref p), some (.int m), y2, y3, none] ∧ Go p c ns H H', ?_, ?_⟩
  · refine ⟨_, rfl, p, _, _, _, rfl, rfl, SqL.of hp.hp, at_of (j := 2) rfl rfl, _, rfl, _, _, rfl, rfl, _, rfl, ite2 (fun e => ?_) (fun e => ?_)⟩
    · refine ⟨_, rfl, p, _, _, _, rfl, rfl, SqL.of hp.hp, at_of (j := 1) rfl rfl, _, rfl, _, _, rfl, rfl, .inl ⟨by decide, by decide⟩, ?_⟩
      -- cell, whatever it is
      refine ⟨fun σ H' => ∃ (z : Int), σ = [some (.ref p), some (.int m), some (.int a), some (.int z), none] ∧ Same H H', ?_, ?_⟩
      · refine ⟨_, rfl, _, rfl, p, _, _, _, rfl, rfl, SqL.of hp.hp, at_of (j := 0) rfl rfl, c, _, rfl, .inl (SqL.of hp.hc), _, _, rfl, rfl, _, rfl, ite2 (fun e2 => ?_) (fun e2 => ?_)⟩
        · have e3 := of_decide_eq_true e2
          rw [List.length_map] at e3
          have h0 := hp.ha
          obtain ⟨j, hj, ej⟩ : ∃ j : Nat, j < ns.length ∧ a = (j : Int) := ⟨a.toNat, by omega, by omega⟩
          refine ⟨_, rfl, p, _, _, _, rfl, rfl, SqL.of hp.hp, at_of (j := 0) rfl rfl, _, rfl, c, _, _, .int ns[j], rfl, rfl, SqL.of hp.hc, at_of ej (by rw [List.getElem?_map, List.getElem?_eq_getElem hj]; rfl), ?_⟩
          exact ⟨_, rfl, Same.refl H⟩
        · refine ⟨_, rfl, p, _, _, _, rfl, rfl, SqL.of hp.hp, at_of (j := 0) rfl rfl, (by show 0 ≤ sizeLine; decide), fun l nl => ?_⟩
          have sl : Same H (upd H l (.lst [])) := same_new nl
          refine ⟨.list (ns.map PyData.int), .list [], .lst (SqL.of (sl _ _ hp.hc)) (dp_ints ns), .lst (SqL.of upd_same) .nil, shaped_ints ns, by decide +kernel, _, rfl, ite2 (fun e3 => ?_) (fun e3 => ?_)⟩
          · have h0 := hp.ha
            have hne : ns ≠ [] := fun z => by
              rw [z] at e3
              exact absurd e3 (by decide)
            have hpos : 0 < ns.length := List.length_pos_iff.mpr hne
            have hp2 : PotAt (upd H l (.lst [])) p c ns a r := ⟨sl _ _ hp.hp, sl _ _ hp.hc, hp.ha, hp.hr⟩
            obtain ⟨j, hj, ej⟩ : ∃ j : Nat, j < ns.length ∧ (a * 7 + 1) % (((ns.map V.int).length : Nat) : Int) = (j : Int) := by
              rw [List.length_map]
              have g1 := Int.emod_nonneg (a * 7 + 1) (show ((ns.length : Nat) : Int) ≠ 0 by omega)
              have g2 := Int.emod_lt_of_pos (a * 7 + 1) (show (0 : Int) < ((ns.length : Nat) : Int) by omega)
              exact ⟨((a * 7 + 1) % (ns.length : Int)).toNat, by omega, by omega⟩
            refine ⟨_, rfl, p, _, _, _, rfl, rfl, SqL.of hp2.hp, at_of (j := 0) rfl rfl, _, rfl, _, _, rfl, rfl, .inr ⟨by decide, by decide⟩, _, _, rfl, rfl, ?_⟩
            refine ⟨_, rfl, p, _, _, _, rfl, rfl, SqL.of hp2.hp, at_of (j := 0) rfl rfl, c, _, rfl, .inl (SqL.of hp2.hc), _, _, rfl, rfl, (by show (0 : Int) < (((ns.map V.int).length : Nat) : Int); rw [List.length_map]; omega), ?_⟩
            refine ⟨c, _, _, .int ns[j], rfl, rfl, SqL.of hp2.hc, at_of ej (by rw [List.getElem?_map, List.getElem?_eq_getElem hj]; rfl), ?_⟩
            refine ⟨_, _, rfl, rfl, ⟨by decide, by decide, by decide⟩, _, rfl, _, _, rfl, rfl, .inl ⟨by decide, by decide⟩, _, _, rfl, rfl, _, _, rfl, rfl, ?_, ?_⟩
            · show (0 : Int) < 10 ^ Int.toNat 17 + 3 * a
              have e : (10 : Int) ^ Int.toNat 17 = 100000000000000000 := by decide
              omega
            · exact ⟨_, rfl, sl⟩
          · exact ⟨_, rfl, sl⟩
      · rintro σ H' ⟨z, rfl, sm⟩
        have hp' : PotAt H' p c ns a r := ⟨sm _ _ hp.hp, sm _ _ hp.hc, hp.ha, hp.hr⟩
        refine ⟨_, rfl, _, _, rfl, rfl, _, rfl, p, _, _, 1, rfl, rfl, hp'.hp, rfl, ?_⟩
        refine ⟨_, rfl, _, rfl, z, a, rfl, hp.ha, fun r2 h2 => ?_⟩
        refine ⟨_, rfl, p, _, _, 2, rfl, rfl, upd_same, rfl, ?_⟩
        rw [upd_upd]
        exact ⟨_, _, rfl, ((Go.refl hP).same sm).trans ⟨⟨a, r, hp'⟩, Fp.at, _, _, hp'.upd (by have := hp.ha; omega) h2⟩⟩
    · exact ⟨none, none, rfl, Go.refl hP⟩
  · rintro σ H' ⟨y2, y3, rfl, G⟩
    obtain ⟨a', r', hp'⟩ := id G.pot
    refine ⟨_, rfl, p, _, _, _, rfl, rfl, SqL.of hp'.hp, at_of (j := 2) rfl rfl, _, rfl, _, _, rfl, rfl, hm.1, ?_⟩
    refine ⟨_, rfl, p, _, _, _, rfl, rfl, SqL.of hp'.hp, at_of (j := 2) rfl rfl, _, rfl, _, _, rfl, rfl, wide_div (b := 200) hm.1 (by have := hm.1; have := hm.2; omega) (by decide) (by decide), ?_⟩
    refine ⟨_, rfl, p, _, _, 2, rfl, rfl, hp'.hp, rfl, ?_⟩
    exact ⟨_, rfl, q _ _ (Int.emod_nonneg _ (by have := hm.1; omega)) (Int.emod_lt_of_pos _ hm.1) (G.trans ⟨G.pot, Fp.at, _, _, hp'.upd hp'.ha (Int.ediv_nonneg hp'.hr (by have := hm.1; omega))⟩)⟩
end
end Kin
/-! the mathematics of the drawn names -/
namespace Kin
open PySem PySem.Spec PyProof.Rows L2 RZ
def mk (l : List Nat) : Str := ⟨l.toArray⟩
theorem mk_tl (l : List Nat) : (mk l).cps.toList = l := rfl
theorem mk_len (l : List Nat) : (mk l).length = l.length := List.size_toArray
theorem mk_inj {a b : List Nat} (h : mk a = mk b) : a = b := by
  have e := congrArg (fun z : Str => z.cps.toList) h
  exact e
theorem mk_app (a b : List Nat) : mk a ++ mk b = mk (a ++ b) := TL.ext_tl (by rw [TL.tl_append]; rfl)
theorem mk_to (l : List Nat) (k : Nat) : cutS (mk l) none (some (k : Int)) = mk (l.take k) := by
  unfold cutS
  rw [HT.sIx_nat, HT.sIx_none, mk_tl, mk_len, List.drop_zero, Nat.sub_zero]
  by_cases h : k ≤ l.length
  · rw [Nat.min_eq_left h]; rfl
  · rw [Nat.min_eq_right (by omega), List.take_length, List.take_of_length_le (by omega)]; rfl
theorem mk_from (l : List Nat) (k : Nat) : cutS (mk l) (some (k : Int)) none = mk (l.drop k) := by
  unfold cutS
  rw [HT.sIx_nat, HT.sIx_none, mk_tl, mk_len]
  by_cases h : k ≤ l.length
  · rw [Nat.min_eq_left h, ← List.length_drop, List.take_length]; rfl
  · rw [Nat.min_eq_right (by omega), List.drop_of_length_le (by omega), List.drop_of_length_le (by omega), List.take_nil]; rfl
theorem mk_join : ∀ cs : List Nat, Txt.join (mk []) (cs.map fun c => mk [c]) = mk cs := by
  have go : ∀ cs : List Nat, TL.joinL [] (cs.map fun c => [c]) = cs := fun cs => by
    induction cs with
    | nil => rfl
    | cons a r ih =>
      cases r with
      | nil => rfl
      | cons b t =>
        show [a] ++ ([] ++ TL.joinL [] ((b :: t).map fun c => [c])) = a :: b :: t
        rw [ih]
        rfl
  intro cs
  rw [TL.join_eq]
  refine TL.ext_tl ?_
  rw [TL.tl_join, List.map_map]
  exact go cs
/-- a letter, by its number -/
def letter (i : Nat) : Nat := 97 + i % 26
def small : Str := mk ((List.range 26).map letter)
theorem small_eq : (Str.ofString "abcdefghijklmnopqrstuvwxyz") = small := by decide +kernel
theorem at_gen {α : Type} {xs : List α} {z : Int} {j : Nat} {v : α} (e : z = (j : Int)) (h : xs[j]? = some v) : atI xs z = some v := by
  rw [e]
  exact atI_nat h
theorem small_at {i : Int} (h0 : 0 ≤ i) (h1 : i < 26) : atI small.cps.toList i = some (letter i.toNat) := by
  refine at_gen (by omega : i = (i.toNat : Int)) ?_
  have h2 : i.toNat < 26 := by omega
  show ((List.range 26).map letter)[i.toNat]? = _
  rw [List.getElem?_map, List.getElem?_range h2]
  rfl
theorem letter_inj {a b t : Nat} (h : letter (t + 5 * a) = letter (t + 5 * b)) (ha : a < 26) (hb : b < 26) : a = b := by
  unfold letter at h
  omega
theorem letter_rng (i : Nat) : 97 ≤ letter i ∧ letter i ≤ 122 := by
  unfold letter
  omega
def IsName (x : Str) : Prop := ∃ cs : List Nat, x = mk cs ∧ 1 ≤ cs.length ∧ cs.length ≤ 8 ∧ ∀ c ∈ cs, 97 ≤ c ∧ c ≤ 122
theorem IsName.ok {x : Str} (h : IsName x) : PyData.strOk x = true := by
  obtain ⟨cs, rfl, _, _, h⟩ := h
  unfold PyData.strOk
  rw [Array.all_eq_true]
  intro i hi
  have := h (mk cs).cps[i] (by
    show (mk cs).cps[i] ∈ (mk cs).cps.toList
    exact Array.getElem_mem_toList hi)
  exact decide_eq_true (by omega)
def partL (rest : List Nat) (size spot k : Nat) : List Nat := rest.take ((size + k * (spot % 2)) % 8)
def spotL (spot n : Nat) : Nat := if spot = 0 then 0 else if spot = 1 then n else n / 2
def nameL (rest : List Nat) (spot turn size k : Nat) : List Nat := (partL rest size spot k).take (spotL spot (partL rest size spot k).length) ++ letter (turn + 5 * k) :: (partL rest size spot k).drop (spotL spot (partL rest size spot k).length)
theorem part_len (rest : List Nat) (size spot k : Nat) : (partL rest size spot k).length ≤ 7 := by
  unfold partL
  rw [List.length_take]
  omega
theorem spot_le (spot n : Nat) : spotL spot n ≤ n := by
  unfold spotL
  split
  · omega
  · split <;> omega
theorem name_ok {rest : List Nat} (hr : ∀ c ∈ rest, 97 ≤ c ∧ c ≤ 122) (spot turn size k : Nat) : IsName (mk (nameL rest spot turn size k)) := by
  have h1 := part_len rest size spot k
  have h2 := spot_le spot (partL rest size spot k).length
  have hp : ∀ c ∈ partL rest size spot k, 97 ≤ c ∧ c ≤ 122 := fun c hc => hr c (List.mem_of_mem_take hc)
  refine ⟨_, rfl, ?_, ?_, fun c hc => ?_⟩
  · unfold nameL
    rw [List.length_append, List.length_cons]
    omega
  · unfold nameL
    rw [List.length_append, List.length_cons, List.length_take, List.length_drop]
    omega
  · unfold nameL at hc
    rcases List.mem_append.mp hc with h | h
    · exact hp c (List.mem_of_mem_take h)
    · rcases List.mem_cons.mp h with h | h
      · rw [h]
        exact letter_rng _
      · exact hp c (List.mem_of_mem_drop h)
theorem name_inj {rest : List Nat} {spot turn size a b : Nat} (hs : spot < 3) (ha : a < 26) (hb : b < 26) (h : nameL rest spot turn size a = nameL rest spot turn size b) : a = b := by
  by_cases h1 : spot = 1
  · subst h1
    unfold nameL spotL at h
    rw [if_neg (by decide), if_pos rfl, if_neg (by decide), if_pos rfl, List.take_length, List.take_length, List.drop_length, List.drop_length] at h
    have e := congrArg List.getLast? h
    rw [List.getLast?_concat, List.getLast?_concat] at e
    exact letter_inj (Option.some.inj e) ha hb
  · have e2 : spot % 2 = 0 := by omega
    have ep : ∀ k, partL rest size spot k = partL rest size spot 0 := fun k => by
      unfold partL
      rw [e2, Nat.mul_zero, Nat.mul_zero]
    unfold nameL at h
    rw [ep a, ep b] at h
    have e := List.append_cancel_left h
    exact letter_inj (List.cons.inj e).1 ha hb
theorem nodup_map {α : Type} {f : Nat → α} {n : Nat} (h : ∀ a b, a < n → b < n → f a = f b → a = b) : ((List.range n).map f).Nodup := by
  unfold List.Nodup
  rw [List.pairwise_map]
  refine List.Pairwise.imp_of_mem (fun {a b} ha hb hlt => ?_) List.pairwise_lt_range
  intro e
  have := h a b (List.mem_range.mp ha) (List.mem_range.mp hb) e
  omega
def namesL (rest : List Nat) (spot turn size n : Nat) : List Str := (List.range n).map fun k => mk (nameL rest spot turn size k)
theorem names_nodup {rest : List Nat} {spot turn size n : Nat} (hs : spot < 3) (hn : n ≤ 26) : (namesL rest spot turn size n).Nodup :=
  nodup_map fun a b ha hb h => name_inj hs (by omega) (by omega) (mk_inj h)
/-- the third way: letters taken several times -/
def repL (turn k : Nat) : List Nat := List.replicate (1 + k % 8) (letter (turn + k / 8))
theorem rep_ok (turn k : Nat) : IsName (mk (repL turn k)) := by
  refine ⟨_, rfl, ?_, ?_, fun c hc => ?_⟩
  · unfold repL
    rw [List.length_replicate]
    omega
  · unfold repL
    rw [List.length_replicate]
    omega
  · unfold repL at hc
    rw [(List.mem_replicate.mp hc).2]
    exact letter_rng _
theorem rep_inj {turn a b : Nat} (ha : a < 200) (hb : b < 200) (h : repL turn a = repL turn b) : a = b := by
  have e1 := congrArg List.length h
  unfold repL at e1 h
  rw [List.length_replicate, List.length_replicate] at e1
  have e2 := congrArg List.head? h
  rw [List.head?_replicate, List.head?_replicate, if_neg (by omega), if_neg (by omega)] at e2
  have e3 := Option.some.inj e2
  unfold letter at e3
  omega
end Kin
namespace Kin
open PySem PySem.Spec PyProof.Rows L2 RZ
section
variable {P : Program} {w : World} {K : PySem.W.Frag} {mg : Str → Option Value} {base : Heap}
/-! _law_order -/
abbrev s_law_order : Stmt := topS 23
theorem sc_law_order : FnScope ["pot", "many", "order", "k"] ["pot", "many"] (defScope s_law_order) := ⟨rfl, rfl, rfl, by decide +kernel, rfl, by decide +kernel, by decide +kernel⟩

theorem perm_ins {ks : List Nat} {n : Nat} (r : Nat) (h : ks.Perm (List.range n)) : (ks.take r ++ [n] ++ ks.drop r).Perm (List.range (n + 1)) := by
  rw [List.range_succ]
  have h1 : (ks.take r ++ [n] ++ ks.drop r).Perm ([n] ++ (ks.take r ++ ks.drop r)) := by
    rw [← List.append_assoc]
    exact List.Perm.append_right _ List.perm_append_comm
  rw [List.take_append_drop] at h1
  exact h1.trans ((List.Perm.append_left [n] h).trans List.perm_append_comm)
def sp_law_order : Sp := fun vs H Q _ => ∃ (p c : Addr) (ns : List Int) (n : Nat), vs = [.ref p, nV n] ∧ Pot H p c ns ∧ n ≤ 1000 ∧ ∀ (l : Addr) (ks : List Nat) H', Go p c ns H H' → H l = none → H' l = some (.lst (ks.map nV)) → ks.Perm (List.range n) → Q (.ref l) H'
theorem mny {m : Int} (h : 0 < m) (h2 : m ≤ 100000) : Mny m := ⟨h, by omega⟩
theorem ok_law_order (F : Def K mg "_law_order" ["pot", "many"] s_law_order) (m_range : mg "range" = none) (c_law_pick : Cl P w K mg base 2 "_law_pick" sp_law_pick) : Cl P w K mg base 3 "_law_order" sp_law_order := by
  refine F.cl sc_law_order (fun vs H Q E h => ?_) (fun f cdv A outer s H vs Q E hr h => ?_)
  · obtain ⟨p, c, ns, m, rfl, _⟩ := h
    rfl
  obtain ⟨p, c, ns, m, rfl, hP, hm, q⟩ := h
  have nd := sc_law_order.nd
  refine ⟨_, (pss_cons (ps_set (i := 2) nd rfl (Or.inl rfl) (pe_lst pa_nil))
    (pss_cons (ps_for PassesOwn.never rfl (pi_range1 (by rfl) m_range (pa_cons (pv 1) pa_nil)) (pg_name (i := 3) nd rfl (Or.inl rfl)) (pss_one (ps_expr (pe_bmK K PySem.F.plainAttrs_list PySem.F.slot_list_insert PySem.F.type_list_insert mt_insert (pv 2) (pa_cons (pe_cl c_law_pick hr (by decide) (by rfl) (pa_cons (pv 0) (pa_cons (pe_op op_add (pv 3) pe_int) pa_nil))) (pa_cons (pv 3) pa_nil))))))
    (pss_one (ps_ret (pv 2))))), ?_⟩
  refine ⟨(by show 0 ≤ sizeLine; decide), fun l nl => ?_⟩
  refine ⟨_, rfl, _, rfl, by omega, by omega, for_range (lo := 0) (n := (m : Int).toNat) (fun i σ H' => ∃ (y : Option V) (ks : List Nat), σ = [some (.ref p), some (nV m), some (.ref l), y] ∧ Go p c ns H H' ∧ H' l = some (.lst (ks.map nV)) ∧ ks.Perm (List.range i)) ?_ ?_ ?_⟩
  · exact ⟨none, [], rfl, (Go.refl hP).new nl, upd_same, List.Perm.refl _⟩
  · rintro i σ H' hi ⟨y, ks, rfl, G, hl, hp⟩
    have hlen : ks.length = i := by rw [hp.length_eq, List.length_range]
    refine ⟨_, rfl, .inl ⟨rfl, _, SqL.of hl⟩, _, rfl, _, rfl, _, _, rfl, rfl, p, c, ns, _, rfl, G.pot, mny (by omega) (by omega), fun r H2 r0 r1 G2 => ?_⟩
    have hl2 : H2 l = some (.lst (ks.map nV)) := G2.get (hP.nep nl) hl
    refine ⟨_, rfl, l, _, r, _, rfl, rfl, hl2, ?_, r0, by omega, ?_⟩
    · rw [List.length_map, hlen]
      exact Nat.lt_of_lt_of_le (show i < 1000 by omega) (by decide)
    · refine ⟨some (.int ((0 : Int) + (i : Int))), ks.take r.toNat ++ [i] ++ ks.drop r.toNat, rfl, (G.trans G2).mut nl, ?_, perm_ins _ hp⟩
      rw [upd_same, List.map_append, List.map_append, List.map_take, List.map_drop]
      show some (HO.lst (_ ++ [V.int (0 + (i : Int))] ++ _)) = some (HO.lst (_ ++ [V.int (i : Int)] ++ _))
      rw [Int.zero_add]
  · rintro σ H' ⟨y, ks, rfl, G, hl, hp⟩
    exact ⟨_, rfl, q l ks H' G nl hl hp⟩
/-! _law_letters -/
abbrev s_law_letters : Stmt := topS 24
theorem sc_law_letters : FnScope ["pot", "many", "small", "rest", "spot", "turn", "size", "found", "k", "part", "at"] ["pot", "many"] (defScope s_law_letters) := ⟨rfl, rfl, rfl, by decide +kernel, rfl, by decide +kernel, by decide +kernel⟩
def sp_law_letters : Sp := fun vs H Q _ => ∃ (p c : Addr) (ns : List Int) (n : Nat), vs = [.ref p, nV n] ∧ Pot H p c ns ∧ n ≤ 26 ∧ ∀ (l : Addr) (xs : List Str) H', Go p c ns H H' → H l = none → H' l = some (.lst (xs.map V.str)) → xs.length = n → xs.Nodup → (∀ x ∈ xs, IsName x) → Q (.ref l) H'
theorem spot_at {sp : Nat} (h : sp < 3) (n : Nat) : atI [V.int 0, V.int (n : Int), V.int ((n : Int) / 2)] (sp : Int) = some (V.int ((spotL sp n : Nat) : Int)) := by
  refine atI_nat ?_
  match sp, h with
  | 0, _ => rfl
  | 1, _ => rfl
  | 2, _ => rfl
theorem ok_law_letters (F : Def K mg "_law_letters" ["pot", "many"] s_law_letters) (m_range : mg "range" = none) (m_len : mg "len" = none) (c_law_pick : Cl P w K mg base 2 "_law_pick" sp_law_pick) : Cl P w K mg base 3 "_law_letters" sp_law_letters := by
  refine F.cl sc_law_letters (fun vs H Q E h => ?_) (fun f cdv A outer s H vs Q E hr h => ?_)
  · obtain ⟨p, c, ns, m, rfl, _⟩ := h
    rfl
  obtain ⟨p, c, ns, m, rfl, hP, hm, q⟩ := h
  have nd := sc_law_letters.nd
  refine ⟨_, (pss_cons (ps_set (i := 2) nd rfl (Or.inr rfl) pe_str)
    (pss_cons (ps_set (i := 3) nd rfl (Or.inl rfl) (pe_joinK K pe_str (pe_lc (own := [("k", 8)]) (g := gName 8) (tt := tYes) (by rfl) nd (pi_range1 (by rfl) m_range (pa_cons pe_int pa_nil)) (blkOk_by (own := [("k", 8)]) (N := ["pot", "many", "small", "rest", "spot", "turn", "size", "found", "k", "part", "at"]) (sc := defScope s_law_letters) (by decide +kernel)) (fun _ _ _ _ _ => (pg_name (i := 8) nd rfl (Or.inl rfl))) (fun _ _ _ _ _ => pts_nil) (fun _ _ _ _ _ => (pe_ix ix_str (pv 2) (pe_cl c_law_pick hr (by decide) (by rfl) (pa_cons (pv 0) (pa_cons pe_int pa_nil))) (fun _ _ => rfl))))))
    (pss_cons (ps_set (i := 4) nd rfl (Or.inl rfl) (pe_cl c_law_pick hr (by decide) (by rfl) (pa_cons (pv 0) (pa_cons pe_int pa_nil))))
    (pss_cons (ps_set (i := 5) nd rfl (Or.inl rfl) (pe_cl c_law_pick hr (by decide) (by rfl) (pa_cons (pv 0) (pa_cons pe_int pa_nil))))
    (pss_cons (ps_set (i := 6) nd rfl (Or.inl rfl) (pe_cl c_law_pick hr (by decide) (by rfl) (pa_cons (pv 0) (pa_cons pe_int pa_nil))))
    (pss_cons (ps_set (i := 7) nd rfl (Or.inl rfl) (pe_lst pa_nil))
    (pss_cons (ps_for PassesOwn.never rfl (pi_range1 (by rfl) m_range (pa_cons (pv 1) pa_nil)) (pg_name (i := 8) nd rfl (Or.inl rfl)) (pss_cons (ps_set (i := 9) nd rfl (Or.inl rfl) (pe_slice sl_str (pv 3) po_none (po_some (pe_op op_mod (pe_op op_add (pv 6) (pe_op op_mul (pv 8) (pe_op op_mod (pv 4) pe_int))) pe_int))))
    (pss_cons (ps_set (i := 10) nd rfl (Or.inl rfl) (pe_ix (ix_listK K) (pe_lst (pa_cons pe_int (pa_cons (pe_callB call_len_str (by rfl) m_len PySem.boot_len (pa_cons (pv 9) pa_nil)) (pa_cons (pe_op op_fdivW (pe_callB call_len_str (by rfl) m_len PySem.boot_len (pa_cons (pv 9) pa_nil)) pe_int) pa_nil)))) (pv 4) (fun _ _ => rfl)))
    (pss_one (ps_expr (pe_bmK K PySem.F.plainAttrs_list PySem.F.slot_list_append PySem.F.type_list_append mt_append (pv 7) (pa_cons (pe_op op_add_str (pe_op op_add_str (pe_slice sl_str (pv 9) po_none (po_some (pv 10))) (pe_ix ix_str (pv 2) (pe_op op_mod (pe_op op_add (pv 5) (pe_op op_mul pe_int (pv 8))) pe_int) (fun _ _ => rfl))) (pe_slice sl_str (pv 9) (po_some (pv 10)) po_none)) pa_nil)))))))
    (pss_one (ps_ret (pv 7)))))))))), ?_⟩
  rw [small_eq, show Str.ofString "" = mk [] by decide +kernel]
  -- rest
  refine ⟨⟨_, rfl⟩, 7, rfl, by decide, by decide, fun D nD => lc_range (lo := 0) (n := 7) (fun i H' => ∃ cs : List Nat, Go p c ns H H' ∧ H' D = some (.lst ((cs.map fun x => mk [x]).map V.str)) ∧ cs.length = i ∧ ∀ x ∈ cs, 97 ≤ x ∧ x ≤ 122) ?_ ?_ ?_⟩
  · exact ⟨[], (Go.refl hP).new nD, upd_same, rfl, fun x hx => nomatch hx⟩
  · rintro i H' hi ⟨cs, G, hD, hl, hc⟩
    refine ⟨rfl, ?_⟩
    refine ⟨_, rfl, _, rfl, p, c, ns, _, rfl, G.pot, mny (by decide) (by decide), fun r H2 r0 r1 G2 => ?_⟩
    have hD2 : H2 D = some (.lst ((cs.map fun x => mk [x]).map V.str)) := G2.get (hP.nep nD) hD
    refine ⟨_, _, _, rfl, rfl, by decide +kernel, small_at r0 r1, _, hD2, ?_, cs ++ [letter r.toNat], (G.trans G2).mut nD, ?_, by rw [List.length_append, hl]; rfl, fun x hx => ?_⟩
    · rw [List.length_map, List.length_map, hl]
      exact small1000 (by omega)
    · rw [upd_same, List.map_append, List.map_append]
      rfl
    · rcases List.mem_append.mp hx with h | h
      · exact hc x h
      · rw [List.mem_singleton.mp h]
        exact letter_rng _
  rintro H1 ⟨rest, G1, hD, hl, hrest⟩
  refine ⟨_, _, _, rfl, rfl, .inl (SqL.of hD), ?_, ?_⟩
  · rw [List.map_map, List.length_map, hl]
    have e : ∀ cs : List Nat, (cs.map ((fun x : Str => x.length) ∘ fun x => mk [x])).sum = cs.length := fun cs => by
      induction cs with
      | nil => rfl
      | cons a r ih =>
        rw [List.map_cons, List.sum_cons, ih, List.length_cons]
        exact Nat.add_comm 1 _
    rw [e, hl]
    decide
  rw [mk_join]
  refine ⟨_, rfl, p, c, ns, _, rfl, G1.pot, mny (by decide) (by decide), fun sp H2 sp0 sp1 G2 => ?_⟩
  refine ⟨_, rfl, p, c, ns, _, rfl, G2.pot, mny (by decide) (by decide), fun tu H3 tu0 tu1 G3 => ?_⟩
  refine ⟨_, rfl, p, c, ns, _, rfl, G3.pot, mny (by decide) (by decide), fun si H4 si0 si1 G4 => ?_⟩
  have G := ((G1.trans G2).trans G3).trans G4
  obtain ⟨sp, rfl⟩ : ∃ n : Nat, sp = (n : Int) := ⟨sp.toNat, by omega⟩
  obtain ⟨tu, rfl⟩ : ∃ n : Nat, tu = (n : Int) := ⟨tu.toNat, by omega⟩
  obtain ⟨si, rfl⟩ : ∃ n : Nat, si = (n : Int) := ⟨si.toNat, by omega⟩
  refine ⟨(by show 0 ≤ sizeLine; decide), fun l nl => ?_⟩
  have nlH : H l = none := G.free nl
  refine ⟨_, rfl, _, rfl, by omega, by omega, for_range (lo := 0) (n := (m : Int).toNat) (fun i σ H' => ∃ (y8 y9 y10 : Option V), σ = [some (.ref p), some (nV m), some (.str small), some (.str (mk rest)), some (.int sp), some (.int tu), some (.int si), some (.ref l), y8, y9, y10] ∧ Go p c ns H H' ∧ H' l = some (.lst ((namesL rest sp tu si i).map V.str))) ?_ ?_ ?_⟩
  · exact ⟨none, none, none, rfl, G.new nl, upd_same⟩
  · rintro i σ H' hi ⟨y8, y9, y10, rfl, G, hl⟩
    have si31 : i < 26 := by omega
    have e8 : ((si : Int) + ((0 : Int) + (i : Int)) * ((sp : Int) % 2)) % 8 = (((si + i * (sp % 2)) % 8 : Nat) : Int) := by
      rw [Int.zero_add, Int.natCast_emod, Int.natCast_add, Int.natCast_mul, Int.natCast_emod]
      rfl
    -- part
    refine ⟨_, rfl, _, rfl, _, rfl, _, rfl, _, _, rfl, rfl, (by show (0 : Int) < 2; decide), _, _, rfl, rfl, .inl ⟨by omega, by omega⟩, _, _, rfl, rfl, _, _, rfl, rfl, (by show (0 : Int) < 8; decide), _, rfl, mk rest, rfl, ?_, ?_⟩
    · rw [mk_len]
      exact Nat.le_of_lt (small1000 (by omega))
    rw [e8, mk_to]
    have pl := part_len rest si sp i
    show tSeq _ _ _ [some (.ref p), some (nV m), some (.str small), some (.str (mk rest)), some (.int sp), some (.int tu), some (.int si), some (.ref l), some (.int ((0 : Int) + (i : Int))), some (.str (mk (partL rest si sp i))), y10] H'
    generalize hpt : partL rest si sp i = pt at pl
    have pz : (mk pt).length ≤ sizeLine := by
      rw [mk_len]
      exact Nat.le_of_lt (small1000 (by omega))
    -- at
    refine ⟨_, rfl, _, rfl, pz, _, rfl, _, rfl, pz, _, _, rfl, rfl, ⟨by decide, by decide⟩, (by show 3 ≤ sizeLine; decide), fun q3 nq3 => ?_⟩
    refine ⟨_, rfl, q3, _, _, .int (spotL sp pt.length), rfl, rfl, SqL.of upd_same, ?_, ?_⟩
    · rw [mk_len]
      exact spot_at (by omega) _
    -- found.append
    have hl2 : upd H' q3 (.lst [V.int 0, V.int (mk pt).length, V.int (((mk pt).length : Int) / 2)]) l = some (.lst ((namesL rest sp tu si i).map V.str)) := same_new nq3 _ _ hl
    refine ⟨_, rfl, .inl ⟨rfl, _, SqL.of hl2⟩, _, rfl, _, rfl, _, rfl, _, rfl, pz, _, rfl, _, rfl, _, rfl, _, _, rfl, rfl, .inl ⟨by decide, by decide⟩, _, _, rfl, rfl, _, _, rfl, rfl, (by show (0 : Int) < 26; decide), _, _, _, rfl, rfl, by decide +kernel, small_at (Int.emod_nonneg _ (by decide)) (Int.emod_lt_of_pos _ (by decide)), _, _, rfl, rfl, ?_, ?_⟩
    · rw [mk_to, mk_len, List.length_take]
      exact Nat.le_of_lt (small1000 (by show min (spotL sp pt.length) pt.length + 1 ≤ 1000; omega))
    refine ⟨_, rfl, _, rfl, _, rfl, _, rfl, pz, _, _, rfl, rfl, ?_, ?_⟩
    · rw [mk_to, mk_from, mk_len, List.length_drop]
      refine Nat.le_of_lt (small1000 ?_)
      show (mk (pt.take _) ++ mk [_]).length + _ ≤ 1000
      rw [mk_app, mk_len, List.length_append, List.length_take]
      show min _ _ + 1 + _ ≤ 1000
      omega
    have el : letter (((tu : Int) + 5 * ((0 : Int) + (i : Int))) % 26).toNat = letter (tu + 5 * i) := by
      unfold letter
      omega
    have ev : cutS (mk pt) none (some ((spotL sp pt.length : Nat) : Int)) ++ ⟨#[letter (((tu : Int) + 5 * ((0 : Int) + (i : Int))) % 26).toNat]⟩ ++ cutS (mk pt) (some ((spotL sp pt.length : Nat) : Int)) none = mk (nameL rest sp tu si i) := by
      rw [mk_to, mk_from, el, show (⟨#[letter (tu + 5 * i)]⟩ : Str) = mk [letter (tu + 5 * i)] from rfl, mk_app, mk_app]
      unfold nameL
      rw [hpt, List.append_assoc]
      rfl
    refine ⟨l, _, _, rfl, rfl, hl2, ?_, _, _, _, rfl, (G.new nq3).mut nlH, ?_⟩
    · rw [List.length_map]
      unfold namesL
      rw [List.length_map, List.length_range]
      exact small1000 (by omega)
    · rw [upd_same]
      show some (HO.lst (_ ++ [V.str (cutS (mk pt) none (some ((spotL sp pt.length : Nat) : Int)) ++ ⟨#[letter (((tu : Int) + 5 * ((0 : Int) + (i : Int))) % 26).toNat]⟩ ++ cutS (mk pt) (some ((spotL sp pt.length : Nat) : Int)) none)])) = _
      rw [ev]
      unfold namesL
      rw [List.range_succ, List.map_append, List.map_append]
      rfl
  · rintro σ H' ⟨y8, y9, y10, rfl, G, hl⟩
    rw [Int.toNat_natCast] at hl
    exact ⟨_, rfl, q l _ H' G nlH hl (by unfold namesL; rw [List.length_map, List.length_range]) (names_nodup (by omega) hm) (fun x hx => by
      obtain ⟨k, _, rfl⟩ := List.mem_map.mp hx
      exact name_ok hrest _ _ _ _)⟩
/-! _law_names -/
abbrev s_law_names : Stmt := topS 25
theorem sc_law_names : FnScope ["pot", "many", "way", "turn", "small", "found", "k"] ["pot", "many"] (defScope s_law_names) := ⟨rfl, rfl, rfl, by decide +kernel, rfl, by decide +kernel, by decide +kernel⟩
def sp_law_names : Sp := fun vs H Q _ => ∃ (p c : Addr) (ns : List Int) (n : Nat), vs = [.ref p, nV n] ∧ Pot H p c ns ∧ n ≤ 26 ∧ ∀ (l : Addr) (xs : List Str) H', Go p c ns H H' → H l = none → H' l = some (.lst (xs.map V.str)) → xs.length = n → xs.Nodup → (∀ x ∈ xs, IsName x) → Q (.ref l) H'
theorem picks_perm {α : Type} (d : α) {ks : List Nat} (xs : List α) (h : ks.Perm (List.range xs.length)) : (ks.map fun k => xs.getD k d).Perm xs := by
  have e : (List.range xs.length).map (fun k => xs.getD k d) = xs := by
    refine List.ext_getElem (by rw [List.length_map, List.length_range]) fun i h1 h2 => ?_
    rw [List.getElem_map, List.getElem_range, List.getD_eq_getElem?_getD, List.getElem?_eq_getElem h2]
    rfl
  have h2 := h.map (fun k => xs.getD k d)
  rw [e] at h2
  exact h2
theorem ok_law_names (F : Def K mg "_law_names" ["pot", "many"] s_law_names) (m_range : mg "range" = none) (c_law_pick : Cl P w K mg base 2 "_law_pick" sp_law_pick) (c_law_letters : Cl P w K mg base 3 "_law_letters" sp_law_letters) (c_law_order : Cl P w K mg base 3 "_law_order" sp_law_order) : Cl P w K mg base 4 "_law_names" sp_law_names := by
  refine F.cl sc_law_names (fun vs H Q E h => ?_) (fun f cdv A outer s H vs Q E hr h => ?_)
  · obtain ⟨p, c, ns, m, rfl, _⟩ := h
    rfl
  obtain ⟨p, c, ns, m, rfl, hP, hm, q⟩ := h
  have nd := sc_law_names.nd
  refine ⟨_, (pss_cons (ps_set (i := 2) nd rfl (Or.inl rfl) (pe_cl c_law_pick hr (by decide) (by rfl) (pa_cons (pv 0) (pa_cons pe_int pa_nil))))
    (pss_cons (ps_set (i := 3) nd rfl (Or.inr rfl) (pe_cl c_law_pick hr (by decide) (by rfl) (pa_cons (pv 0) (pa_cons pe_int pa_nil))))
    (pss_cons (ps_set (i := 4) nd rfl (Or.inr rfl) pe_str)
    (pss_cut' (ps_if (pt_cmpR op_eq (pv 2) pe_int (by rfl)) (pss_one (ps_set (i := 5) nd rfl (Or.inr rfl) (pe_lc (own := [("k", 6)]) (g := gName 6) (tt := tYes) (by rfl) nd (pi_range1 (by rfl) m_range (pa_cons (pv 1) pa_nil)) (blkOk_by (own := [("k", 6)]) (N := ["pot", "many", "way", "turn", "small", "found", "k"]) (sc := defScope s_law_names) (by decide +kernel)) (fun _ _ _ _ _ => (pg_name (i := 6) nd rfl (Or.inl rfl))) (fun _ _ _ _ _ => pts_nil) (fun _ _ _ _ _ => (pe_op op_repS (pe_ix ix_str (pv 4) (pe_op op_mod (pe_op op_add (pv 3) (pe_op op_fdivW (pv 6) pe_int)) pe_int) (fun _ _ => rfl)) (pe_op op_add pe_int (pe_op op_mod (pv 6) pe_int))))))) (pss_one (ps_set (i := 5) nd rfl (Or.inr rfl) (pe_cl c_law_letters hr (by decide) (by rfl) (pa_cons (pv 0) (pa_cons (pv 1) pa_nil))))))
    (pss_one (ps_ret (pe_lc (own := [("k", 6)]) (g := gName 6) (tt := tYes) (by rfl) nd (pi_listK K (pe_cl c_law_order hr (by decide) (by rfl) (pa_cons (pv 0) (pa_cons (pv 1) pa_nil)))) (blkOk_by (own := [("k", 6)]) (N := ["pot", "many", "way", "turn", "small", "found", "k"]) (sc := defScope s_law_names) (by decide +kernel)) (fun _ _ _ _ _ => (pg_name (i := 6) nd rfl (Or.inl rfl))) (fun _ _ _ _ _ => pts_nil) (fun _ _ _ _ _ => (pe_ix (ix_listK K) (pv 5) (pv 6) (fun _ _ => rfl)))))))))), ?_⟩
  rw [small_eq]
  refine ⟨_, rfl, p, c, ns, _, rfl, hP, mny (by decide) (by decide), fun way H1 w0 w1 G1 => ?_⟩
  refine ⟨_, rfl, p, c, ns, _, rfl, G1.pot, mny (by decide) (by decide), fun tu H2 t0 t1 G2 => ?_⟩
  have G := G1.trans G2
  obtain ⟨tu, rfl⟩ : ∃ n : Nat, tu = (n : Int) := ⟨tu.toNat, by omega⟩
  refine ⟨fun σ H' => ∃ (fl : Addr) (xs : List Str), σ = [some (.ref p), some (nV m), some (.int way), some (.int tu), some (.str small), some (.ref fl), none] ∧ Go p c ns H H' ∧ H fl = none ∧ H' fl = some (.lst (xs.map V.str)) ∧ xs.length = m ∧ xs.Nodup ∧ ∀ x ∈ xs, IsName x, ?_, ?_⟩
  · refine ⟨_, rfl, rfl, _, rfl, ite2 (fun e => ?_) (fun e => ?_)⟩
    · refine ⟨_, rfl, _, rfl, by omega, by omega, fun D nD => lc_range (lo := 0) (n := (m : Int).toNat) (fun i H' => Same H2 H' ∧ H' D = some (.lst (((List.range i).map fun k => mk (repL tu k)).map V.str))) ?_ ?_ ?_⟩
      · exact ⟨same_new nD, upd_same⟩
      · rintro i H' hi ⟨sm, hD⟩
        refine ⟨rfl, ?_⟩
        refine ⟨_, rfl, _, rfl, _, rfl, _, _, rfl, rfl, ⟨by decide, by decide⟩, _, _, rfl, rfl, _, _, rfl, rfl, (by show (0 : Int) < 26; decide), _, _, _, rfl, rfl, by decide +kernel, small_at (Int.emod_nonneg _ (by decide)) (Int.emod_lt_of_pos _ (by decide)), ?_⟩
        refine ⟨_, rfl, _, _, rfl, rfl, (by show (0 : Int) < 8; decide), _, _, rfl, rfl, _, _, rfl, rfl, by omega, by omega, by show 1 ≤ 1000; decide, by show 1 ≤ 1; decide, ?_⟩
        have e1 : letter (((tu : Int) + ((0 : Int) + (i : Int)) / 8) % 26).toNat = letter (tu + i / 8) := by
          unfold letter
          omega
        have e2 : (1 + ((0 : Int) + (i : Int)) % 8).toNat = 1 + i % 8 := by omega
        refine ⟨_, hD, ?_, same_mut sm nD, ?_⟩
        · rw [List.length_map, List.length_map, List.length_range]
          exact small1000 (by omega)
        · rw [upd_same, List.range_succ, List.map_append, List.map_append]
          show some (HO.lst (_ ++ [V.str ⟨(List.replicate (1 + ((0 : Int) + (i : Int)) % 8).toNat [letter (((tu : Int) + ((0 : Int) + (i : Int)) / 8) % 26).toNat]).flatten.toArray⟩])) = _
          rw [e1, e2, List.flatten_replicate_singleton]
          rfl
      · rintro H' ⟨sm, hD⟩
        rw [Int.toNat_natCast] at hD
        refine ⟨D, _, rfl, G.same sm, G.free nD, hD, by rw [List.length_map, List.length_range], nodup_map fun a b ha hb h => rep_inj (turn := tu) (by omega) (by omega) (mk_inj h), fun x hx => ?_⟩
        obtain ⟨k, _, rfl⟩ := List.mem_map.mp hx
        exact rep_ok _ _
    · refine ⟨_, rfl, _, rfl, p, c, ns, m, rfl, G.pot, hm, fun l xs H3 G3 nl hl h1 h2 h3 => ?_⟩
      exact ⟨l, xs, rfl, G.trans G3, G.free nl, hl, h1, h2, h3⟩
  · rintro σ H' ⟨fl, xs, rfl, G', nfl, hfl, hlen, hnd, hnm⟩
    refine ⟨_, rfl, _, rfl, p, c, ns, m, rfl, G'.pot, by omega, fun ol ks H3 G3 nol hol hperm => ⟨ol, rfl, ⟨_, SqL.of hol⟩, fun D nD => lc_list (xs := ks.map nV) (fun i H4 => Same H3 H4 ∧ H4 D = some (.lst (((ks.take i).map fun k => xs.getD k (mk [])).map V.str))) ?_ ?_ ?_ ?_⟩⟩
    · exact ⟨same_new nD, upd_same⟩
    · rintro i H4 _ ⟨sm, _⟩
      exact SqL.of (sm _ _ hol)
    · rintro i x H4 hx ⟨sm, hD⟩
      obtain ⟨k, hk, rfl⟩ : ∃ k, ks[i]? = some k ∧ x = nV k := by
        rw [List.getElem?_map] at hx
        cases e : ks[i]? with
        | none => rw [e] at hx; cases hx
        | some z => rw [e] at hx; exact ⟨z, rfl, (Option.some.inj hx).symm⟩
      have hkm : k < xs.length := by
        have h1 := hperm.mem_iff.mp (List.mem_of_getElem? hk)
        rw [hlen]
        exact List.mem_range.mp h1
      have hil := (List.getElem?_eq_some_iff.mp hk).1
      have hkl : ks.length = m := by rw [hperm.length_eq, List.length_range]
      have hf : H4 fl = some (.lst (xs.map V.str)) := sm _ _ (G3.get (hP.nep nfl) hfl)
      refine ⟨rfl, ?_⟩
      refine ⟨_, rfl, _, rfl, fl, _, _, V.str (xs.getD k (mk [])), rfl, rfl, SqL.of hf, at_of (j := k) rfl ?_, _, hD, ?_, same_mut sm nD, ?_⟩
      · rw [List.getElem?_map, List.getD_eq_getElem?_getD, List.getElem?_eq_getElem hkm]
        rfl
      · rw [List.length_map, List.length_map, List.length_take]
        exact small1000 (by omega)
      · rw [upd_same, List.take_add_one, hk, List.map_append, List.map_append]
        rfl
    · rintro H4 ⟨sm, hD⟩
      rw [List.length_map, List.take_length] at hD
      have hp := picks_perm (mk []) (ks := ks) xs (by rw [hlen]; exact hperm)
      exact q D _ H4 ((G'.trans G3).same sm) ((G'.trans G3).free nD) hD (by rw [hp.length_eq, hlen]) (hp.nodup_iff.mpr hnd) fun x hx => hnm x (hp.mem_iff.mp hx)
end
end Kin
namespace Kin
open PySem PySem.Spec PyProof.Rows L2 RZ
def sgs : Str := mk ([32, 33, 34, 35, 36] ++ (List.range 89).map (· + 38) ++ [10, 9])
theorem sgs_eq : Str.ofString " !\"#$&'()*+,-./0123456789:;<=>?@ABCDEFGHIJKLMNOPQRSTUVWXYZ[\\]^_`abcdefghijklmnopqrstuvwxyz{|}~\n\t" = sgs := by decide +kernel
theorem sgs_ok : ∀ c ∈ sgs.cps.toList, c < 0x110000 := by decide +kernel
theorem sgs_len : sgs.length = 96 := by decide +kernel
theorem sgs_at {i : Int} (h0 : 0 ≤ i) (h1 : i < 96) : ∃ c, atI sgs.cps.toList i = some c ∧ c ∈ sgs.cps.toList := by
  have hl : sgs.cps.toList.length = 96 := by decide +kernel
  obtain ⟨k, rfl⟩ : ∃ k : Nat, i = (k : Int) := ⟨i.toNat, by omega⟩
  have hi : k < sgs.cps.toList.length := by omega
  exact ⟨sgs.cps.toList[k], atI_nat (List.getElem?_eq_getElem hi), List.getElem_mem hi⟩
def TextOk (m : Nat) (z : Str) : Prop := z.length ≤ m ∧ (∀ c ∈ z.cps.toList, c < 0x110000)
section
variable {P : Program} {w : World} {K : PySem.W.Frag} {mg : Str → Option Value} {base : Heap}
/-! _law_text -/
abbrev s_law_text : Stmt := topS 26
theorem sc_law_text : FnScope ["pot", "most", "signs", "k"] ["pot", "most"] (defScope s_law_text) := ⟨rfl, rfl, rfl, by decide +kernel, rfl, by decide +kernel, by decide +kernel⟩
def sp_ltext : Sp := fun vs H Q _ => ∃ (p c : Addr) (ns : List Int) (m : Nat), vs = [.ref p, nV m] ∧ Pot H p c ns ∧ m ≤ 100 ∧ ∀ z H', Go p c ns H H' → TextOk m z → Q (.str z) H'
theorem ok_ltext (F : Def K mg "_law_text" ["pot", "most"] s_law_text) (m_range : mg "range" = none) (m_len : mg "len" = none) (c_law_pick : Cl P w K mg base 2 "_law_pick" sp_law_pick) : Cl P w K mg base 3 "_law_text" sp_ltext := by
  refine F.cl sc_law_text (fun vs H Q E h => ?_) (fun f cdv A outer s H vs Q E hr h => ?_)
  · obtain ⟨p, c, ns, m, rfl, _⟩ := h
    rfl
  obtain ⟨p, c, ns, m, rfl, hP, hm, q⟩ := h
  have nd := sc_law_text.nd
  refine ⟨_, (pss_cons (ps_set (i := 2) nd rfl (Or.inr rfl) pe_str)
    (pss_one (ps_ret (pe_joinK K pe_str (pe_lc (own := [("k", 3)]) (g := gName 3) (tt := tYes) (by rfl) nd (pi_range1 (by rfl) m_range (pa_cons (pe_cl c_law_pick hr (by decide) (by rfl) (pa_cons (pv 0) (pa_cons (pe_op op_add (pv 1) pe_int) pa_nil))) pa_nil)) (blkOk_by (own := [("k", 3)]) (N := ["pot", "most", "signs", "k"]) (sc := defScope s_law_text) (by decide +kernel)) (fun _ _ _ _ _ => (pg_name (i := 3) nd rfl (Or.inl rfl))) (fun _ _ _ _ _ => pts_nil) (fun _ _ _ _ _ => (pe_ix ix_str (pv 2) (pe_cl c_law_pick hr (by decide) (by rfl) (pa_cons (pv 0) (pa_cons (pe_callB call_len_str (by rfl) m_len PySem.boot_len (pa_cons (pv 2) pa_nil)) pa_nil))) (fun _ _ => rfl)))))))), ?_⟩
  rw [sgs_eq, show Str.ofString "" = mk [] by decide +kernel]
  refine ⟨⟨_, rfl⟩, _, rfl, _, rfl, _, _, rfl, rfl, p, c, ns, _, rfl, hP, mny (by omega) (by omega), fun r H1 r0 r1 G1 => ⟨r, rfl, by omega, by omega, fun D nD => lc_range (lo := 0) (n := r.toNat) (fun i H' => ∃ cs : List Nat, Go p c ns H H' ∧ H' D = some (.lst ((cs.map fun x => mk [x]).map V.str)) ∧ cs.length = i ∧ ∀ x ∈ cs, x < 0x110000) ?_ ?_ ?_⟩⟩
  · exact ⟨[], G1.new nD, upd_same, rfl, fun x hx => nomatch hx⟩
  · rintro i H' hi ⟨cs, G, hD, hl, hc⟩
    refine ⟨rfl, ?_⟩
    refine ⟨_, rfl, _, rfl, _, rfl, sgs, rfl, by rw [sgs_len]; decide, p, c, ns, _, rfl, G.pot, ?_, fun r2 H2 r20 r21 G2 => ?_⟩
    · rw [sgs_len]
      exact mny (by decide) (by decide)
    rw [sgs_len] at r21
    obtain ⟨ch, hch, hmem⟩ := sgs_at r20 r21
    have hD2 : H2 D = some (.lst ((cs.map fun x => mk [x]).map V.str)) := G2.get (G1.pot.nep nD) hD
    refine ⟨_, _, _, rfl, rfl, by rw [sgs_len]; decide, hch, _, hD2, ?_, cs ++ [ch], (G.trans G2).mut (G1.free nD), ?_, by rw [List.length_append, hl]; rfl, fun x hx => ?_⟩
    · rw [List.length_map, List.length_map, hl]
      exact small1000 (by omega)
    · rw [upd_same, List.map_append, List.map_append]
      rfl
    · rcases List.mem_append.mp hx with h | h
      · exact hc x h
      · rw [List.mem_singleton.mp h]
        exact sgs_ok _ hmem
  rintro H2 ⟨cs, G2, hD, hl, hcs⟩
  refine ⟨_, _, _, rfl, rfl, .inl (SqL.of hD), ?_, ?_⟩
  · rw [List.map_map, List.length_map, hl]
    have e : ∀ cs : List Nat, (cs.map ((fun x : Str => x.length) ∘ fun x => mk [x])).sum = cs.length := fun cs => by
      induction cs with
      | nil => rfl
      | cons a r ih =>
        rw [List.map_cons, List.sum_cons, ih, List.length_cons]
        exact Nat.add_comm 1 _
    rw [e, hl]
    show _ + _ * 0 ≤ _
    omega
  rw [mk_join]
  exact q _ H2 G2 ⟨by rw [mk_len, hl]; omega, hcs⟩
end
end Kin
/-! an own exception over ValueError whose __init__ begins with super().__init__(x) -/
namespace Kin
open PySem PySem.Spec PyProof.Rows L2 NdefX ClX
open PySem.W (kxs_mw KxsFacts kxs_ValueError KxsAt ks_superObj)
/-- what the written part says of the class -/
structure SupC (K : PySem.W.Frag) (C : Addr) : Prop where
  oex : OexC K C
  sub : PySem.W.mroIn K C (.ref C) = some true
  nxt : PySem.W.ks_superIn K C C "__init__" = some (some (.builtin "ValueError.__init__"))
  bB : PySem.W.subIn K (.ref C) (.type "ValueError") = some true
  op : PySem.W.nsIn K cStatics "thirdparty.any" = some none
section
variable {X : Cx} {pins : List (Addr × Obj)} {σ : L2.St} {H : Hp} {s : Shared} {a C cc cda f : Addr}
theorem sup_stmt {body : List Stmt} {e : Expr} {es : List Expr} {ta : TA} {p0 p1 p2 p3 p4 : Pos} {of oc : Obj} {fd : FuncData} {ar : Arg} {vs : Array Value} {file : Str} {tf : Tok} {cl : Value} {cld : Option Addr} {csl : Array (Option Value)} {k : Hp → Prop} {pl : Sem Bool} {E : Value → Shared → Prop}
    (T : SupC X.K C) (I : Inv X pins σ H s) (hks : X.env.kindOf "super" = some .globalImplicit) (hkc : X.env.kindOf "__class__" = some .free) (hfu : X.env.func = some f) (lf : X.K.lookup f = some of) (hfd : of.data = .func fd)
    (hp : (fd.params.posonlyargs ++ fd.params.args).head? = some ar) (har : ar.arg = "self") (hco : X.env.code = .ref cda) (lcda : X.K.lookup cda = some oc) (hoc : oc.data = .fields vs) (hvs : vs[2]? = some (.str file tf))
    (hfile : ((X.prog.main.file : Str) == file) = true) (htop : (X.prog.main.scope.names.lookup ("super" : Str)).isSome = false) (ms : X.mg "super" = none)
    (hcl : X.env.cells.lookup ("__class__" : Str) = some cc) (lcc : X.K.lookup cc = some ⟨cl, cld, .cell (some (.ref C)), csl⟩) (hN : X.N[0]? = some ("self" : Str)) (hv : Vis X.env.scope "self") (hσ : σ[0]? = some (some (.ref a))) (hH : H a = some (exo a C none))
    (ha : PA X (e :: es) ta) (hxe : ∀ e s', X.xe e s' → E e s') (h : ta σ H fun ws H1 => ws.length ≤ 1000 ∧ H1 a = some (exo a C none) ∧ k H1)
    (he : starEach (e :: es) X.env = (false, eval e X.env) :: starEach es X.env) (hpl : (backTo p3 (starEach es X.env)).any (·.1) = false)
    (hc : eval (.Call (.Attribute (.Call (.Name "super" p0) [] [] p1) "__init__" p2) (e :: es) [] p3) X.env = (do
      let ov ← attributeBase (.Call (.Name "super" p0) [] [] p1) "__init__" X.env (eval (.Call (.Name "super" p0) [] [] p1) X.env)
      standAt p2.atName
      let (f, first) ← holding [ov] (getMethod ov "__init__" pl)
      callWith p3 f first (backTo p3 (starEach (e :: es) X.env)) []))
    (hs : swapsWith (.Call (.Attribute (.Call (.Name "super" p0) [] [] p1) "__init__" p2) (e :: es) [] p3) none p4.line X.env = pure false) :
    _root_.PySem.wpAt (model X.prog X.w) X.A (.func body X.env) (exec (.Expr (.Call (.Attribute (.Call (.Name "super" p0) [] [] p1) "__init__" p2) (e :: es) [] p3) p4) X.env) (fun fl s' => fl = .next ∧ ∃ H1, Inv X pins σ H1 s' ∧ k H1) E s := by
  obtain ⟨nm, q, N, bs, bm, sn, sub, ab, col, dd, k0, k1, k2, k3, k5, hC, hbm⟩ := T.oex.cls
  have hcd : PySem.W.clsIn X.K C = some { name := nm, bases := bs, mro := .ref C :: bm, ns := N, qualname := q, hasDict := true, slotNames := sn, subclasses := sub, abstract := ab, collection := col, hasDel := false } := by unfold PySem.W.clsIn; rw [hC] <;> rfl
  refine ks_wpAt_Expr_any (ks_wpAt_MethodCall (pl := pl) (ks_wpAt_super_base hks hkc (by decide) hfu (I.kIn _ _ lf) hfd hp hco (I.kIn _ _ lcda) hoc hvs hfile htop ?_) hc) I.quiet hs
  obtain ⟨mb, b1, b2⟩ := I.mod.blt
  refine PySem.W.ks_loadName_global I.ok.kind hks (Calls.loadGlobal_builtin (by rw [I.ok.glob]; exact I.mod.glob.keeps I.bk) ms (by rw [I.ok.blt]; exact b1.keeps I.bk) ((b2 _ (by decide)).trans (by decide +kernel)) ⟨rfl, ?_⟩)
  refine wpAny_loadName_free I.ok.kind hkc hcl ⟨_, I.kIn _ _ lcc, rfl⟩ ?_
  rw [har]
  obtain ⟨m, hn, hl⟩ := I.loc
  obtain ⟨ua, ra, la⟩ := hl 0 "self" (.ref a) hN hσ hv
  obtain rfl : ua = Value.ref a := ra
  obtain ⟨t1, ho⟩ := exo_at I.hok hH
  have IA : PySem.W.InstAt s.heap a _ C none := ⟨ho, rfl, rfl, trivial⟩
  have hne : a ≠ C := PySem.W.ks_ne I.kIn IA hcd
  have self_ok : ∀ {A' : Around} {E' : Value → Shared → Prop} {Q' : Value → Shared → Prop}, Q' (.ref a) s → wpAny (model X.prog X.w) A' (loadName X.env "self") Q' E' s := fun {A' E' Q'} hq => by
    rcases la with ⟨hk, hm⟩ | ⟨hk, c, hc', hcell⟩
    · exact wpAny_loadName_local I.ok.kind hk hn hm hq
    · rcases hk with hk | hk
      · exact wpAny_loadName_cell I.ok.kind hk hc' hcell hq
      · exact wpAny_loadName_free I.ok.kind hk hc' hcell hq (by decide)
  refine self_ok ?_
  have hDC := I.kIn _ _ hC
  clear hn hl la self_ok IA
  obtain ⟨hp0, g, d, tk, os⟩ := s
  refine ks_wpAny_isType_cls hDC rfl ⟨rfl, ?_⟩
  refine ks_wpAny_call_super hDC rfl ho rfl (fun c e => by cases e) (PySem.W.looks_mroIn I.kIn T.sub) (fun h1 e1 k1 => ?_)
  have I1 : Inv X pins σ H ⟨h1, g, d, tk, os⟩ := I.kept (t' := tk) k1
  have IA1 : PySem.W.InstAt h1 a _ C none := ⟨k1 _ _ ho, rfl, rfl, trivial⟩
  refine PySem.W.kxs_getMethod kxs_ValueError e1 (PySem.W.looks_opaque I1.kIn T.op) (l₀ := .ref C :: bm) (fun A' Q' E' s' kk qq => wpAny_bind ((PySem.W.looks_clsIn I1.kIn hcd) A' _ E' s' kk (wpAny_pure qq))) rfl I1.kIn ?_ (IA1.type.andThen (PySem.W.looks_subIn I1.kIn T.bB)) hne (by decide) ?_
  · have z := T.nxt
    unfold PySem.W.ks_superIn at z
    rw [hcd] at z
    exact z
  have I2 := pin_new (o := kxs_mw "ValueError.__init__" a) (a := h1.objs.size) (h' := h1.push (kxs_mw "ValueError.__init__" a)) (t' := tk + 1) I1 (fun b o e => Heap.get?_push_of_some _ e) (Nat.le_refl _) (Heap.get?_push_size _ rfl) (fun v e => by cases e)
  have hplain : (backTo p3 (starEach (e :: es) X.env)).any (·.1) = false := by rw [he]; show (false || (backTo p3 (starEach es X.env)).any (·.1)) = false; rw [hpl]; rfl
  refine PySem.W.kxs_callWith (i := "ValueError.__init__") (x := a) hplain ?_
  rw [he]
  refine Calls.evalArgs_plain ?_
  have hrun := ha.run p3 _ _ σ H _ I2 h
  rw [he] at hrun
  refine wpAny_mono hrun (fun us s3 hh => ?_) hxe
  obtain ⟨vs, H1, I3, r, hl1, hH1, hk1⟩ := hh
  refine ⟨pin_at I3, ?_⟩
  have hC3 := I3.kIn _ _ hC
  have hu := pin_at I3
  obtain ⟨t3, ho3⟩ := exo_at I3.hok hH1
  have hus : us.length ≤ sizeLine := by
    rw [← Paired.length r, sizeLine_eq]
    omega
  obtain ⟨hp3, g3, d3, tk3, os3⟩ := s3
  refine wpAny_call (codeAny_of_tree ?_)
  show wpAny _ X.A.in1 (callAny (.ref h1.objs.size) ⟨us, []⟩) _ _ _
  simp only [callAny]
  refine wpAny_bind (wpAny_load hu ?_)
  simp only [kxs_mw, show (Value.type "method-wrapper" == Value.type "method" || Value.type "method-wrapper" == Value.type "builtin_function_or_method" || Value.type "method-wrapper" == Value.type "method-wrapper") = true by decide, if_true]
  refine PySem.W.KFB.if_so (by decide) ?_
  refine wpAny_bind (PySem.W.check_bound_init F.excBase_ValueError.toExcCallFacts hC3 ho3 rfl ?_)
  refine wpAny_bind (wpAny_pure (wpAny_pure ?_))
  refine ⟨plainId_quiet F.excBase_ValueError.init.plain _, codeAny_builtin F.excBase_ValueError.initEntry ?_⟩
  refine PySem.W.exc_init_tree (cls := .ref C) (t0 := t3) (dv := none) (c2 := .none) (c3 := .none) (b4 := .bool false) ho3 hus (fun h' kk hx _ => ?_)
  have J := I3.write (t' := tk3) (x := a) (e := a) (o := exo a C none) (by rw [hH1]; exact True.intro) (.inl rfl) kk ⟨_, hx⟩ (exo_ok hx)
  have eu : upd H1 a (exo a C none) = H1 := by
    funext b
    by_cases hb : b = a
    · rw [hb, upd_same, hH1]
    · rw [upd_ne hb]
  rw [eu] at J
  exact ⟨by first | rfl | trivial, H1, unpin J, hk1⟩
end
/-- the words of a def of a class's body that says super() -/
abbrev mkF (x qual : Str) (st : Stmt) (cc cda : Addr) : NF := ⟨x, qual, defArgs st, defBody st, defScope st, [("__class__", cc)], cda⟩
structure FunS (P : Program) (K : PySem.W.Frag) (x qual : Str) (st : Stmt) (f : Addr) (fd : FuncData) (C : Addr) : Prop where
  ex : ∃ (oc : Value) (od : Option Addr) (kV doc pm : Value) (an : Option Addr) (cda cc : Addr) (ct : Value) (osl : Array (Option Value)) (cl : Value) (cld : Option Addr) (csl : Array (Option Value)) (o2 : Obj) (vs : Array Value) (file : Str) (tf : Tok),
    fd = PySem.W.fnX x qual (defArgs st) (defBody st) (defScope st) [("__class__", cc)] .none kV doc pm an (.ref cda) ct ∧ K.lookup f = some ⟨oc, od, .func fd, osl⟩ ∧ PySem.W.codeIn K (.ref cda) qual = true ∧ K.lookup cc = some ⟨cl, cld, .cell (some (.ref C)), csl⟩ ∧ K.lookup cda = some o2 ∧ o2.data = .fields vs ∧ vs[2]? = some (.str file tf) ∧ ((P.main.file : Str) == file) = true
  kp : PySem.W.keepIn K (.ref f) = true
section
variable {P : Program} {w : World} {K : PySem.W.Frag} {mg : Str → Option Value} {base : Heap}
theorem FunS.binds {x qual : Str} {st : Stmt} {f C : Addr} {fd : FuncData} {ps : List Str} (F : FunS P K x qual st f fd C)
    (h : ∀ (cc : Addr) (kV doc pm : Value) (an : Option Addr) (cdv ct : Value) (us : List Value), us.length = ps.length → bindArgs (PySem.W.fnX x qual (defArgs st) (defBody st) (defScope st) [("__class__", cc)] .none kV doc pm an cdv ct) ⟨us, []⟩ = pure (ps.zip us)) : Binds K fd ps [] := by
  obtain ⟨oc, od, kV, doc, pm, an, cda, cc, ct, osl, cl, cld, csl, o2, vs, file, tf, rfl, lk, hcd, _⟩ := F.ex
  exact .all (h cc kV doc pm an (.ref cda) ct)
theorem FunS.ok {x qual : Str} {st : Stmt} {f C : Addr} {fd : FuncData} {N ps : List Str} {k : Nat} {sp : Sp} {e : Expr} {es : List Expr} {p0 p1 p2 p3 p4 : Pos} {rest : List Stmt} {ar : Arg} (F : FunS P K x qual st f fd C) (T : SupC K C) (S : NScope N ("self" :: ps) ["__class__"] (defScope st))
    (hbd : defBody st = .Expr (.Call (.Attribute (.Call (.Name "super" p0) [] [] p1) "__init__" p2) (e :: es) [] p3) p4 :: rest) (ms : mg "super" = none) (htop : (P.main.scope.names.lookup ("super" : Str)).isSome = false) (hks : (defScope st).names.lookup ("super" : Str) = some .globalImplicit)
    (hpar : ((defArgs st).posonlyargs ++ (defArgs st).args).head? = some ar) (har : ar.arg = "self") (len : ∀ vs H Q E, sp vs H Q E → vs.length = ps.length + 1)
    (hbody : ∀ (cc cda : Addr) (A : Around) (outer : List Env) (s : Shared) (H : Hp) (vs : List V) (Q : VK) (E : XK), Room k (A.deeper (envF (mkF x qual st cc cda) f s.heap.objs.size)) → sp vs H Q E →
      ∃ ta t a, PA (ncx CX0 P w K mg base N (mkF x qual st cc cda) f A outer s H E).nox (e :: es) ta ∧ PSs (ncx CX0 P w K mg base N (mkF x qual st cc cda) f A outer s H E).nox rest t ∧ vs.head? = some (.ref a) ∧ H a = some (exo a C none) ∧
        ta (startF N vs [none]) H fun ws H1 => ws.length ≤ 1000 ∧ H1 a = some (exo a C none) ∧ t { nx := fun _ H' => Q .non H', rt := Q } (startF N vs [none]) H1)
    (he : ∀ env, starEach (e :: es) env = (false, eval e env) :: starEach es env) (hpl : ∀ env, (backTo p3 (starEach es env)).any (·.1) = false)
    (hc : ∀ env, ∃ pl, eval (.Call (.Attribute (.Call (.Name "super" p0) [] [] p1) "__init__" p2) (e :: es) [] p3) env = (do
      let ov ← attributeBase (.Call (.Name "super" p0) [] [] p1) "__init__" env (eval (.Call (.Name "super" p0) [] [] p1) env)
      standAt p2.atName
      let (f, first) ← holding [ov] (getMethod ov "__init__" pl)
      callWith p3 f first (backTo p3 (starEach (e :: es) env)) []))
    (hs : ∀ env, swapsWith (.Call (.Attribute (.Call (.Name "super" p0) [] [] p1) "__init__" p2) (e :: es) [] p3) none p4.line env = pure false) :
    FnOk P w K mg base CX0 (k + 1) f fd ("self" :: ps) sp := by
  refine ⟨len, fun A outer s H args us vs Q E hr e0 hb r hsp => ?_⟩
  obtain ⟨oc, od, kV, doc, pm, an, cda, cc, ct, osl, cl, cld, csl, o2, ws, file, tf, rfl, lk, hcd, lcc, lco, hoc, hvs, hfile⟩ := F.ex
  have hl := len _ _ _ _ hsp
  have KX : K.In s.heap := e0.mod.kin.keeps fun b o e => (e0.bs b o e).1
  have lim : s.heap.NoLimit := e0.mod.nolimit.keeps fun b o e => (e0.bs b o e).1
  refine codeAny_call_function hr.depth (KX _ _ lk) rfl S.co S.gen rfl (PySem.W.codeRec_of KX hcd) (hb _ _ _ _ ?_)
  refine wpAny_newFunctionEnv S.nocell (fun ⟨n, _⟩ hy => S.par n (List.of_mem_zip hy).1) (fun h₁ hns hsb => ⟨lim.fresh _ hsb, ?_⟩) S.kind
  show codeAny _ _ (.func (defBody st) (envF (mkF x qual st cc cda) f s.heap.objs.size)) _ _
  have kp : ∀ b o, s.heap.get? b = some o → h₁.get? b = some o := fun b o e => hsb.extBut b o (Nat.ne_of_lt (Heap.lt_size e)) (Heap.get?_push_of_some _ e)
  obtain ⟨ta, t, a, hta, ht, hva, hHa, hq⟩ := hbody cc cda A outer s H vs Q E (hr.deeper _) hsp
  have hcells : CellsAt (mkF x qual st cc cda).cl ["__class__"] [none] s.heap H := by
    have lcs := e0.mod.kin _ _ lcc
    refine ⟨rfl, fun y c hy => ?_, fun y z c h1 h2 => ?_, fun i y hy => ?_⟩
    · have hy2 : List.lookup y [(("__class__" : Str), cc)] = some c := hy
      simp only [List.lookup] at hy2
      split at hy2
      · cases hy2
        exact ⟨(e0.bs _ _ lcs).2, _, _, (e0.bs _ _ lcs).1, rfl⟩
      · cases hy2
    · have h1' : List.lookup y [(("__class__" : Str), cc)] = some c := h1
      have h2' : List.lookup z [(("__class__" : Str), cc)] = some c := h2
      simp only [List.lookup] at h1' h2'
      split at h1'
      · rename_i e1
        split at h2'
        · rename_i e2
          exact (beq_iff_eq.mp e1).trans (beq_iff_eq.mp e2).symm
        · cases h2'
      · cases h1'
    · cases i with
      | zero =>
        have e1 : (("__class__" : Str)) = y := Option.some.inj hy
        subst e1
        refine ⟨cc, ?_, fun v hv => ?_⟩
        · show List.lookup ("__class__" : Str) [(("__class__" : Str), cc)] = some cc
          simp [List.lookup]
        · cases hv
      | succ i => cases i <;> cases hy
  have I0 : L2.Inv (ncx CX0 P w K mg base N (mkF x qual st cc cda) f A outer s H E) [] (startF N vs [none]) H { s with heap := h₁, toks := s.toks + ((("self" : Str) :: ps).zip us).length } := inv_startN S hr.hd e0 hl r hcells hns kp
  have I := I0.wish (fun _ _ => False)
  have hN0 : N[0]? = some ("self" : Str) := by
    have z := S.pre
    cases N with
    | nil => cases z
    | cons n N' =>
      have z2 : n :: N'.take (ps.length + 1) = ("self" : Str) :: (ps ++ [("__class__" : Str)]) := z
      exact congrArg some (List.cons.inj z2).1
  have hs0 : (startF N vs [none])[0]? = some (some (V.ref a)) := by
    cases vs with
    | nil => cases hva
    | cons v vs' =>
      obtain rfl : v = V.ref a := Option.some.inj hva
      rfl
  have hseen : Vis (defScope st) "self" := .inl (S.par _ List.mem_cons_self)
  obtain ⟨pl, hcp⟩ := hc (envF (mkF x qual st cc cda) f s.heap.objs.size)
  refine ks_codeAny_funcAt ?_
  generalize hB : execs (defBody st) (envF (mkF x qual st cc cda) f s.heap.objs.size) = ex
  rw [show execs (defBody st) (envF (mkF x qual st cc cda) f s.heap.objs.size) = execs (.Expr (.Call (.Attribute (.Call (.Name "super" p0) [] [] p1) "__init__" p2) (e :: es) [] p3) p4 :: rest) (envF (mkF x qual st cc cda) f s.heap.objs.size) from by rw [← hbd]] at hB
  subst hB
  refine ks_wpAt_execs_cons (ks_wpAt_mono (sup_stmt (X := (ncx CX0 P w K mg base N (mkF x qual st cc cda) f A outer s H E).nox) (E := fun _ _ => False) T I hks (S.frk _ List.mem_cons_self) rfl lk rfl hpar har rfl lco hoc hvs hfile htop ms ?_ lcc hN0 hseen hs0 hHa hta (fun _ _ z => z) hq (he _) (hpl _) hcp (hs _)) (fun fl s' hh => ?_) fun _ _ z => False.elim z)
  · show List.lookup ("__class__" : Str) [(("__class__" : Str), cc)] = some cc
    simp [List.lookup]
  · obtain ⟨rfl, H1, I1, hk⟩ := hh
    refine wpAt_of_wpAny ?_
    refine wpAny_mono (ht.run [] s' (startF N vs [none]) H1 _ I1 hk) (fun fl s2 hs2 => ?_) fun _ _ z => False.elim z
    have fin : ∀ {σ' : L2.St} {H' : Hp} {v : V} {u : Value}, L2.Inv (ncx CX0 P w K mg base N (mkF x qual st cc cda) f A outer s H E).nox [] σ' H' s2 → L2.RelV v u → Q v H' → CE outer P w H s Q u s2 :=
      fun {σ' H' v u} J rv q => ⟨v, H', J.os, J.bare, J.base, J.hok, rv, q⟩
    cases fl with
    | ret u =>
      obtain ⟨v, σ', H', J, rv, q⟩ := hs2
      exact fin J rv q
    | next =>
      obtain ⟨σ', H', J, q⟩ := hs2
      exact fin (v := V.non) (u := Value.none) J rfl q
    | brk =>
      obtain ⟨_, _, _, q⟩ := hs2
      exact False.elim q
    | cont =>
      obtain ⟨_, _, _, q⟩ := hs2
      exact False.elim q
end
end Kin
/-! own exceptions held as values: made, asked for their class, their fields read -/
namespace Kin
open PySem PySem.Spec PyProof.Rows L2
/-- an exception of the class at C is at a: without a dict, or with one that has these fields -/
def ExAt (H : Hp) (a C : Addr) (fs : List (Str × V)) : Prop := H a = some (ExO (.ref C) a) ∨ ∃ dx, H a = some (exo a C (some dx)) ∧ H dx = some (exd dx fs)
theorem ExAt.same {H H' : Hp} {a C : Addr} {fs : List (Str × V)} (h : ExAt H a C fs) (s : Same H H') : ExAt H' a C fs := by
  rcases h with h | ⟨dx, h1, h2⟩
  · exact .inl (s _ _ h)
  · exact .inr ⟨dx, s _ _ h1, s _ _ h2⟩
theorem exO_at {P : Program} {w : World} {H : Hp} {h : Heap} {a : Addr} {cls : Value} (hok : HOk P w H h) (e : H a = some (ExO cls a)) : ∃ (oe : Obj) (vs : Array Value), h.get? a = some oe ∧ Zc cls none oe ∧ oe.data = .fields vs := by
  have x : ObjOk P w H h a (.ext fun h => ∃ (oe : Obj) (vs : Array Value), h.get? a = some oe ∧ Zc cls none oe ∧ oe.data = .fields vs ∧ vs[1]? = some .none ∧ vs[2]? = some .none ∧ 4 < vs.size) := hok a _ e
  obtain ⟨⟨oe, vs, h1, h2, h3, _⟩, _, _⟩ := x
  exact ⟨oe, vs, h1, h2, h3⟩
theorem exAt_inst {P : Program} {w : World} {H : Hp} {h : Heap} {a C : Addr} {fs : List (Str × V)} (hok : HOk P w H h) (e : ExAt H a C fs) : ∃ ox od, PySem.W.InstAt h a ox C od := by
  rcases e with e | ⟨dx, e1, e2⟩
  · obtain ⟨oe, vs, h1, h2, h3⟩ := exO_at hok e
    obtain ⟨oc, od, oda, osl⟩ := oe
    obtain ⟨z1, z2⟩ := h2
    dsimp only at z1 z2 h3
    subst z1 z2 h3
    exact ⟨_, none, h1, rfl, rfl, trivial⟩
  · obtain ⟨t1, ho⟩ := exo_at hok e1
    obtain ⟨mA, ⟨oD, es, ep, hoD, _⟩, _⟩ := exd_at hok e2
    exact ⟨_, some oD, ho, rfl, rfl, hoD⟩
/-- isinstance(e, c), e an exception -/
def rIsV (K : PySem.W.Frag) : List V → Hp → VK → Prop := fun xs H Q => ∃ (a C : Addr) (fs : List (Str × V)) (c : V) (cv : Value) (b : Bool), xs = [.ref a, c] ∧ ExAt H a C fs ∧ ExcC K C ∧ (∀ u, RelV c u → u = cv) ∧ PySem.W.kitOne K (.ref C) cv = some b ∧ Q (.bl b) H
theorem call_isV {X : Cx} : CallR X (.builtin "isinstance") (rIsV X.K) := by
  intro pins s σ H xs us Q I r h
  obtain ⟨a, C, fs, c, cv, b, rfl, ea, T, hcv, e, q⟩ := h
  obtain ⟨u1, u2, rfl, r1, r2⟩ := vals2 r
  obtain rfl : u1 = Value.ref a := r1
  have ec := hcv _ r2
  subst ec
  obtain ⟨ox, od, J⟩ := exAt_inst I.hok ea
  have hcl : (PySem.W.clsIn X.K C).isSome = true := by
    have z := T.hd
    unfold PySem.W.hasDictIn at z
    cases hh : PySem.W.clsIn X.K C with
    | none => rw [hh] at z; cases z
    | some _ => rfl
  exact PySem.W.kia_one (PySem.W.kitx_exc hcl T.hg T.hk T.hs T.ha T.hn T.ht T.hm) I.kIn J e (fun z => nomatch z) fun tk => ⟨.bl b, H, I.kept (t' := tk) fun _ _ z => z, rfl, q⟩
/-- e.f, e an exception with fields -/
def tExf (K : PySem.W.Frag) (f : Str) (te : TE) : TE := fun σ H Q => te σ H fun x H1 => ∃ (a C dx : Addr) (fs : List (Str × V)) (v : V), x = .ref a ∧ XfC K C ∧ PySem.W.findIn K (.ref C) f = some none ∧ H1 a = some (exo a C (some dx)) ∧ H1 dx = some (exd dx fs) ∧ fs.lookup f = some v ∧ Q v H1
theorem pe_exf {X : Cx} {e : Expr} {te : TE} {pos : Pos} {n : Str} (he : PE X e te) (hb : attributeBase e n X.env (eval e X.env) = eval e X.env := by rfl) : PE X (.Attribute e n pos) (tExf X.K n te) := by
  refine ⟨fun pins s σ H Q I h => ?_⟩
  refine attr_of hb (thn (he.run pins s σ H _ I h) fun u s1 hh => ?_)
  obtain ⟨x, H1, I1, rx, a, C, dx, fs, v, ex, T, hno, ea, ed, l, q⟩ := hh
  subst ex
  obtain rfl : u = Value.ref a := rx
  obtain ⟨t1, ho⟩ := exo_at I1.hok ea
  obtain ⟨mA, hns, hr⟩ := exd_at I1.hok ed
  obtain ⟨od, hod, hl⟩ := lookIn_ns hns
  obtain ⟨u, hu, ru⟩ := RelO.some_of (v := v) (o := mA n) (by rw [← l]; exact hr n)
  have J : PySem.W.InstAt s1.heap a _ C (some od) := ⟨ho, rfl, rfl, hod⟩
  exact HandSPX.exc_get I1.kIn J T.ga T.gg T.exC (PySem.W.findObj_own T.hdC hno rfl (by rw [hl, hu])) (handed_of ru) ⟨v, H1, I1.tok _, ru, q⟩
/-- C(e, ..), C's own __init__ keeping sp, as a value -/
def tMkV (C : Addr) (sp : Sp) (ta : TA) : TE := fun σ H Q => ta σ H fun vs H1 => vs.length ≤ 1000 ∧ ∀ a, H1 a = none → sp (.ref a :: vs) (upd H1 a (exo a C none)) (fun v H2 => v = .non ∧ Q (.ref a) H2) (fun _ _ _ => False)
theorem pe_oex {X : Cx} {CX : CXT} {x : Str} {C fI : Addr} {k j : Nat} {fd : FuncData} {ps : List Str} {sp : Sp} {e : Expr} {es : List Expr} {ta : TA} {p pos : Pos} (T : OexC X.K C) (iC : PySem.W.findIn X.K (.ref C) "__init__" = some (some (.ref fI))) (tI : PySem.W.typeIn X.K (.ref fI) = some (.type "function"))
    (F1 : FnOk X.prog X.w X.K X.mg X.base CX k fI fd ps sp) (hr : Room j X.A) (hk : k + 1 ≤ j) (hb : Binds X.K fd ps []) (hx : Passes CX X (fun _ _ _ => False)) (hg : Gl X x) (hm : X.mg x = some (.ref C)) (ha : PA X (e :: es) ta)
    (hdb : (x == ("__debug__" : Str)) = false := by decide) (he : starEach (e :: es) X.env = (false, eval e X.env) :: starEach es X.env := by rfl) (hpl : (backTo pos (starEach es X.env)).any (·.1) = false := by rfl) :
    PE X (.Call (.Name x p) (e :: es) [] pos) (tMkV C sp ta) := by
  have hr : Room (k + 1) X.A := hr.mono hk
  refine ⟨fun pins s σ H Q I h => ?_⟩
  obtain ⟨nm, q, N, bs, bm, sn, sub, ab, col, dd, k0, k1, k2, k3, k5, hC, hbm⟩ := T.cls
  refine wpAny_Call_Name_kw (ld_glob I hg hm ?_ hdb)
  refine PySem.W.callWith_K (h₀ := X.base) I.ok.mod.kin T.kC (thn (ha.run pos pins s σ H _ I h) fun us s1 ⟨vs, H1, I1, r1, hz, q1⟩ => ⟨I1.kIn, ?_⟩) he hpl
  show wpAny _ _ (call (.ref C) us) _ _ _
  obtain ⟨hp, g, dr, tk, os⟩ := s1
  have hsz : hp.objs.size ≤ hp.objs.size + 1 := Nat.le_succ _
  have hn : H1 (hp.objs.size + 1) = none := I1.hok.fresh hsz
  have hq := q1 (hp.objs.size + 1) hn
  have kk : ∀ b o, hp.get? b = some o → ((hp.push (PySem.W.kdv_tup us)).push (PySem.HandSPX.excO C hp.objs.size)).get? b = some o := fun b o e => Heap.get?_push_of_some _ (Heap.get?_push_of_some _ e)
  have hget : ((hp.push (PySem.W.kdv_tup us)).push (PySem.HandSPX.excO C hp.objs.size)).get? (hp.objs.size + 1) = some (PySem.HandSPX.excO C hp.objs.size) := by heap_get
  have I2 : Inv X pins σ (upd H1 (hp.objs.size + 1) (exo (hp.objs.size + 1) C none)) ⟨(hp.push (PySem.W.kdv_tup us)).push (PySem.HandSPX.excO C hp.objs.size), g, dr, tk, os⟩ :=
    I1.laid (t' := tk) (a := hp.objs.size + 1) (o := exo (hp.objs.size + 1) C none) (h' := (hp.push (PySem.W.kdv_tup us)).push (PySem.HandSPX.excO C hp.objs.size)) kk hsz (exo_ok hget)
  have r2 : Vals (V.ref (hp.objs.size + 1) :: vs) (Value.ref (hp.objs.size + 1) :: us) := .cons rfl r1
  have hl : (Value.ref (hp.objs.size + 1) :: us).length = ps.length := by
    have e := r2.length
    rw [F1.len _ _ _ _ hq] at e
    exact e.symm
  have hus : us.length ≤ sizeLine := by
    rw [← Paired.length r1, sizeLine_eq]
    omega
  refine wpAny_call (PySem.HandSPX.call_own F.excBase_ValueError (fun Y => PySem.HandSPX.refsVE_contains Y bm hbm) (I1.kIn _ _ hC) (PySem.W.looks_findIn I1.kIn iC) (fun self => PySem.W.bind_fn I1.kIn self tI) hus
    (codeAny_mono (F1.run _ X.stack _ _ ⟨Value.ref (hp.objs.size + 1) :: us, []⟩ (Value.ref (hp.objs.size + 1) :: us) _ _ (fun _ _ _ => False) (hr.make C us []) (I2.env0.make C us []) (by have z := hb _ (Value.ref (hp.objs.size + 1) :: us) I2.kIn (by rw [List.append_nil]; exact hl); rw [List.append_nil] at z; exact z) r2 hq) fun r s' hq' => ?_))
  cases r with
  | error er => exact hx pins σ _ _ er s' I2 hq'
  | ok fl =>
    cases fl with
    | ret u =>
      obtain ⟨v, H2, J, rv, ev, q2⟩ := I2.after hq'
      subst ev
      exact ⟨rv, .ref (hp.objs.size + 1), H2, J, rfl, q2⟩
    | next => exact False.elim hq'
    | brk => exact False.elim hq'
    | cont => exact False.elim hq'
end Kin
/-! what expressions give, the pen's draws counted -/
namespace Kin
open PySem PySem.Spec PyProof.Rows L2 RZ
/-- as many draws as may be -/
def Bd : Nat := 1000000
def PotM (H : Hp) (p c : Addr) (ns : List Int) (m : Nat) : Prop := ∃ a r, PotAt H p c ns a r ∧ a ≤ (m : Int)
def IW (p c : Addr) (ns : List Int) (rs : List Addr) (m : Nat) (H : Hp) : Prop := PotM H p c ns m ∧ ∀ b ∈ rs, H b ≠ none
section
variable {K : PySem.W.Frag} {p c q : Addr} {ns : List Int} {rs : List Addr} {H H1 H2 H' : Hp} {m m' : Nat}
theorem PotM.pot (h : PotM H p c ns m) : Pot H p c ns := by
  obtain ⟨a, r, z, _⟩ := h
  exact ⟨a, r, z⟩
theorem PotM.same (h : PotM H p c ns m) (s : Same H H') : PotM H' p c ns m := by
  obtain ⟨a, r, z, l⟩ := h
  exact ⟨a, r, ⟨s _ _ z.hp, s _ _ z.hc, z.ha, z.hr⟩, l⟩
theorem PotM.up (h : PotM H p c ns m) (l : m ≤ m') : PotM H p c ns m' := by
  obtain ⟨a, r, z, l2⟩ := h
  exact ⟨a, r, z, by omega⟩
theorem PotM.mut {o : HO} (h : PotM H p c ns m) (n : q ≠ p) (n2 : q ≠ c) : PotM (upd H q o) p c ns m := by
  obtain ⟨a, r, z, l⟩ := h
  exact ⟨a, r, ⟨by rw [upd_ne n.symm]; exact z.hp, by rw [upd_ne n2.symm]; exact z.hc, z.ha, z.hr⟩, l⟩
theorem IW.same (h : IW p c ns rs m H) (s : Same H H') : IW p c ns rs m H' := ⟨h.1.same s, fun b hb e => h.2 b hb (s.free e)⟩
theorem IW.up (h : IW p c ns rs m H) (l : m ≤ m') : IW p c ns rs m' H := ⟨h.1.up l, h.2⟩
theorem IW.new {o : HO} (h : IW p c ns rs m H) (n : H q = none) : IW p c ns rs m (upd H q o) := h.same (same_new n)
theorem IW.on (h : IW p c ns rs m H) : ∀ a ∈ p :: rs, H a ≠ none := fun a ha => by
  rcases List.mem_cons.mp ha with rfl | ha
  · intro e
    obtain ⟨⟨_, _, z, _⟩, _⟩ := h
    rw [z.hp] at e
    cases e
  · exact h.2 a ha
theorem IW.off (h : IW p c ns rs m H) (n : H q = none) : q ∉ p :: rs := fun z => h.on q z n
theorem IW.ne (h : IW p c ns rs m H) (n : H q = none) : q ≠ p := fun e => h.off n (e ▸ List.mem_cons_self)
theorem Da.fp {x : V} {d : PyData} (h : Da K (p :: rs) H x d) (f : Fp p H H1) : Da K (p :: rs) H1 x d := h.mono fun b o n => f b o fun e => n (e ▸ List.mem_cons_self)
theorem DaAll.fp {xs : List V} {ds : List PyData} (h : DaAll K (p :: rs) H xs ds) (f : Fp p H H1) : DaAll K (p :: rs) H1 xs ds := h.mono fun b o n => f b o fun e => n (e ▸ List.mem_cons_self)
theorem Da.nT {xs : List V} {ds : List PyData} (i : IW p c ns rs m H) (n : H q = none) (h : DaAll K (p :: rs) H xs ds) : Da K (p :: rs) (upd H q (.tup xs)) (.ref q) (.tuple ds) :=
  .tup (i.off n) upd_same (h.fp (Fp.new n))
theorem Da.nL {xs : List V} {ds : List PyData} (i : IW p c ns rs m H) (n : H q = none) (h : DaAll K (p :: rs) H xs ds) : Da K (p :: rs) (upd H q (.lst xs)) (.ref q) (.list ds) :=
  .lst (i.off n) upd_same (h.fp (Fp.new n))
end
/-- what an expression gives by at most k draws -/
def Gw (K : PySem.W.Frag) (p c : Addr) (ns : List Int) (rs : List Addr) (te : TE) (σ : L2.St) (H : Hp) (k : Nat) (G : PyData → Prop) : Prop := ∀ m H1, Fp p H H1 → IW p c ns rs m H1 → m + k ≤ Bd →
  ∀ Q : VK, (∀ x d H2, Fp p H1 H2 → IW p c ns rs (m + k) H2 → Da K (p :: rs) H2 x d → G d → Q x H2) → te σ H1 Q
def GwA (K : PySem.W.Frag) (p c : Addr) (ns : List Int) (rs : List Addr) (ta : TA) (σ : L2.St) (H : Hp) (k : Nat) (G : List PyData → Prop) : Prop := ∀ m H1, Fp p H H1 → IW p c ns rs m H1 → m + k ≤ Bd →
  ∀ Q : List V → Hp → Prop, (∀ xs ds H2, Fp p H1 H2 → IW p c ns rs (m + k) H2 → DaAll K (p :: rs) H2 xs ds → G ds → Q xs H2) → ta σ H1 Q
def GwT (p c : Addr) (ns : List Int) (rs : List Addr) (tt : TT) (σ : L2.St) (H : Hp) (k : Nat) : Prop := ∀ m H1, Fp p H H1 → IW p c ns rs m H1 → m + k ≤ Bd →
  ∀ Q : Bool → Hp → Prop, (∀ b H2, Fp p H1 H2 → IW p c ns rs (m + k) H2 → Q b H2) → tt σ H1 Q
section
variable {K : PySem.W.Frag} {p c : Addr} {ns : List Int} {rs : List Addr} {σ : L2.St} {H H1 : Hp} {te ta tb : TE} {tA : TA} {k k' j : Nat} {G G' : PyData → Prop}
theorem Gw.imp (h : Gw K p c ns rs te σ H k G) (i : ∀ d, G d → G' d) : Gw K p c ns rs te σ H k G' := fun m H1 f iw b Q q => h m H1 f iw b Q fun x d H2 f2 i2 hd g => q x d H2 f2 i2 hd (i d g)
theorem Gw.up (h : Gw K p c ns rs te σ H k G) (l : k ≤ k') : Gw K p c ns rs te σ H k' G := fun m H1 f iw b Q q => h m H1 f iw (by omega) Q fun x d H2 f2 i2 hd g => q x d H2 f2 (i2.up (by omega)) hd g
theorem Gw.fp (h : Gw K p c ns rs te σ H k G) (f0 : Fp p H H1) : Gw K p c ns rs te σ H1 k G := fun m H2 f iw b Q q => h m H2 (f0.trans f) iw b Q q
theorem gw_var {i : Nat} {x : V} {d : PyData} (hd : Da K (p :: rs) H x d) (h : σ[i]? = some (some x)) : Gw K p c ns rs (tVar i) σ H 0 (· = d) := fun m H1 f iw b Q q => ⟨x, h, q x d H1 (Fp.refl p H1) iw (hd.fp f) rfl⟩
theorem gw_non : Gw K p c ns rs (tC .non) σ H 0 (· = .none) := fun m H1 f iw b Q q => q _ _ H1 (Fp.refl p H1) iw .non rfl
theorem gw_bl {b : Bool} : Gw K p c ns rs (tC (.bl b)) σ H 0 (· = .bool b) := fun m H1 f iw _ Q q => q _ _ H1 (Fp.refl p H1) iw (.bl b) rfl
theorem gw_int {i : Int} : Gw K p c ns rs (tC (.int i)) σ H 0 (· = .int i) := fun m H1 f iw b Q q => q _ _ H1 (Fp.refl p H1) iw (.int i) rfl
theorem gw_str {s : Str} : Gw K p c ns rs (tC (.str s)) σ H 0 (· = .str s) := fun m H1 f iw b Q q => q _ _ H1 (Fp.refl p H1) iw (.str s) rfl
theorem gwa_nil : GwA K p c ns rs tNil σ H 0 (· = []) := fun m H1 f iw b Q q => q [] [] H1 (Fp.refl p H1) iw .nil rfl
theorem gwa_cons {Gs G'' : List PyData → Prop} (h : Gw K p c ns rs te σ H k G) (t : GwA K p c ns rs tA σ H k' Gs) (j : ∀ d r, G d → Gs r → G'' (d :: r)) : GwA K p c ns rs (tCons te tA) σ H (k + k') G'' := fun m H1 f iw b Q q =>
  h m H1 f iw (by omega) _ fun x d H2 f2 i2 hd g => t (m + k) H2 (f.trans f2) i2 (by omega) _ fun xs ds H3 f3 i3 hds gs => q _ _ H3 (f2.trans f3) (by rw [← Nat.add_assoc]; exact i3) (.cons (hd.fp f3) hds) (j d ds g gs)
theorem gw_tup {Gs : List PyData → Prop} (h : GwA K p c ns rs tA σ H k Gs) (l : ∀ ds, Gs ds → ds.length ≤ 1000) : Gw K p c ns rs (tTup tA) σ H k (fun d => ∃ ds, d = .tuple ds ∧ Gs ds) := fun m H1 f iw b Q q =>
  h m H1 f iw b _ fun xs ds H2 f2 i2 hds g => ⟨by rw [hds.len]; exact Nat.le_of_lt (small1000 (l ds g)), fun z nz => q _ _ _ (f2.trans (Fp.new nz)) (i2.new nz) (Da.nT i2 nz hds) ⟨ds, rfl, g⟩⟩
theorem gw_lst {Gs : List PyData → Prop} (h : GwA K p c ns rs tA σ H k Gs) (l : ∀ ds, Gs ds → ds.length ≤ 1000) : Gw K p c ns rs (tLst tA) σ H k (fun d => ∃ ds, d = .list ds ∧ Gs ds) := fun m H1 f iw b Q q =>
  h m H1 f iw b _ fun xs ds H2 f2 i2 hds g => ⟨by rw [hds.len]; exact Nat.le_of_lt (small1000 (l ds g)), fun z nz => q _ _ _ (f2.trans (Fp.new nz)) (i2.new nz) (Da.nL i2 nz hds) ⟨ds, rfl, g⟩⟩
theorem gw_op {r : R2} {G1 G2 : PyData → Prop} (ha : Gw K p c ns rs ta σ H k G1) (hb : Gw K p c ns rs tb σ H k' G2)
    (hr : ∀ x y d e m H1 (Q : VK), IW p c ns rs m H1 → Da K (p :: rs) H1 x d → Da K (p :: rs) H1 y e → G1 d → G2 e → (∀ z f H2, Fp p H1 H2 → IW p c ns rs m H2 → Da K (p :: rs) H2 z f → G f → Q z H2) → r x y H1 Q) : Gw K p c ns rs (tOp r ta tb) σ H (k + k') G := fun m H1 f iw b Q q =>
  ha m H1 f iw (by omega) _ fun x d H2 f2 i2 hd g1 => hb (m + k) H2 (f.trans f2) i2 (by omega) _ fun y e H3 f3 i3 he g2 => hr x y d e (m + k + k') H3 Q i3 (hd.fp f3) he g1 g2 fun z w H4 f4 i4 hz g => q z w H4 ((f2.trans f3).trans f4) (by rw [← Nat.add_assoc]; exact i4) hz g
end
end Kin
/-! rules of sorts: the pen stands in the first slot, its draws counted -/
namespace Kin
open PySem PySem.Spec PyProof.Rows L2 RZ
abbrev Ctx := List (Option Ty)
structure Okk (K : PySem.W.Frag) (p c : Addr) (ns : List Int) (rs : List Addr) (H : Hp) (σ : L2.St) (Γ : Ctx) : Prop where
  pen : σ[0]? = some (some (.ref p))
  len : Γ.length ≤ σ.length
  of : ∀ (i : Nat) (T : Ty), Γ[i]? = some (some T) → ∃ x d, σ[i]? = some (some x) ∧ Da K (p :: rs) H x d ∧ T.has d
theorem Okk.fp {K : PySem.W.Frag} {p c : Addr} {ns : List Int} {rs : List Addr} {H H1 : Hp} {σ : L2.St} {Γ : Ctx} (o : Okk K p c ns rs H σ Γ) (f : Fp p H H1) : Okk K p c ns rs H1 σ Γ :=
  ⟨o.pen, o.len, fun i T h => by
    obtain ⟨x, d, h1, h2, h3⟩ := o.of i T h
    exact ⟨x, d, h1, h2.fp f, h3⟩⟩
/-- an expression of a sort, by at most k draws -/
def TE' (K : PySem.W.Frag) (Γ : Ctx) (te : TE) (T : Ty) (k : Nat) : Prop := ∀ p c ns rs σ H, Okk K p c ns rs H σ Γ → Gw K p c ns rs te σ H k T.has
def TA' (K : PySem.W.Frag) (Γ : Ctx) (ta : TA) (Ts : List Ty) (k : Nat) : Prop := ∀ p c ns rs σ H, Okk K p c ns rs H σ Γ → GwA K p c ns rs ta σ H k (Ty.hasAll Ts)
def TT' (K : PySem.W.Frag) (Γ : Ctx) (tt : TT) (k : Nat) : Prop := ∀ p c ns rs σ H, Okk K p c ns rs H σ Γ → GwT p c ns rs tt σ H k
/-- the pen's draw -/
def sp_take : Sp := fun vs H Q _ => ∃ (p c : Addr) (ns : List Int) (many : Int) (m : Nat), vs = [.ref p, .int many] ∧ PotM H p c ns m ∧ m + 1 ≤ Bd ∧ (0 < many ∧ many < 2 ^ 200) ∧ ∀ (r : Int) H', 0 ≤ r → r < many → Fp p H H' → PotM H' p c ns (m + 1) → Q (.int r) H'
theorem fp_on {p : Addr} {H H' : Hp} {rs : List Addr} (f : Fp p H H') (hp : H' p ≠ none) (h : ∀ b ∈ rs, H b ≠ none) : ∀ b ∈ rs, H' b ≠ none := fun b hb e => by
  by_cases q : b = p
  · exact hp (q ▸ e)
  · exact h b hb (f.free q e)
theorem PotM.on {H : Hp} {p c : Addr} {ns : List Int} {m : Nat} (h : PotM H p c ns m) : H p ≠ none := fun e => by
  obtain ⟨_, _, z, _⟩ := h
  rw [z.hp] at e
  cases e
/-- a def that draws, by sorts -/
def sp_ty (K : PySem.W.Frag) (Ts : List Ty) (R : Ty) (k : Nat) : Sp := fun vs H Q _ => ∃ (p c : Addr) (ns : List Int) (rs : List Addr) (m : Nat) (xs : List V) (ds : List PyData), vs = .ref p :: xs ∧ DaAll K (p :: rs) H xs ds ∧ Ty.hasAll Ts ds ∧ IW p c ns rs m H ∧ m + k ≤ Bd ∧ ∀ x d H', Fp p H H' → IW p c ns rs (m + k) H' → Da K (p :: rs) H' x d → R.has d → Q x H'
/-- a def that only looks, by sorts -/
def sp_pu (K : PySem.W.Frag) (Ts : List Ty) (R : Ty) : Sp := fun vs H Q _ => ∃ (av : List Addr) (ds : List PyData), (∀ a ∈ av, H a ≠ none) ∧ DaAll K av H vs ds ∧ Ty.hasAll Ts ds ∧ ∀ x d H', Same H H' → Da K av H' x d → R.has d → Q x H'
section
variable {K : PySem.W.Frag} {Γ : Ctx} {te ta tb tl tm : TE} {tA : TA} {tt tu : TT} {T U t u : Ty} {Ts Us : List Ty} {l h l' h' : Int} {m n m' n' k k' k2 : Nat}
theorem ty_sub (j : Nat) (a : TE' K Γ te T k) (s : sub j T U = true) : TE' K Γ te U k := fun p c ns rs σ H o => (a p c ns rs σ H o).imp fun d hd => Ty.sub j s hd
theorem ty_up (a : TE' K Γ te T k) (s : k ≤ k') : TE' K Γ te T k' := fun p c ns rs σ H o => (a p c ns rs σ H o).up s
theorem ty_var (i : Nat) (e : Γ[i]? = some (some T)) : TE' K Γ (tVar i) T 0 := fun p c ns rs σ H o m H1 f iw b Q q => by
  obtain ⟨x, d, h1, h2, h3⟩ := o.of i T e
  exact ⟨x, h1, q x d H1 (Fp.refl p H1) iw (h2.fp f) h3⟩
theorem ty_non : TE' K Γ (tC .non) .non 0 := fun p c ns rs σ H o => gw_non
theorem ty_bl {b : Bool} : TE' K Γ (tC (.bl b)) .bool 0 := fun p c ns rs σ H o => gw_bl.imp fun d e => ⟨b, e⟩
theorem ty_int {i : Int} : TE' K Γ (tC (.int i)) (.int i i) 0 := fun p c ns rs σ H o => gw_int.imp fun d e => ⟨i, e, Int.le_refl _, Int.le_refl _⟩
theorem ty_lit {s : Str} : TE' K Γ (tC (.str s)) (.lit s) 0 := fun p c ns rs σ H o => gw_str.imp fun d e => e
theorem ta_nil : TA' K Γ tNil [] 0 := fun p c ns rs σ H o m H1 f iw b Q q => q [] [] H1 (Fp.refl p H1) iw .nil trivial
theorem ta_cons (a : TE' K Γ te T k) (b : TA' K Γ tA Ts k') : TA' K Γ (tCons te tA) (T :: Ts) (k + k') := fun p c ns rs σ H o => gwa_cons (a p c ns rs σ H o) (b p c ns rs σ H o) fun d r g gs => ⟨g, gs⟩
theorem ty_tup (a : TA' K Γ tA Ts k) (n : Ts.length ≤ 1000) : TE' K Γ (tTup tA) (.tup Ts) k := fun p c ns rs σ H o => (gw_tup (a p c ns rs σ H o) fun ds g => by rw [← hasAll_len g]; exact n).imp fun d e => e
/-- one of several sorts -/
def join : List Ty → Ty
  | [] => .nv
  | [t] => t
  | t :: ts => .or t (join ts)
theorem join_has : ∀ {ts : List Ty} {ds : List PyData}, Ty.hasAll ts ds → ∀ e ∈ ds, (join ts).has e
  | [], [], _ => fun e h => nomatch h
  | [t], [d], h => fun e he => by
    rw [List.mem_singleton.mp he]
    exact h.1
  | t :: u :: ts, d :: ds, h => fun e he => by
    show t.has e ∨ (join (u :: ts)).has e
    rcases List.mem_cons.mp he with rfl | he
    · exact .inl h.1
    · exact .inr (join_has h.2 e he)
theorem ty_lst (a : TA' K Γ tA Ts k) (n : Ts.length ≤ 1000) : TE' K Γ (tLst tA) (.lst (join Ts) Ts.length Ts.length) k := fun p c ns rs σ H o => (gw_lst (a p c ns rs σ H o) fun ds g => by rw [← hasAll_len g]; exact n).imp fun d ⟨ds, e, g⟩ => ⟨ds, e, Nat.le_of_eq (hasAll_len g), Nat.le_of_eq (hasAll_len g).symm, join_has g⟩
theorem ty_ixL (a : TE' K Γ ta (.lst t m n) k) (b : TE' K Γ tb (.int l h) k') (s : (decide (0 ≤ l) && decide (h < (m : Int))) = true) : TE' K Γ (tOp (rIxL K) ta tb) t (k + k') := fun p c ns rs σ H o =>
  gw_op (a p c ns rs σ H o) (b p c ns rs σ H o) fun x y d e _ H1 Q iw hd he ⟨ds, e1, h1, h2, h3⟩ ⟨i, e2, h4, h5⟩ q => by
    subst e1 e2
    rw [Bool.and_eq_true] at s
    have k1 := of_decide_eq_true s.1
    have k2 := of_decide_eq_true s.2
    cases he
    cases hd with
    | lst nn hh tt =>
      have hi : i.toNat < ds.length := by omega
      obtain ⟨v, hv, hvd⟩ := tt.at (List.getElem?_eq_getElem hi)
      exact ⟨_, _, _, v, rfl, rfl, SqL.of hh, at_of (j := i.toNat) (Int.toNat_of_nonneg (by omega)).symm hv, q v _ H1 (Fp.refl p H1) iw hvd (h3 _ (List.getElem_mem hi))⟩
theorem ty_ixT {i : Nat} (a : TE' K Γ ta (.tup Ts) k) (e : Ts[i]? = some t) : TE' K Γ (tOp (rIxT K) ta (tC (.int (i : Int)))) t (k + 0) := fun p c ns rs σ H o =>
  gw_op (a p c ns rs σ H o) gw_int fun x y d f _ H1 Q iw hd he ⟨ds, e1, g⟩ e2 q => by
    subst e1 e2
    cases he
    cases hd with
    | tup nn hh tt =>
      obtain ⟨z, h1, h2⟩ := hasAll_get g e
      obtain ⟨v, hv, hvd⟩ := tt.at h1
      exact ⟨_, _, _, v, rfl, rfl, SqT.of hh, at_of (j := i) rfl hv, q v _ H1 (Fp.refl p H1) iw hvd h2⟩
theorem ty_take (a : TE' K Γ tm (.int l h) k) (s : (decide (0 < l) && decide (h < 2 ^ 200)) = true) : TE' K Γ (tCall sp_take [] E0 (tCons (tVar 0) (tCons tm tNil))) (.int 0 (h - 1)) (k + 1) := fun p c ns rs σ H o m H1 f iw b Q q =>
  ⟨_, o.pen, a p c ns rs σ H o m H1 f iw (by omega) _ fun x d H2 f2 i2 hd ⟨i, e, h1, h2⟩ => by
    subst e
    cases hd
    rw [Bool.and_eq_true] at s
    have k1 := of_decide_eq_true s.1
    have k2 := of_decide_eq_true s.2
    exact ⟨p, c, ns, i, m + k, rfl, i2.1, b, ⟨by omega, by omega⟩, fun r H3 r0 r1 f3 p3 => q _ (.int r) H3 (f2.trans f3) ⟨p3, fp_on f3 p3.on i2.2⟩ (.int r) ⟨r, rfl, r0, by omega⟩⟩⟩
theorem ty_opI {f : Int → Int → Int} (a : TE' K Γ ta (.int l h) k) (b : TE' K Γ tb (.int l' h') k') {lo hi : Int} (hf : ∀ i j, l ≤ i → i ≤ h → l' ≤ j → j ≤ h' → lo ≤ f i j ∧ f i j ≤ hi) : TE' K Γ (tOp (rI0 fun i j => .int (f i j)) ta tb) (.int lo hi) (k + k') := fun p c ns rs σ H o =>
  gw_op (a p c ns rs σ H o) (b p c ns rs σ H o) fun x y d e _ H1 Q iw hd he ⟨i, e1, h1, h2⟩ ⟨j, e2, h3, h4⟩ q => by
    subst e1 e2
    cases hd
    cases he
    exact ⟨i, j, rfl, rfl, q _ _ H1 (Fp.refl p H1) iw (.int _) ⟨_, rfl, hf i j h1 h2 h3 h4⟩⟩
theorem ty_add (a : TE' K Γ ta (.int l h) k) (b : TE' K Γ tb (.int l' h') k') : TE' K Γ (tOp (rI0 fun i j => .int (i + j)) ta tb) (.int (l + l') (h + h')) (k + k') := ty_opI a b fun i j _ _ _ _ => ⟨by omega, by omega⟩
theorem ty_subI (a : TE' K Γ ta (.int l h) k) (b : TE' K Γ tb (.int l' h') k') : TE' K Γ (tOp (rI0 fun i j => .int (i - j)) ta tb) (.int (l - h') (h - l')) (k + k') := ty_opI a b fun i j _ _ _ _ => ⟨by omega, by omega⟩
/-- a product, a power, of written numbers -/
theorem ty_const {C : Int → Int → Prop} {f : Int → Int → Int} {i j : Int} (a : TE' K Γ ta (.int i i) k) (b : TE' K Γ tb (.int j j) k') (hc : C i j) : TE' K Γ (tOp (rI C fun i j => .int (f i j)) ta tb) (.int (f i j) (f i j)) (k + k') := fun p c ns rs σ H o =>
  gw_op (a p c ns rs σ H o) (b p c ns rs σ H o) fun x y d e _ H1 Q iw hd he ⟨x', e1, h1, h2⟩ ⟨y', e2, h3, h4⟩ q => by
    subst e1 e2
    cases hd
    cases he
    rw [show x' = i by omega, show y' = j by omega]
    exact ⟨i, j, rfl, rfl, hc, q _ _ H1 (Fp.refl p H1) iw (.int _) ⟨_, rfl, Int.le_refl _, Int.le_refl _⟩⟩
theorem ty_neg (a : TE' K Γ ta (.int l h) k) : TE' K Γ (tUn (rU fun i => .int (-i)) ta) (.int (-h) (-l)) k := fun p c ns rs σ H o m H1 f iw b Q q => a p c ns rs σ H o m H1 f iw b _ fun x d H2 f2 i2 hd ⟨i, e, h1, h2⟩ => by
  subst e
  cases hd
  exact ⟨i, rfl, q _ _ H2 f2 i2 (.int _) ⟨-i, rfl, by omega, by omega⟩⟩
theorem ty_repS {z : Str} {i : Int} (a : TE' K Γ ta (.lit z) k) (b : TE' K Γ tb (.int i i) k') (s : (decide (1 ≤ i) && (decide (i ≤ 1000) && (decide (z.length ≤ 1000) && decide (1 ≤ z.length)))) = true) : TE' K Γ (tOp rRepS ta tb) (.lit ⟨(List.replicate i.toNat z.cps.toList).flatten.toArray⟩) (k + k') := fun p c ns rs σ H o =>
  gw_op (a p c ns rs σ H o) (b p c ns rs σ H o) fun x y d e _ H1 Q iw hd he e1 ⟨j, e2, h3, h4⟩ q => by
    have e1 : d = .str z := e1
    subst e1 e2
    cases hd
    cases he
    rw [Bool.and_eq_true, Bool.and_eq_true, Bool.and_eq_true] at s
    rw [show j = i by omega]
    exact ⟨z, i, rfl, rfl, of_decide_eq_true s.1, of_decide_eq_true s.2.1, of_decide_eq_true s.2.2.1, of_decide_eq_true s.2.2.2, q _ _ H1 (Fp.refl p H1) iw (.str _) rfl⟩
theorem ty_cat (a : TE' K Γ ta (.lst t m n) k) (b : TE' K Γ tb (.lst u m' n') k') (s : n + n' ≤ 1000) : TE' K Γ (tOp rCat ta tb) (.lst (.or t u) (m + m') (n + n')) (k + k') := fun p c ns rs σ H o =>
  gw_op (a p c ns rs σ H o) (b p c ns rs σ H o) fun x y d e _ H1 Q iw hd he ⟨ds, e1, h1, h2, h3⟩ ⟨es, e2, h4, h5, h6⟩ q => by
    subst e1 e2
    cases hd with
    | lst nn hh tt =>
      cases he with
      | lst nn2 hh2 tt2 =>
        exact ⟨_, _, _, _, rfl, rfl, hh, hh2, by rw [tt.len, tt2.len]; exact Nat.le_of_lt (small1000 (by omega)), fun z nz => q _ _ _ (Fp.new nz) (iw.new nz) (Da.nL iw nz (tt.app tt2)) ⟨ds ++ es, rfl, by rw [List.length_append]; omega, by rw [List.length_append]; omega, fun x hx => (List.mem_append.mp hx).elim (fun h => .inl (h3 x h)) fun h => .inr (h6 x h)⟩⟩
theorem ty_len (a : TE' K Γ ta (.lst t m n) k) : TE' K Γ (tCB (rLenK K) (tCons ta tNil)) (.int m n) k := fun p c ns rs σ H o m1 H1 f iw b Q q => a p c ns rs σ H o m1 H1 f iw b _ fun x d H2 f2 i2 hd ⟨ds, e, h1, h2, _⟩ => by
  subst e
  cases hd with
  | lst nn hh tt => exact ⟨_, _, rfl, .inl (SqL.of hh), by rw [tt.len]; exact q _ _ _ f2 i2 (.int _) ⟨_, rfl, by omega, by omega⟩⟩
theorem ty_eqI (a : TE' K Γ ta (.int l h) k) (b : TE' K Γ tb (.int l' h') k') : TE' K Γ (tOp rEq ta tb) .bool (k + k') := fun p c ns rs σ H o =>
  gw_op (a p c ns rs σ H o) (b p c ns rs σ H o) fun x y d e _ H1 Q iw hd he ⟨i, e1, _⟩ ⟨j, e2, _⟩ q => by
    subst e1 e2
    cases hd
    cases he
    exact ⟨rfl, q _ _ H1 (Fp.refl p H1) iw (.bl _) ⟨_, rfl⟩⟩
theorem tt_bool (a : TE' K Γ ta .bool k) : TT' K Γ (tTest ta) k := fun p c ns rs σ H o m H1 f iw b Q q =>
  a p c ns rs σ H o m H1 f iw b _ fun x d H2 f2 i2 hd ⟨b, e⟩ => by
    subst e
    cases hd
    exact ⟨b, rfl, q b H2 f2 i2⟩
theorem ty_cmp {f : Int → Int → Bool} (a : TE' K Γ ta (.int l h) k) (b : TE' K Γ tb (.int l' h') k') : TE' K Γ (tOp (rI0 fun i j => .bl (f i j)) ta tb) .bool (k + k') := fun p c ns rs σ H o =>
  gw_op (a p c ns rs σ H o) (b p c ns rs σ H o) fun x y d e _ H1 Q iw hd he ⟨i, e1, _⟩ ⟨j, e2, _⟩ q => by
    subst e1 e2
    cases hd
    cases he
    exact ⟨i, j, rfl, rfl, q _ _ H1 (Fp.refl p H1) iw (.bl _) ⟨_, rfl⟩⟩
/-- == and != of lists and tuples -/
theorem ty_eqD {G1 G2 : Ty} (a : TE' K Γ ta G1 k) (b : TE' K Γ tb G2 k') (s1 : ∀ d, G1.has d → SeqAt.shaped d = true) (s2 : ∀ d, G2.has d → SeqAt.shaped d = true) : TE' K Γ (tOp (rEqD K) ta tb) .bool (k + k') := fun p c ns rs σ H o =>
  gw_op (a p c ns rs σ H o) (b p c ns rs σ H o) fun x y d e _ H1 Q iw hd he g1 g2 q => ⟨d, e, hd.dp, he.dp, s1 d g1, s2 e g2, q _ _ H1 (Fp.refl p H1) iw (.bl _) ⟨_, rfl⟩⟩
theorem ty_neD {G1 G2 : Ty} (a : TE' K Γ ta G1 k) (b : TE' K Γ tb G2 k') (s1 : ∀ d, G1.has d → SeqAt.shaped d = true) (s2 : ∀ d, G2.has d → SeqAt.shaped d = true) : TE' K Γ (tOp (rNeD K) ta tb) .bool (k + k') := fun p c ns rs σ H o =>
  gw_op (a p c ns rs σ H o) (b p c ns rs σ H o) fun x y d e _ H1 Q iw hd he g1 g2 q => ⟨d, e, hd.dp, he.dp, s1 d g1, s2 e g2, q _ _ H1 (Fp.refl p H1) iw (.bl _) ⟨_, rfl⟩⟩
theorem tt_and (a : TT' K Γ tt k) (b : TT' K Γ tu k') : TT' K Γ (tAnd tt tu) (k + k') := fun p c ns rs σ H o m H1 f iw bd Q q =>
  a p c ns rs σ H o m H1 f iw (by omega) _ fun x H2 f2 i2 => by
    cases x with
    | true => exact b p c ns rs σ H o (m + k) H2 (f.trans f2) i2 (by omega) _ fun y H3 f3 i3 => q y H3 (f2.trans f3) (by rw [← Nat.add_assoc]; exact i3)
    | false => exact q false H2 f2 (i2.up (by omega))
theorem tt_or (a : TT' K Γ tt k) (b : TT' K Γ tu k') : TT' K Γ (tOr tt tu) (k + k') := fun p c ns rs σ H o m H1 f iw bd Q q =>
  a p c ns rs σ H o m H1 f iw (by omega) _ fun x H2 f2 i2 => by
    cases x with
    | false => exact b p c ns rs σ H o (m + k) H2 (f.trans f2) i2 (by omega) _ fun y H3 f3 i3 => q y H3 (f2.trans f3) (by rw [← Nat.add_assoc]; exact i3)
    | true => exact q true H2 f2 (i2.up (by omega))
theorem tt_not (a : TT' K Γ tt k) : TT' K Γ (tNot tt) k := fun p c ns rs σ H o m H1 f iw bd Q q => a p c ns rs σ H o m H1 f iw bd _ fun x H2 f2 i2 => q _ H2 f2 i2
theorem ty_if (a : TT' K Γ tt k) (b : TE' K Γ ta T k') (d : TE' K Γ tb U k2) : TE' K Γ (tIf tt ta tb) (.or T U) (k + max k' k2) := fun p c ns rs σ H o m H1 f iw bd Q q =>
  a p c ns rs σ H o m H1 f iw (by omega) _ fun x H2 f2 i2 => by
    cases x with
    | true => exact b p c ns rs σ H o (m + k) H2 (f.trans f2) i2 (by omega) _ fun y e H3 f3 i3 he g => q y e H3 (f2.trans f3) (i3.up (by omega)) he (.inl g)
    | false => exact d p c ns rs σ H o (m + k) H2 (f.trans f2) i2 (by omega) _ fun y e H3 f3 i3 he g => q y e H3 (f2.trans f3) (i3.up (by omega)) he (.inr g)
theorem ty_modN {i : Int} (a : TE' K Γ ta (.int l h) k) (b : TE' K Γ tb (.int l' h') k') (s : decide (0 < l') = true) : TE' K Γ (tOp (rI (fun _ j => 0 < j) fun i j => .int (i % j)) ta tb) (.int 0 (h' - 1)) (k + k') := fun p c ns rs σ H o =>
  gw_op (a p c ns rs σ H o) (b p c ns rs σ H o) fun x y d e _ H1 Q iw hd he ⟨i, e1, h1, h2⟩ ⟨j, e2, h3, h4⟩ q => by
    subst e1 e2
    cases hd
    cases he
    have s := of_decide_eq_true s
    have g1 := Int.emod_nonneg i (show j ≠ 0 by omega)
    have g2 := Int.emod_lt_of_pos i (show 0 < j by omega)
    exact ⟨i, j, rfl, rfl, by omega, q _ _ H1 (Fp.refl p H1) iw (.int _) ⟨_, rfl, g1, by omega⟩⟩
/-- a def called with the pen -/
theorem ty_call {R : Ty} {kd : Nat} (j : Nat) (a : TA' K Γ tA Us k) (s : subAll j Us Ts = true) : TE' K Γ (tCall (sp_ty K Ts R kd) [] E0 (tCons (tVar 0) tA)) R (k + kd) := fun p c ns rs σ H o m H1 f iw bd Q q =>
  ⟨_, o.pen, a p c ns rs σ H o m H1 f iw (by omega) _ fun xs ds H2 f2 i2 hds g => ⟨p, c, ns, rs, m + k, xs, ds, by rw [List.append_nil], hds, (sub_ok j).2.1 _ _ _ s g, i2, by omega, fun x d H3 f3 i3 hd hr => q x d H3 (f2.trans f3) (by rw [← Nat.add_assoc]; exact i3) hd hr⟩⟩
/-- a def that only looks -/
theorem ty_pure {R : Ty} (j : Nat) (a : TA' K Γ tA Us k) (s : subAll j Us Ts = true) : TE' K Γ (tCall (sp_pu K Ts R) [] E0 tA) R k := fun p c ns rs σ H o m H1 f iw bd Q q =>
  a p c ns rs σ H o m H1 f iw bd _ fun xs ds H2 f2 i2 hds g => ⟨p :: rs, ds, i2.on, by rw [List.append_nil]; exact hds, (sub_ok j).2.1 _ _ _ s g, fun x d H3 s3 hd hr => q x d H3 (f2.trans (Fp.same s3)) (i2.same s3) hd hr⟩
end
end Kin
/-! sorts: comprehensions -/
namespace Kin
open PySem PySem.Spec PyProof.Rows L2 RZ
theorem wipe_get (σ : L2.St) : ∀ (vs : List Nat) (i : Nat), (wipe σ vs)[i]? = if i ∈ vs ∧ i < σ.length then some none else σ[i]?
  | [], i => by
    rw [if_neg fun h => nomatch h.1]
    rfl
  | v :: vs, i => by
    show ((wipe σ vs).set v none)[i]? = _
    rw [List.getElem?_set, wipe_get σ vs i, wipe_length]
    by_cases e : v = i
    · subst e
      rw [if_pos rfl]
      by_cases l : v < σ.length
      · rw [if_pos l, if_pos ⟨List.mem_cons_self, l⟩]
      · rw [if_neg l, if_neg fun h => l h.2]
        exact (List.getElem?_eq_none (by omega)).symm
    · rw [if_neg e]
      by_cases m : i ∈ vs ∧ i < σ.length
      · rw [if_pos m, if_pos ⟨List.mem_cons_of_mem _ m.1, m.2⟩]
      · rw [if_neg m, if_neg fun h => m ⟨(List.mem_cons.mp h.1).resolve_left fun q => e q.symm, h.2⟩]
theorem wipe_set {σ : L2.St} {vs : List Nat} {j : Nat} {x : Option V} (h : j ∈ vs) : wipe (σ.set j x) vs = wipe σ vs := by
  refine List.ext_getElem? fun i => ?_
  rw [wipe_get, wipe_get, List.length_set]
  by_cases m : i ∈ vs ∧ i < σ.length
  · rw [if_pos m, if_pos m]
  · rw [if_neg m, if_neg m, List.getElem?_set]
    by_cases e : j = i
    · subst e
      rw [if_pos rfl]
      have l : ¬ j < σ.length := fun l => m ⟨h, l⟩
      rw [if_neg l]
      exact (List.getElem?_eq_none (by omega)).symm
    · rw [if_neg e]
theorem wipe_wipe (σ : L2.St) (vs : List Nat) : wipe (wipe σ vs) vs = wipe σ vs := by
  refine List.ext_getElem? fun i => ?_
  rw [wipe_get, wipe_get, wipe_length]
  by_cases m : i ∈ vs ∧ i < σ.length
  · rw [if_pos m, if_pos m]
  · rw [if_neg m]
def wipeC (Γ : Ctx) : List Nat → Ctx
  | [] => Γ
  | v :: vs => (wipeC Γ vs).set v none
theorem wipeC_get {Γ : Ctx} : ∀ {vs : List Nat} {i : Nat} {T : Ty}, (wipeC Γ vs)[i]? = some (some T) → i ∉ vs ∧ Γ[i]? = some (some T)
  | [], i, T, h => ⟨(fun m => nomatch m), h⟩
  | v :: vs, i, T, h => by
    have h : ((wipeC Γ vs).set v none)[i]? = some (some T) := h
    rw [List.getElem?_set] at h
    by_cases e : v = i
    · rw [if_pos e] at h
      split at h <;> cases h
    · rw [if_neg e] at h
      obtain ⟨h1, h2⟩ := wipeC_get h
      exact ⟨fun m => (List.mem_cons.mp m).elim (fun q => e q.symm) h1, h2⟩
theorem wipeC_len (Γ : Ctx) : ∀ vs : List Nat, (wipeC Γ vs).length = Γ.length
  | [] => rfl
  | v :: vs => by
    show ((wipeC Γ vs).set v none).length = _
    rw [List.length_set, wipeC_len Γ vs]
section
variable {K : PySem.W.Frag} {p c : Addr} {ns : List Int} {rs : List Addr} {H H1 H2 H4 H' : Hp} {σ : L2.St} {Γ : Ctx}
theorem Okk.set {j : Nat} {x : V} {d : PyData} {T : Ty} (o : Okk K p c ns rs H σ Γ) (hj : j ≠ 0) (hd : Da K (p :: rs) H x d) (ht : T.has d) : Okk K p c ns rs H (σ.set j (some x)) (Γ.set j (some T)) := by
  refine ⟨by rw [List.getElem?_set_ne hj]; exact o.pen, by rw [List.length_set, List.length_set]; exact o.len, fun i U h => ?_⟩
  rw [List.getElem?_set] at h
  by_cases e : j = i
  · subst e
    rw [if_pos rfl] at h
    split at h
    · rename_i l
      cases h
      have := o.len
      exact ⟨x, d, by rw [List.getElem?_set, if_pos rfl, if_pos (by omega)], hd, ht⟩
    · cases h
  · rw [if_neg e] at h
    obtain ⟨y, f, h1, h2, h3⟩ := o.of i U h
    exact ⟨y, f, by rw [List.getElem?_set_ne e]; exact h1, h2, h3⟩
theorem Okk.wipe {vs : List Nat} (o : Okk K p c ns rs H σ Γ) (h0 : 0 ∉ vs) : Okk K p c ns rs H (L2.wipe σ vs) (wipeC Γ vs) := by
  refine ⟨by rw [wipe_get, if_neg fun h => h0 h.1]; exact o.pen, by rw [wipe_length, wipeC_len]; exact o.len, fun i T h => ?_⟩
  obtain ⟨h1, h2⟩ := wipeC_get h
  obtain ⟨x, d, h3, h4⟩ := o.of i T h2
  exact ⟨x, d, by rw [wipe_get, if_neg fun h => h1 h.1]; exact h3, h4⟩
/-- the list that grows, at D; m0 the draws ahead of it -/
structure Acc (K : PySem.W.Frag) (p c : Addr) (ns : List Int) (rs : List Addr) (u : Ty) (H2 : Hp) (D : Addr) (m lo hi : Nat) (H' : Hp) : Prop where
  new : H2 D = none
  ne : D ≠ p
  nc : D ≠ c
  f : Fp p H2 H'
  i : IW p c ns (rs ++ [D]) m H'
  ex : ∃ acc es, H' D = some (.lst acc) ∧ DaAll K (p :: (rs ++ [D])) H' acc es ∧ lo ≤ es.length ∧ es.length ≤ hi ∧ ∀ e ∈ es, u.has e
variable {u : Ty} {D : Addr} {m m' lo hi : Nat}
theorem Acc.start (i : IW p c ns rs m H2) (n : H2 D = none) : Acc K p c ns rs u H2 D m 0 0 (upd H2 D (.lst [])) :=
  ⟨n, i.1.pot.nep n, i.1.pot.nec n, Fp.new n, ⟨i.1.same (same_new n), fun b hb => (List.mem_append.mp hb).elim (fun h e => i.2 b h ((same_new n).free e)) fun h e => by
    rw [List.mem_singleton.mp h, upd_same] at e
    cases e⟩, [], [], upd_same, .nil, Nat.le_refl _, Nat.le_refl _, fun e h => nomatch h⟩
theorem Acc.up (a : Acc K p c ns rs u H2 D m lo hi H') (l : m ≤ m') : Acc K p c ns rs u H2 D m' lo hi H' := ⟨a.new, a.ne, a.nc, a.f, a.i.up l, a.ex⟩
theorem Acc.ok (a : Acc K p c ns rs u H2 D m lo hi H') (o : Okk K p c ns rs H2 σ Γ) : Okk K p c ns (rs ++ [D]) H' σ Γ :=
  ⟨o.pen, o.len, fun i T h => by
    obtain ⟨x, d, h1, h2, h3⟩ := o.of i T h
    exact ⟨x, d, h1, (h2.off a.new).fp a.f, h3⟩⟩
theorem Acc.da (a : Acc K p c ns rs u H2 D m lo hi H') {x : V} {d : PyData} (h : Da K (p :: rs) H2 x d) : Da K (p :: (rs ++ [D])) H' x d := (h.off a.new).fp a.f
theorem Acc.put (a : Acc K p c ns rs u H2 D m lo hi H') {y : V} {d : PyData} (f : Fp p H' H4) (i : IW p c ns (rs ++ [D]) m' H4) (hd : Da K (p :: (rs ++ [D])) H4 y d) (hu : u.has d) (hh : hi < 1000) :
    ∃ acc, H4 D = some (.lst acc) ∧ acc.length < sizeLine ∧ Acc K p c ns rs u H2 D m' (lo + 1) (hi + 1) (upd H4 D (.lst (acc ++ [y]))) := by
  obtain ⟨acc, es, h1, h2, h3, h4, h5⟩ := a.ex
  have hD4 : H4 D = some (.lst acc) := f D _ a.ne h1
  have mD : D ∈ p :: (rs ++ [D]) := List.mem_cons_of_mem _ (List.mem_append_right _ List.mem_cons_self)
  refine ⟨acc, hD4, by rw [h2.len]; exact small1000 (by omega), a.new, a.ne, a.nc, (a.f.trans f).mut a.new, ⟨i.1.mut a.ne a.nc, fun b hb e => ?_⟩, acc ++ [y], es ++ [d], upd_same, ((h2.fp f).app (.cons hd .nil)).put mD, by rw [List.length_append]; exact Nat.add_le_add_right h3 1, by rw [List.length_append]; exact Nat.add_le_add_right h4 1, fun e he => ?_⟩
  · by_cases q : b = D
    · rw [q, upd_same] at e
      cases e
    · rw [upd_ne q] at e
      exact i.2 b hb e
  · rcases List.mem_append.mp he with h | h
    · exact h5 e h
    · rw [List.mem_singleton.mp h]
      exact hu
theorem Acc.weak (a : Acc K p c ns rs u H2 D m lo hi H') {lo' hi' : Nat} (h1 : lo' ≤ lo) (h2 : hi ≤ hi') : Acc K p c ns rs u H2 D m lo' hi' H' := by
  obtain ⟨acc, es, e1, e2, e3, e4, e5⟩ := a.ex
  exact ⟨a.new, a.ne, a.nc, a.f, a.i, acc, es, e1, e2, by omega, by omega, e5⟩
theorem Acc.step (a : Acc K p c ns rs u H2 D m lo hi H') (f : Fp p H' H4) (i : IW p c ns (rs ++ [D]) m' H4) : Acc K p c ns rs u H2 D m' lo hi H4 := by
  obtain ⟨acc, es, e1, e2, e3, e4, e5⟩ := a.ex
  exact ⟨a.new, a.ne, a.nc, a.f.trans f, i, acc, es, f D _ a.ne e1, e2.fp f, e3, e4, e5⟩
theorem Acc.done (a : Acc K p c ns rs u H2 D m lo hi H') (i : IW p c ns rs m' H2) : IW p c ns rs m H' ∧ ∃ es, Da K (p :: rs) H' (.ref D) (.list es) ∧ lo ≤ es.length ∧ es.length ≤ hi ∧ ∀ e ∈ es, u.has e := by
  obtain ⟨acc, es, e1, e2, e3, e4, e5⟩ := a.ex
  refine ⟨⟨a.i.1, fun b hb => a.i.2 b (List.mem_append_left _ hb)⟩, es, .lst (i.off a.new) e1 (e2.less fun b hb => ?_), e3, e4, e5⟩
  rcases List.mem_cons.mp hb with q | q
  · rw [q]
    exact List.mem_cons_self
  · exact List.mem_cons_of_mem _ (List.mem_append_left _ q)
end
section
variable {K : PySem.W.Frag} {Γ : Ctx} {te tl : TE} {tA : TA} {tt : TT} {t u : Ty} {m n k k' k2 : Nat}
theorem ty_lcL {j : Nat} (a : TE' K Γ tl (.lst t m n) k) (e : TE' K ((wipeC Γ [j]).set j (some t)) te u k') (hj : j ≠ 0) (hn : n ≤ 1000) : TE' K Γ (tLc (iList K tl) (gName j) tYes te [j]) (.lst u m n) (k + n * k') := fun p c ns rs σ H o m0 H1 f iw b Q q =>
  a p c ns rs σ H o m0 H1 f iw (by omega) _ fun x d H2 f2 i2 hd ⟨ds, e0, h1, h2, h3⟩ => by
    subst e0
    cases hd with
    | lst nn h0 t0 =>
      rename_i a0 xs
      have o2 := (o.fp (f.trans f2)).wipe (vs := [j]) (fun m => hj (List.mem_singleton.mp m).symm)
      have hl := t0.len
      refine ⟨a0, rfl, ⟨xs, SqL.of h0⟩, fun D nD => lc_list (xs := xs) (fun i H' => Acc K p c ns rs u H2 D (m0 + k + i * k') i i H') (by have := Acc.start (K := K) (u := u) i2 nD; rwa [Nat.zero_mul]) (fun i H' _ a => SqL.of (a.f a0 _ (fun m => nn (by rw [m]; exact List.mem_cons_self)) h0)) (fun i x H' hx a => ?_) fun H' a => ?_⟩
      · obtain ⟨w, hf, hxf⟩ := t0.get hx
        have hi := (List.getElem?_eq_some_iff.mp hx).1
        have o3 := (a.ok o2).set (j := j) hj (a.da hxf) (h3 w (List.mem_of_getElem? hf))
        refine ⟨(wipe_set List.mem_cons_self).trans (wipe_wipe σ [j]), ?_⟩
        have hin : (i + 1) * k' ≤ n * k' := Nat.mul_le_mul_right _ (by omega)
        rw [Nat.add_mul, Nat.one_mul] at hin
        refine iteT (B := Acc K p c ns rs u H2 D (m0 + k + (i + 1) * k') (i + 1) (i + 1) H') (e p c ns (rs ++ [D]) _ H' o3 (m0 + k + i * k') H' (Fp.refl p H') a.i (by omega) _ fun y dy H4 f4 i4 hy hu => ?_)
        rw [Nat.add_mul, Nat.one_mul, ← Nat.add_assoc]
        exact a.put f4 i4 hy hu (by omega)
      · obtain ⟨i5, es, h4, h5, h6, h7⟩ := a.done i2
        have hin : xs.length * k' ≤ n * k' := Nat.mul_le_mul_right _ (by omega)
        exact q _ _ H' (f2.trans a.f) (i5.up (by omega)) h4 ⟨es, rfl, by omega, by omega, h7⟩
theorem ty_lcLt {j : Nat} (a : TE' K Γ tl (.lst t m n) k) (b : TT' K ((wipeC Γ [j]).set j (some t)) tt k2) (e : TE' K ((wipeC Γ [j]).set j (some t)) te u k') (hj : j ≠ 0) (hn : n ≤ 1000) : TE' K Γ (tLc (iList K tl) (gName j) tt te [j]) (.lst u 0 n) (k + n * (k2 + k')) := fun p c ns rs σ H o m0 H1 f iw bd Q q =>
  a p c ns rs σ H o m0 H1 f iw (by omega) _ fun x d H2 f2 i2 hd ⟨ds, e0, h1, h2, h3⟩ => by
    subst e0
    cases hd with
    | lst nn h0 t0 =>
      rename_i a0 xs
      have o2 := (o.fp (f.trans f2)).wipe (vs := [j]) (fun m => hj (List.mem_singleton.mp m).symm)
      have hl := t0.len
      refine ⟨a0, rfl, ⟨xs, SqL.of h0⟩, fun D nD => lc_list (xs := xs) (fun i H' => Acc K p c ns rs u H2 D (m0 + k + i * (k2 + k')) 0 i H') (by have := Acc.start (K := K) (u := u) i2 nD; rwa [Nat.zero_mul]) (fun i H' _ a => SqL.of (a.f a0 _ (fun m => nn (by rw [m]; exact List.mem_cons_self)) h0)) (fun i x H' hx a => ?_) fun H' a => ?_⟩
      · obtain ⟨w, hf, hxf⟩ := t0.get hx
        have hi := (List.getElem?_eq_some_iff.mp hx).1
        have o3 := (a.ok o2).set (j := j) hj (a.da hxf) (h3 w (List.mem_of_getElem? hf))
        refine ⟨(wipe_set List.mem_cons_self).trans (wipe_wipe σ [j]), ?_⟩
        have hin : (i + 1) * (k2 + k') ≤ n * (k2 + k') := Nat.mul_le_mul_right _ (by omega)
        rw [Nat.add_mul, Nat.one_mul] at hin
        refine b p c ns (rs ++ [D]) _ H' o3 (m0 + k + i * (k2 + k')) H' (Fp.refl p H') a.i (by omega) _ fun z H3 f3 i3 => ?_
        rw [Nat.add_mul, Nat.one_mul]
        cases z with
        | true => exact iteT (e p c ns (rs ++ [D]) _ H3 (o3.fp f3) _ H3 (Fp.refl p H3) i3 (by omega) _ fun y dy H4 f4 i4 hy hu => (a.put (f3.trans f4) (i4.up (by omega)) hy hu (by omega)).imp fun acc h => ⟨h.1, h.2.1, h.2.2.weak (Nat.zero_le _) (Nat.le_refl _)⟩)
        | false => exact iteF ((a.step f3 (i3.up (by omega))).weak (Nat.le_refl _) (Nat.le_succ _))
      · obtain ⟨i5, es, h4, h5, h6, h7⟩ := a.done i2
        have hin : xs.length * (k2 + k') ≤ n * (k2 + k') := Nat.mul_le_mul_right _ (by omega)
        exact q _ _ H' (f2.trans a.f) (i5.up (by omega)) h4 ⟨es, rfl, Nat.zero_le _, by omega, h7⟩
theorem ty_lcR {j : Nat} {l h : Int} (a : TA' K Γ tA [.int l h] k) (e : TE' K ((wipeC Γ [j]).set j (some (.int 0 (h - 1)))) te u k') (s : (decide (0 ≤ l) && decide (h ≤ 1000)) = true) (hj : j ≠ 0) : TE' K Γ (tLc (iRng1 tA) (gName j) tYes te [j]) (.lst u l.toNat h.toNat) (k + h.toNat * k') := fun p c ns rs σ H o m0 H1 f iw b Q q =>
  a p c ns rs σ H o m0 H1 f iw (by omega) _ fun xs ds H2 f2 i2 hds g => by
    rw [Bool.and_eq_true] at s
    have k1 := of_decide_eq_true s.1
    have k3 := of_decide_eq_true s.2
    match ds, g, hds with
    | [d], g, hds =>
      obtain ⟨i, e0, h1, h2⟩ := g.1
      subst e0
      cases hds with
      | cons hd t =>
        cases hd
        cases t
        have o2 := (o.fp (f.trans f2)).wipe (vs := [j]) (fun m => hj (List.mem_singleton.mp m).symm)
        refine ⟨i, rfl, by omega, by omega, fun D nD => lc_range (lo := 0) (n := i.toNat) (fun z H' => Acc K p c ns rs u H2 D (m0 + k + z * k') z z H') (by have := Acc.start (K := K) (u := u) i2 nD; rwa [Nat.zero_mul]) (fun z H' hz a => ?_) fun H' a => ?_⟩
        · have o3 := (a.ok o2).set (j := j) (T := .int 0 (h - 1)) hj (.int ((0 : Int) + (z : Nat))) ⟨_, rfl, by omega, by omega⟩
          refine ⟨(wipe_set List.mem_cons_self).trans (wipe_wipe σ [j]), ?_⟩
          have hin : (z + 1) * k' ≤ h.toNat * k' := Nat.mul_le_mul_right _ (by omega)
          rw [Nat.add_mul, Nat.one_mul] at hin
          refine iteT (B := Acc K p c ns rs u H2 D (m0 + k + (z + 1) * k') (z + 1) (z + 1) H') (e p c ns (rs ++ [D]) _ H' o3 (m0 + k + z * k') H' (Fp.refl p H') a.i (by omega) _ fun y dy H4 f4 i4 hy hu => ?_)
          rw [Nat.add_mul, Nat.one_mul, ← Nat.add_assoc]
          exact a.put f4 i4 hy hu (by omega)
        · obtain ⟨i5, es, h4, h5, h6, h7⟩ := a.done i2
          have hin : i.toNat * k' ≤ h.toNat * k' := Nat.mul_le_mul_right _ (by omega)
          exact q _ _ H' (f2.trans a.f) (i5.up (by omega)) h4 ⟨es, rfl, by omega, by omega, h7⟩
end
end Kin
/-! sorts: statements -/
namespace Kin
open PySem PySem.Spec PyProof.Rows L2 RZ
/-- a statement: from these sorts to those, or R given, by at most k draws -/
def TS' (K : PySem.W.Frag) (Γ : Ctx) (ts : TS) (Γ' : Ctx) (R : Ty) (k : Nat) : Prop := ∀ p c ns rs (D : Ends) σ H m, Okk K p c ns rs H σ Γ → IW p c ns rs m H → m + k ≤ Bd →
  (∀ σ' H', Fp p H H' → IW p c ns rs (m + k) H' → Okk K p c ns rs H' σ' Γ' → D.nx σ' H') → (∀ x d H', Fp p H H' → IW p c ns rs (m + k) H' → Da K (p :: rs) H' x d → R.has d → D.rt x H') → ts D σ H
def subC (k : Nat) : Ctx → Ctx → Bool
  | _, [] => true
  | [], _ :: _ => false
  | _ :: r, none :: s => subC k r s
  | some T :: r, some U :: s => sub k T U && subC k r s
  | none :: _, some _ :: _ => false
theorem subC_ok {k : Nat} : ∀ {Γ Δ : Ctx}, subC k Γ Δ = true → Δ.length ≤ Γ.length ∧ ∀ (i : Nat) (U : Ty), Δ[i]? = some (some U) → ∃ T, Γ[i]? = some (some T) ∧ sub k T U = true
  | Γ, [], _ => ⟨Nat.zero_le _, fun i U h => by cases h⟩
  | [], _ :: _, h => by simp [subC] at h
  | _ :: r, none :: s, h => by
    simp only [subC] at h
    obtain ⟨h1, h2⟩ := subC_ok h
    refine ⟨Nat.succ_le_succ h1, fun i U e => ?_⟩
    match i, e with
    | i + 1, e => exact h2 i U e
  | some T :: r, some U :: s, h => by
    simp only [subC, Bool.and_eq_true] at h
    obtain ⟨h1, h2⟩ := subC_ok h.2
    refine ⟨Nat.succ_le_succ h1, fun i V e => ?_⟩
    match i, e with
    | 0, e => cases e; exact ⟨T, rfl, h.1⟩
    | i + 1, e => exact h2 i V e
  | none :: _, some _ :: _, h => by simp [subC] at h
theorem Okk.weak {K : PySem.W.Frag} {p c : Addr} {ns : List Int} {rs : List Addr} {H : Hp} {σ : L2.St} {Γ Δ : Ctx} {k : Nat} (o : Okk K p c ns rs H σ Γ) (s : subC k Γ Δ = true) : Okk K p c ns rs H σ Δ := by
  obtain ⟨h1, h2⟩ := subC_ok s
  refine ⟨o.pen, Nat.le_trans h1 o.len, fun i U e => ?_⟩
  obtain ⟨T, e1, e2⟩ := h2 i U e
  obtain ⟨x, d, h3, h4, h5⟩ := o.of i T e1
  exact ⟨x, d, h3, h4, Ty.sub k e2 h5⟩
/-- several names, one after another -/
def gNames : List Nat → TGs
  | [] => gNil
  | i :: r => gCons (gName i) (gNames r)
def setAll (Γ : Ctx) : List Nat → List Ty → Ctx
  | i :: r, T :: Ts => setAll (Γ.set i (some T)) r Ts
  | _, _ => Γ
section
variable {K : PySem.W.Frag} {Γ Γ1 Γ2 Γ' Δ : Ctx} {te tl : TE} {tA : TA} {tt : TT} {ts tu tw tb : TS} {T U t R : Ty} {Ts : List Ty} {m n k k' k2 : Nat}
theorem tx_seq (a : TS' K Γ ts Γ1 R k) (b : TS' K Γ1 tu Γ2 R k') : TS' K Γ (tSeq ts tu) Γ2 R (k + k') := fun p c ns rs D σ H m o i bd q r =>
  a p c ns rs { D with nx := tu D } σ H m o i (by omega) (fun σ1 H1 f1 i1 o1 => b p c ns rs D σ1 H1 (m + k) o1 i1 (by omega) (fun σ2 H2 f2 i2 o2 => q σ2 H2 (f1.trans f2) (by rw [← Nat.add_assoc]; exact i2) o2) fun x d H2 f2 i2 hd hr => r x d H2 (f1.trans f2) (by rw [← Nat.add_assoc]; exact i2) hd hr) fun x d H1 f1 i1 hd hr => r x d H1 f1 (i1.up (by omega)) hd hr
theorem tx_asg {i : Nat} (a : TE' K Γ te T k) (hi : i ≠ 0) : TS' K Γ (tAsg te (gName i)) (Γ.set i (some T)) R k := fun p c ns rs D σ H m o iw bd q r =>
  a p c ns rs σ H o m H (Fp.refl p H) iw bd _ fun x d H1 f1 i1 hd ht => q _ H1 f1 i1 ((o.fp f1).set hi hd ht)
theorem tx_ret (j : Nat) (a : TE' K Γ te T k) (s : sub j T R = true) : TS' K Γ (tRet te) Γ' R k := fun p c ns rs D σ H m o iw bd q r =>
  a p c ns rs σ H o m H (Fp.refl p H) iw bd _ fun x d H1 f1 i1 hd ht => r x d H1 f1 i1 hd (Ty.sub j s ht)
theorem tx_drop (a : TE' K Γ te T k) : TS' K Γ (tDrop te) Γ R k := fun p c ns rs D σ H m o iw bd q r =>
  a p c ns rs σ H o m H (Fp.refl p H) iw bd _ fun x d H1 f1 i1 hd ht => q _ H1 f1 i1 (o.fp f1)
theorem tx_next : TS' K Γ tNext Γ R 0 := fun p c ns rs D σ H m o iw bd q r => q σ H (Fp.refl p H) iw o
theorem tx_up (a : TS' K Γ ts Γ1 R k) (l : k ≤ k') : TS' K Γ ts Γ1 R k' := fun p c ns rs D σ H m o iw bd q r => a p c ns rs D σ H m o iw (by omega) (fun σ' H' f i o' => q σ' H' f (i.up (by omega)) o') fun x d H' f i hd hr => r x d H' f (i.up (by omega)) hd hr
theorem tx_if (cc : TT' K Γ tt k) (a : TS' K Γ tu Γ1 R k') (b : TS' K Γ tw Γ1 R k2) : TS' K Γ (tIfS tt tu tw) Γ1 R (k + max k' k2) := fun p c ns rs D σ H m o iw bd q r =>
  cc p c ns rs σ H o m H (Fp.refl p H) iw (by omega) _ fun z H1 f1 i1 => by
    cases z with
    | true => exact iteT (B := tw D σ H1) (a p c ns rs D σ H1 (m + k) (o.fp f1) i1 (by omega) (fun σ2 H2 f2 i2 o2 => q σ2 H2 (f1.trans f2) (i2.up (by omega)) o2) fun x d H2 f2 i2 hd hr => r x d H2 (f1.trans f2) (i2.up (by omega)) hd hr)
    | false => exact iteF (A := tu D σ H1) (b p c ns rs D σ H1 (m + k) (o.fp f1) i1 (by omega) (fun σ2 H2 f2 i2 o2 => q σ2 H2 (f1.trans f2) (i2.up (by omega)) o2) fun x d H2 f2 i2 hd hr => r x d H2 (f1.trans f2) (i2.up (by omega)) hd hr)
theorem tx_weak (j : Nat) (a : TS' K Γ ts Γ1 R k) (s : subC j Γ1 Γ2 = true) : TS' K Γ ts Γ2 R k := fun p c ns rs D σ H m o iw bd q r => a p c ns rs D σ H m o iw bd (fun σ' H' f1 i1 o1 => q σ' H' f1 i1 (o1.weak s)) r
theorem gnames_ok {p c : Addr} {ns : List Int} {rs : List Addr} {H : Hp} : ∀ {is : List Nat} {Ts : List Ty} {ds : List PyData} {xs : List V} {σ : L2.St} {Γ : Ctx} {Q : L2.St → Hp → Prop}, Okk K p c ns rs H σ Γ → DaAll K (p :: rs) H xs ds → Ty.hasAll Ts ds → is.length = Ts.length → 0 ∉ is → (∀ σ', Okk K p c ns rs H σ' (setAll Γ is Ts) → Q σ' H) → gNames is xs σ H Q
  | [], [], [], _, σ, Γ, Q, o, .nil, _, _, _, q => ⟨rfl, q σ o⟩
  | i :: r, T :: Ts, d :: ds, x :: xs, σ, Γ, Q, o, .cons hd t, h, l, z, q => ⟨x, xs, rfl, gnames_ok (o.set (fun e => z (by rw [e]; exact List.mem_cons_self)) hd h.1) t h.2 (Nat.succ.inj l) (fun m => z (List.mem_cons_of_mem _ m)) q⟩
theorem tx_asgT {g : TGs} {z : Nat} (is : List Nat) (a : TE' K Γ te (.tup Ts) k) (hg : g = gNames is) (hk : Ts.length = z) (hl : is.length = Ts.length) (h0 : 0 ∉ is) : TS' K Γ (tAsg te (gTup K z g)) (setAll Γ is Ts) R k := fun p c ns rs D σ H m o iw bd q r =>
  a p c ns rs σ H o m H (Fp.refl p H) iw bd _ fun x d H1 f1 i1 hd ⟨ds, e, h⟩ => by
    subst e
    cases hd with
    | tup nn ht all =>
      refine ⟨_, _, rfl, SqT.of ht, by rw [all.len, ← hasAll_len h]; exact hk, ?_⟩
      rw [hg]
      exact gnames_ok (o.fp f1) all h hl h0 fun σ' o' => q σ' H1 f1 i1 o'
/-- a for over a range of few -/
theorem tx_forR {j : Nat} {l h : Int} (z : Nat) (C : Nat → Ctx) (a : TA' K Γ tA [.int l h] k) (s0 : subC z Γ (C 0) = true) (b : ∀ i : Nat, (i : Int) < h → TS' K ((C i).set j (some (.int i i))) tb (C (i + 1)) R k') (e : ∀ i : Nat, l ≤ (i : Int) → (i : Int) ≤ h → subC z (C i) Δ = true)
    (hl : (decide (0 ≤ l) && decide (h ≤ 1000)) = true) (hj : j ≠ 0) : TS' K Γ (tFor (iRng1 tA) (gName j) tb) Δ R (k + h.toNat * k') := fun p c ns rs D σ H m o iw bd q r =>
  a p c ns rs σ H o m H (Fp.refl p H) iw (by omega) _ fun xs ds H1 f1 i1 hds g => by
    rw [Bool.and_eq_true] at hl
    have k1 := of_decide_eq_true hl.1
    have k3 := of_decide_eq_true hl.2
    match ds, g, hds with
    | [d], g, hds =>
      obtain ⟨i, e0, h1, h2⟩ := g.1
      subst e0
      cases hds with
      | cons hd t =>
        cases hd
        cases t
        have big : ∀ z : Nat, z ≤ i.toNat → z * k' ≤ h.toNat * k' := fun z hz => Nat.mul_le_mul_right _ (by omega)
        refine ⟨i, rfl, by omega, by omega, for_range (lo := 0) (n := i.toNat) (fun z σ' H' => Fp p H H' ∧ IW p c ns rs (m + k + z * k') H' ∧ Okk K p c ns rs H' σ' (C z)) ⟨f1, by rw [Nat.zero_mul]; exact i1, (o.fp f1).weak s0⟩ (fun z σ' H' hz ⟨f2, i2, o2⟩ => ?_) fun σ' H' ⟨f2, i2, o2⟩ => q σ' H' f2 (i2.up (by have := big i.toNat (Nat.le_refl _); omega)) (o2.weak (e _ (by omega) (by omega)))⟩
        have o3 := o2.set (j := j) (T := .int z z) hj (.int ((0 : Int) + (z : Nat))) ⟨_, rfl, by omega, by omega⟩
        have b1 := big (z + 1) (by omega)
        rw [Nat.add_mul, Nat.one_mul] at b1
        exact b z (by omega) p c ns rs _ _ H' (m + k + z * k') o3 i2 (by omega) (fun σ2 H2 f3 i3 o4 => ⟨f2.trans f3, by rw [Nat.add_mul, Nat.one_mul, ← Nat.add_assoc]; exact i3, o4⟩) fun x d H2 f3 i3 hd hr => r x d H2 (f2.trans f3) (i3.up (by omega)) hd hr
/-- a for over a range of few, one name's sort growing -/
theorem tx_forG {j : Nat} {l h : Int} (z s : Nat) (T : Nat → Ty) (a : TA' K Γ tA [.int l h] k) (s0 : subC z Γ (Γ.set s (some (T 0))) = true) (b : ∀ i : Nat, (i : Int) < h → TS' K ((Γ.set s (some (T i))).set j (some (.int i i))) tb (Γ.set s (some (T (i + 1)))) R k') (e : ∀ i : Nat, l ≤ (i : Int) → (i : Int) ≤ h → subC z (Γ.set s (some (T i))) (Γ.set s (some U)) = true)
    (hl : (decide (0 ≤ l) && decide (h ≤ 1000)) = true) (hj : j ≠ 0) : TS' K Γ (tFor (iRng1 tA) (gName j) tb) (Γ.set s (some U)) R (k + h.toNat * k') := tx_forR z (fun i => Γ.set s (some (T i))) a s0 b e hl hj
/-- a for over a list -/
theorem tx_forL {j : Nat} (z : Nat) (a : TE' K Γ tl (.lst t m n) k) (s0 : subC z Γ Δ = true) (b : TS' K (Δ.set j (some t)) tb Δ R k') (hj : j ≠ 0) : TS' K Γ (tFor (iList K tl) (gName j) tb) Δ R (k + n * k') := fun p c ns rs D σ H m0 o iw bd q r =>
  a p c ns rs σ H o m0 H (Fp.refl p H) iw (by omega) _ fun x d H1 f1 i1 hd ⟨ds, e0, h1, h2, h3⟩ => by
    subst e0
    cases hd with
    | lst nn h0 t0 =>
      rename_i a0 xs
      have hl := t0.len
      have big : ∀ z : Nat, z ≤ xs.length → z * k' ≤ n * k' := fun z hz => Nat.mul_le_mul_right _ (by omega)
      refine ⟨a0, rfl, ⟨xs, SqL.of h0⟩, for_list (xs := xs) (fun z σ' H' => Fp p H1 H' ∧ IW p c ns rs (m0 + k + z * k') H' ∧ Okk K p c ns rs H' σ' Δ) ⟨Fp.refl p H1, by rw [Nat.zero_mul]; exact i1, (o.fp f1).weak s0⟩ (fun z σ' H' _ ⟨f2, _⟩ => SqL.of (f2 a0 _ (fun m => nn (by rw [m]; exact List.mem_cons_self)) h0)) (fun z x σ' H' hx ⟨f2, i2, o2⟩ => ?_) fun σ' H' ⟨f2, i2, o2⟩ => q σ' H' (f1.trans f2) (i2.up (by have := big xs.length (Nat.le_refl _); omega)) o2⟩
      obtain ⟨w, hf, hxf⟩ := t0.get hx
      have hz := (List.getElem?_eq_some_iff.mp hx).1
      have o3 := o2.set (j := j) hj (hxf.fp f2) (h3 w (List.mem_of_getElem? hf))
      have b1 := big (z + 1) (by omega)
      rw [Nat.add_mul, Nat.one_mul] at b1
      exact b p c ns rs _ _ H' (m0 + k + z * k') o3 i2 (by omega) (fun σ2 H2 f3 i3 o4 => ⟨f2.trans f3, by rw [Nat.add_mul, Nat.one_mul, ← Nat.add_assoc]; exact i3, o4⟩) fun x d H2 f3 i3 hd hr => r x d H2 ((f1.trans f2).trans f3) (i3.up (by omega)) hd hr
end
/-- nothing comes behind -/
abbrev Bot : Ctx := [some .nv]
theorem okk_start {K : PySem.W.Frag} {p c : Addr} {ns : List Int} {rs : List Addr} {H : Hp} {N : List Str} {Ts : List Ty} {xs : List V} {ds : List PyData} (all : DaAll K (p :: rs) H xs ds) (h : Ty.hasAll Ts ds) (m : Nat) (hn : N.length = 1 + Ts.length + m) :
    Okk K p c ns rs H (L2.start N (.ref p :: xs)) (none :: (Ts.map some ++ List.replicate m none)) := by
  have l1 := hasAll_len h
  have l2 := all.len
  have es : L2.start N (.ref p :: xs) = some (.ref p) :: (xs.map some ++ List.replicate m none) := by
    unfold L2.start
    rw [List.length_cons, show N.length - (xs.length + 1) = m by omega]
    rfl
  rw [es]
  refine ⟨rfl, by rw [List.length_cons, List.length_cons, List.length_append, List.length_append, List.length_map, List.length_map, List.length_replicate, List.length_replicate]; omega, fun k T e => ?_⟩
  match k, e with
  | k + 1, e =>
    rw [List.getElem?_cons_succ] at e ⊢
    by_cases hk : k < Ts.length
    · rw [List.getElem?_append_left (by rw [List.length_map]; exact hk), List.getElem?_map, List.getElem?_eq_getElem hk] at e
      cases e
      obtain ⟨d, hd, ht⟩ := hasAll_get h (List.getElem?_eq_getElem hk)
      obtain ⟨x, hx, hxd⟩ := all.at hd
      refine ⟨x, d, ?_, hxd, ht⟩
      rw [List.getElem?_append_left (by rw [List.length_map]; omega), List.getElem?_map, hx]
      rfl
    · rw [List.getElem?_append_right (by rw [List.length_map]; omega), List.getElem?_replicate] at e
      split at e <;> cases e
/-- a def's body by sorts -/
theorem ty_body {K : PySem.W.Frag} {N : List Str} {Ts : List Ty} {R : Ty} {ts : TS} {vs : List V} {H : Hp} {Q : VK} {E : XK} {k kd : Nat} (m : Nat) (h : sp_ty K Ts R kd vs H Q E) (hn : N.length = 1 + Ts.length + m) (a : TS' K (none :: (Ts.map some ++ List.replicate m none)) ts Bot R k) (l : k ≤ kd) : ts { nx := fun _ H' => Q .non H', rt := Q } (L2.start N vs) H := by
  obtain ⟨p, c, ns, rs, m0, xs, ds, rfl, all, hh, i, bd, q⟩ := h
  refine a p c ns rs _ _ H m0 (okk_start all hh m hn) i (by omega) (fun σ' H' f i1 o => ?_) fun x d H' f i1 hd hr => q x d H' f (i1.up (by omega)) hd hr
  obtain ⟨_, _, _, _, z⟩ := o.of 0 .nv rfl
  exact z.elim
theorem tyv_len {K : PySem.W.Frag} {Ts : List Ty} {R : Ty} {vs : List V} {H : Hp} {Q : VK} {E : XK} {n k : Nat} (h : sp_ty K Ts R k vs H Q E) (e : 1 + Ts.length = n) : vs.length = n := by
  obtain ⟨p, c, ns, rs, m0, xs, ds, rfl, all, hh, _⟩ := h
  have l1 := hasAll_len hh
  have l2 := all.len
  rw [List.length_cons]
  omega
end Kin
/-! sorts: what a test tells -/
namespace Kin
open PySem PySem.Spec PyProof.Rows L2 RZ
/-- a test: true with Γt, false with Γf -/
def NT (K : PySem.W.Frag) (Γ : Ctx) (tt : TT) (Γt Γf : Ctx) (k : Nat) : Prop := ∀ p c ns rs σ H m, Okk K p c ns rs H σ Γ → IW p c ns rs m H → m + k ≤ Bd →
  ∀ Q : Bool → Hp → Prop, (∀ b H2, Fp p H H2 → IW p c ns rs (m + k) H2 → (b = true → Okk K p c ns rs H2 σ Γt) → (b = false → Okk K p c ns rs H2 σ Γf) → Q b H2) → tt σ H Q
section
variable {K : PySem.W.Frag} {Γ Γ1 Γ2 Γt Γf Γt2 Γf2 Γ' : Ctx} {tt tu : TT} {ts tw : TS} {T R t : Ty} {l h n : Int} {k k' k2 i : Nat}
theorem nt_any (a : TT' K Γ tt k) : NT K Γ tt Γ Γ k := fun p c ns rs σ H m o iw b Q q => a p c ns rs σ H o m H (Fp.refl p H) iw b _ fun b H2 f2 i2 => q b H2 f2 i2 (fun _ => o.fp f2) fun _ => o.fp f2
theorem nt_not (a : NT K Γ tt Γt Γf k) : NT K Γ (tNot tt) Γf Γt k := fun p c ns rs σ H m o iw b Q q => a p c ns rs σ H m o iw b _ fun b H2 f2 i2 h1 h2 => q (!b) H2 f2 i2 (fun e => h2 (by cases b <;> first | rfl | cases e)) fun e => h1 (by cases b <;> first | rfl | cases e)
theorem nt_or (a : NT K Γ tt Γt Γf k) (b : NT K Γf tu Γt2 Γf2 k') : NT K Γ (tOr tt tu) Γ Γf2 (k + k') := fun p c ns rs σ H m o iw bd Q q => a p c ns rs σ H m o iw (by omega) _ fun z H2 f2 i2 h1 h2 => by
  cases z with
  | true => exact q true H2 f2 (i2.up (by omega)) (fun _ => o.fp f2) fun e => nomatch e
  | false => exact b p c ns rs σ H2 (m + k) (h2 rfl) i2 (by omega) _ fun z H3 f3 i3 h3 h4 => q z H3 (f2.trans f3) (by rw [← Nat.add_assoc]; exact i3) (fun _ => o.fp (f2.trans f3)) h4
theorem nt_and (a : NT K Γ tt Γt Γf k) (b : NT K Γt tu Γt2 Γf2 k') : NT K Γ (tAnd tt tu) Γt2 Γ (k + k') := fun p c ns rs σ H m o iw bd Q q => a p c ns rs σ H m o iw (by omega) _ fun z H2 f2 i2 h1 h2 => by
  cases z with
  | false => exact q false H2 f2 (i2.up (by omega)) (fun e => nomatch e) fun _ => o.fp f2
  | true => exact b p c ns rs σ H2 (m + k) (h1 rfl) i2 (by omega) _ fun z H3 f3 i3 h3 h4 => q z H3 (f2.trans f3) (by rw [← Nat.add_assoc]; exact i3) h3 fun _ => o.fp (f2.trans f3)
theorem Okk.narrow {p c : Addr} {ns : List Int} {rs : List Addr} {H : Hp} {σ : L2.St} {x : V} {d : PyData} (o : Okk K p c ns rs H σ Γ) (hx : σ[i]? = some (some x)) (hd : Da K (p :: rs) H x d) (ht : T.has d) : Okk K p c ns rs H σ (Γ.set i (some T)) := by
  refine ⟨o.pen, by rw [List.length_set]; exact o.len, fun j U e => ?_⟩
  rw [List.getElem?_set] at e
  by_cases q : i = j
  · subst q
    rw [if_pos rfl] at e
    split at e
    · cases e
      exact ⟨x, d, hx, hd, ht⟩
    · cases e
  · rw [if_neg q] at e
    exact o.of j U e
theorem nt_lt (e : Γ[i]? = some (some (.int l h))) : NT K Γ (tTest (tOp (rI0 fun i j => .bl (decide (i < j))) (tVar i) (tC (.int n)))) (Γ.set i (some (.int l (n - 1)))) (Γ.set i (some (.int n h))) 0 := fun p c ns rs σ H m o iw bd Q q => by
  obtain ⟨x, d, h1, h2, z, rfl, h3, h4⟩ := o.of i _ e
  cases h2
  refine ⟨_, h1, _, _, rfl, rfl, _, rfl, q _ H (Fp.refl p H) iw (fun b => o.narrow h1 (.int z) ⟨z, rfl, h3, ?_⟩) fun b => o.narrow h1 (.int z) ⟨z, rfl, ?_, h4⟩⟩
  · have := of_decide_eq_true b
    omega
  · have := of_decide_eq_false b
    omega
theorem nt_eq (e : Γ[i]? = some (some (.int l h))) : NT K Γ (tTest (tOp rEq (tVar i) (tC (.int n)))) (Γ.set i (some (.int n n))) (Γ.set i (some (.int (if n = l then l + 1 else l) (if n = h then h - 1 else h)))) 0 := fun p c ns rs σ H m o iw bd Q q => by
  obtain ⟨x, d, h1, h2, z, rfl, h3, h4⟩ := o.of i _ e
  cases h2
  refine ⟨_, h1, rfl, _, rfl, q _ H (Fp.refl p H) iw (fun b => o.narrow h1 (.int z) ⟨z, rfl, ?_, ?_⟩) fun b => o.narrow h1 (.int z) ⟨z, rfl, ?_, ?_⟩⟩
  · have := V.int.inj (of_decide_eq_true b)
    omega
  · have := V.int.inj (of_decide_eq_true b)
    omega
  · have : z ≠ n := fun e => of_decide_eq_false b (by rw [e])
    split <;> omega
  · have : z ≠ n := fun e => of_decide_eq_false b (by rw [e])
    split <;> omega
theorem tx_ifN (a : NT K Γ tt Γt Γf k) (b : TS' K Γt ts Γ1 R k') (d : TS' K Γf tw Γ1 R k2) : TS' K Γ (tIfS tt ts tw) Γ1 R (k + max k' k2) := fun p c ns rs D σ H m o iw bd q r =>
  a p c ns rs σ H m o iw (by omega) _ fun z H1 f1 i1 h1 h2 => by
    cases z with
    | true => exact iteT (B := tw D σ H1) (b p c ns rs D σ H1 (m + k) (h1 rfl) i1 (by omega) (fun σ2 H2 f2 i2 o2 => q σ2 H2 (f1.trans f2) (i2.up (by omega)) o2) fun x d H2 f2 i2 hd hr => r x d H2 (f1.trans f2) (i2.up (by omega)) hd hr)
    | false => exact iteF (A := ts D σ H1) (d p c ns rs D σ H1 (m + k) (h2 rfl) i1 (by omega) (fun σ2 H2 f2 i2 o2 => q σ2 H2 (f1.trans f2) (i2.up (by omega)) o2) fun x d H2 f2 i2 hd hr => r x d H2 (f1.trans f2) (i2.up (by omega)) hd hr)
/-- this can't be reached -/
theorem tx_absurd (i : Nat) (e : Γ[i]? = some (some (.int l h))) (b : h < l) : TS' K Γ ts Γ' R 0 := fun p c ns rs D σ H m o iw bd q r => by
  obtain ⟨x, d, h1, h2, z, rfl, h3, h4⟩ := o.of i _ e
  omega
end
end Kin
/-! sorts: a list of the def's own that grows -/
namespace Kin
open PySem PySem.Spec PyProof.Rows L2 RZ
/-- slot i holds a list at D that nothing else holds -/
structure OkO (K : PySem.W.Frag) (p c : Addr) (ns : List Int) (rs : List Addr) (D : Addr) (H : Hp) (σ : L2.St) (Γ : Ctx) (i : Nat) (t : Ty) (m n : Nat) : Prop where
  ok : Okk K p c ns (rs ++ [D]) H σ Γ
  gi : Γ[i]? = some none
  ne : D ≠ p
  nc : D ≠ c
  nr : D ∉ rs
  sl : σ[i]? = some (some (.ref D))
  ex : ∃ acc es, H D = some (.lst acc) ∧ DaAll K (p :: (rs ++ [D])) H acc es ∧ m ≤ es.length ∧ es.length ≤ n ∧ ∀ e ∈ es, t.has e
/-- all but the pen and the own list stays -/
def F2 (p D : Addr) (H H' : Hp) : Prop := ∀ b o, b ≠ p → b ≠ D → H b = some o → H' b = some o
section
variable {K : PySem.W.Frag} {p c D : Addr} {ns : List Int} {rs : List Addr} {H H1 H2 : Hp} {σ : L2.St} {Γ : Ctx} {i m n m' n' : Nat} {t t' : Ty}
theorem F2.refl : F2 p D H H := fun _ _ _ _ h => h
theorem F2.tr (a : F2 p D H H1) (b : F2 p D H1 H2) : F2 p D H H2 := fun x o h1 h2 h => b x o h1 h2 (a x o h1 h2 h)
theorem F2.fp (a : Fp p H H1) : F2 p D H H1 := fun b o h _ e => a b o h e
theorem less_av : ∀ b ∈ p :: rs, b ∈ p :: (rs ++ [D]) := fun b hb => by
  rcases List.mem_cons.mp hb with q | q
  · rw [q]
    exact List.mem_cons_self
  · exact List.mem_cons_of_mem _ (List.mem_append_left _ q)
theorem OkO.out (o : OkO K p c ns rs D H σ Γ i t m n) : Okk K p c ns rs H σ (Γ.set i (some (.lst t m n))) := by
  obtain ⟨acc, es, h1, h2, h3, h4, h5⟩ := o.ex
  have o1 : Okk K p c ns rs H σ Γ := ⟨o.ok.pen, o.ok.len, fun j T h => by
    obtain ⟨x, d, a1, a2, a3⟩ := o.ok.of j T h
    exact ⟨x, d, a1, a2.less less_av, a3⟩⟩
  exact o1.narrow o.sl (.lst (fun z => (List.mem_cons.mp z).elim o.ne o.nr) h1 (h2.less less_av)) ⟨es, rfl, h3, h4, h5⟩
theorem IW.out {k : Nat} (h : IW p c ns (rs ++ [D]) k H) : IW p c ns rs k H := ⟨h.1, fun b hb => h.2 b (List.mem_append_left _ hb)⟩
theorem OkO.fp (o : OkO K p c ns rs D H σ Γ i t m n) (f : Fp p H H1) : OkO K p c ns rs D H1 σ Γ i t m n := by
  obtain ⟨acc, es, h1, h2, h3, h4, h5⟩ := o.ex
  exact ⟨o.ok.fp f, o.gi, o.ne, o.nc, o.nr, o.sl, acc, es, f D _ o.ne h1, h2.fp f, h3, h4, h5⟩
theorem OkO.weak {z : Nat} (o : OkO K p c ns rs D H σ Γ i t m n) (s : sub z (.lst t m n) (.lst t' m' n') = true) : OkO K p c ns rs D H σ Γ i t' m' n' := by
  obtain ⟨acc, es, h1, h2, h3, h4, h5⟩ := o.ex
  have g : (Ty.lst t m n).has (.list es) := ⟨es, rfl, h3, h4, h5⟩
  obtain ⟨es', e, g1, g2, g3⟩ := Ty.sub z s g
  cases e
  exact ⟨o.ok, o.gi, o.ne, o.nc, o.nr, o.sl, acc, es, h1, h2, g1, g2, g3⟩
end
/-- an expression gives a new list -/
def TN' (K : PySem.W.Frag) (Γ : Ctx) (te : TE) (t : Ty) (m n k : Nat) : Prop := ∀ p c ns rs σ H, Okk K p c ns rs H σ Γ → ∀ m0 H1, Fp p H H1 → IW p c ns rs m0 H1 → m0 + k ≤ Bd →
  ∀ Q : VK, (∀ D xs ds H2, Fp p H1 H2 → IW p c ns rs (m0 + k) H2 → H2 D = none → DaAll K (p :: rs) H2 xs ds → m ≤ ds.length → ds.length ≤ n → (∀ e ∈ ds, t.has e) → Q (.ref D) (upd H2 D (.lst xs))) → te σ H1 Q
/-- a statement while the own list stands in slot i -/
def TO' (K : PySem.W.Frag) (Γ : Ctx) (i : Nat) (t : Ty) (m n : Nat) (ts : TS) (Γ' : Ctx) (t' : Ty) (m' n' : Nat) (R : Ty) (k : Nat) : Prop := ∀ p c ns rs D (Ds : Ends) σ H m0, OkO K p c ns rs D H σ Γ i t m n → IW p c ns (rs ++ [D]) m0 H → m0 + k ≤ Bd →
  (∀ σ' H', F2 p D H H' → IW p c ns (rs ++ [D]) (m0 + k) H' → OkO K p c ns rs D H' σ' Γ' i t' m' n' → Ds.nx σ' H') → (∀ x d H', F2 p D H H' → IW p c ns rs (m0 + k) H' → Da K (p :: rs) H' x d → R.has d → Ds.rt x H') → ts Ds σ H
section
variable {K : PySem.W.Frag} {Γ Γ1 Γ2 Γ' Γt Γf Δ : Ctx} {te : TE} {tA : TA} {tt : TT} {ts tu tb : TS} {t t1 t2 t' U R T : Ty} {Ts : List Ty} {i j m n m1 n1 m2 n2 m' n' k k' : Nat} {l h : Int}
theorem tn_lst (a : TA' K Γ tA Ts k) (s : Ts.length ≤ 1000) : TN' K Γ (tLst tA) (join Ts) Ts.length Ts.length k := fun p c ns rs σ H o m0 H1 f iw b Q q =>
  a p c ns rs σ H o m0 H1 f iw b _ fun xs ds H2 f2 i2 hds g => by
    have l := hasAll_len g
    exact ⟨by rw [hds.len, ← l]; exact Nat.le_of_lt (small1000 s), fun D nD => q D xs ds H2 f2 i2 nD hds (Nat.le_of_eq l) (Nat.le_of_eq l.symm) (join_has g)⟩
theorem to_enter (a : TN' K Γ te t m n k) (gi : Γ[i]? = some none) (hi : i ≠ 0) (b : TO' K Γ i t m n tu Γ' t' m' n' R k') : TS' K Γ (tSeq (tAsg te (gName i)) tu) (Γ'.set i (some (.lst t' m' n'))) R (k + k') := fun p c ns rs D0 σ H m0 o iw bd q r =>
  a p c ns rs σ H o m0 H (Fp.refl p H) iw (by omega) _ fun D xs ds H2 f2 i2 nD hds h3 h4 h5 => by
    have s2 : Same H2 (upd H2 D (.lst xs)) := same_new nD
    have hl : i < σ.length := by
      have := (List.getElem?_eq_some_iff.mp gi).1
      have := o.len
      omega
    have nr : D ∉ rs := fun z => i2.2 D z nD
    have iD : IW p c ns (rs ++ [D]) (m0 + k) (upd H2 D (.lst xs)) := ⟨i2.1.same s2, fun b hb => (List.mem_append.mp hb).elim (fun h e => i2.2 b h (s2.free e)) fun h e => by
      rw [List.mem_singleton.mp h, upd_same] at e
      cases e⟩
    have mD : D ∈ p :: (rs ++ [D]) := List.mem_cons_of_mem _ (List.mem_append_right _ List.mem_cons_self)
    have ok : OkO K p c ns rs D (upd H2 D (.lst xs)) (σ.set i (some (.ref D))) Γ i t m n := {
      ok := ⟨by rw [List.getElem?_set_ne hi]; exact o.pen, by rw [List.length_set]; exact o.len, fun j T e => by
        have hj : i ≠ j := fun z => by rw [z] at gi; rw [gi] at e; cases e
        obtain ⟨x, d, a1, a2, a3⟩ := o.of j T e
        exact ⟨x, d, by rw [List.getElem?_set_ne hj]; exact a1, ((a2.fp f2).off nD).put mD, a3⟩⟩
      gi := gi
      ne := i2.1.pot.nep nD
      nc := i2.1.pot.nec nD
      nr := nr
      sl := by rw [List.getElem?_set, if_pos rfl, if_pos hl]
      ex := ⟨xs, ds, upd_same, (hds.off nD).put mD, h3, h4, h5⟩ }
    have nH : H D = none := f2.free (i2.1.pot.nep nD) nD
    have back : ∀ {H'}, F2 p D (upd H2 D (.lst xs)) H' → Fp p H H' := fun f3 b u nb e => by
      have nb2 : b ≠ D := fun z => by rw [z, nH] at e; cases e
      exact f3 b u nb nb2 (by rw [upd_ne nb2]; exact f2 b u nb e)
    exact b p c ns rs D D0 _ _ (m0 + k) ok iD (by omega) (fun σ' H' f3 i3 o3 => q σ' H' (back f3) (by rw [← Nat.add_assoc]; exact i3.out) o3.out) fun x d H' f3 i3 hd hr => r x d H' (back f3) (by rw [← Nat.add_assoc]; exact i3) hd hr
theorem to_seq (a : TO' K Γ i t m n ts Γ1 t1 m1 n1 R k) (b : TO' K Γ1 i t1 m1 n1 tu Γ2 t2 m2 n2 R k') : TO' K Γ i t m n (tSeq ts tu) Γ2 t2 m2 n2 R (k + k') := fun p c ns rs D Ds σ H m0 o iw bd q r =>
  a p c ns rs D { Ds with nx := tu Ds } σ H m0 o iw (by omega) (fun σ1 H1 f1 i1 o1 => b p c ns rs D Ds σ1 H1 (m0 + k) o1 i1 (by omega) (fun σ2 H2 f2 i2 o2 => q σ2 H2 (f1.tr f2) (by rw [← Nat.add_assoc]; exact i2) o2) fun x d H2 f2 i2 hd hr => r x d H2 (f1.tr f2) (by rw [← Nat.add_assoc]; exact i2) hd hr) fun x d H1 f1 i1 hd hr => r x d H1 f1 (i1.up (by omega)) hd hr
/-- if ..: return .. -/
theorem to_ifret (a : NT K Γ tt Γt Γf k) (gf : Γf[i]? = some none) (b : TS' K (Γt.set i (some (.lst t m n))) ts Bot R k') (gt : Γt[i]? = some none) : TO' K Γ i t m n (tIfS tt ts tNext) Γf t m n R (k + k') := fun p c ns rs D Ds σ H m0 o iw bd q r =>
  a p c ns (rs ++ [D]) σ H m0 o.ok iw (by omega) _ fun z H1 f1 i1 h1 h2 => by
    have o1 := o.fp f1
    cases z with
    | true =>
      have o2 : OkO K p c ns rs D H1 σ Γt i t m n := ⟨h1 rfl, gt, o.ne, o.nc, o.nr, o.sl, o1.ex⟩
      exact iteT (B := tNext Ds σ H1) (b p c ns rs Ds σ H1 (m0 + k) o2.out i1.out (by omega) (fun σ2 H2 f2 i2 o3 => by
        obtain ⟨_, _, _, _, z⟩ := o3.of 0 .nv rfl
        exact z.elim) fun x d H2 f2 i2 hd hr => r x d H2 ((F2.fp f1).tr (F2.fp f2)) (by rw [← Nat.add_assoc]; exact i2) hd hr)
    | false =>
      have o2 : OkO K p c ns rs D H1 σ Γf i t m n := ⟨h2 rfl, gf, o.ne, o.nc, o.nr, o.sl, o1.ex⟩
      exact iteF (A := ts Ds σ H1) (q σ H1 (F2.fp f1) (i1.up (by omega)) o2)
theorem to_asg (a : TE' K Γ te T k) (hj : j ≠ 0) (ji : j ≠ i) : TO' K Γ i t m n (tAsg te (gName j)) (Γ.set j (some T)) t m n R k := fun p c ns rs D Ds σ H m0 o iw bd q r =>
  a p c ns (rs ++ [D]) σ H o.ok m0 H (Fp.refl p H) iw bd _ fun x d H1 f1 i1 hd ht => by
    have o1 := o.fp f1
    exact q _ H1 (F2.fp f1) i1 ⟨o1.ok.set hj hd ht, by rw [List.getElem?_set_ne ji]; exact o.gi, o.ne, o.nc, o.nr, by rw [List.getElem?_set_ne ji]; exact o.sl, o1.ex⟩
theorem to_app (a : TE' K Γ te T k) (s : n < 1000) : TO' K Γ i t m n (tDrop (tBM K "list" rAppend (tVar i) (tCons te tNil))) Γ (.or t T) (m + 1) (n + 1) R k := fun p c ns rs D Ds σ H m0 o iw bd q r => by
  obtain ⟨acc, es, h1, h2, h3, h4, h5⟩ := o.ex
  refine ⟨_, o.sl, .inl ⟨rfl, _, SqL.of h1⟩, a p c ns (rs ++ [D]) σ H o.ok m0 H (Fp.refl p H) iw bd _ fun x d H1 f1 i1 hd ht => ?_⟩
  have hD := f1 D _ o.ne h1
  have mD : D ∈ p :: (rs ++ [D]) := List.mem_cons_of_mem _ (List.mem_append_right _ List.mem_cons_self)
  have ft : F2 p D H (upd H1 D (.lst (acc ++ [x]))) := fun b u n1 n2 e => by
    rw [upd_ne n2]
    exact f1 b u n1 e
  refine ⟨D, acc, x, rfl, rfl, hD, by rw [h2.len]; exact small1000 (by omega), q σ _ ft ⟨i1.1.mut o.ne o.nc, fun b hb e => ?_⟩ ⟨⟨o.ok.pen, o.ok.len, fun j U e => ?_⟩, o.gi, o.ne, o.nc, o.nr, o.sl, acc ++ [x], es ++ [d], upd_same, ((h2.fp f1).app (.cons hd .nil)).put mD, by rw [List.length_append]; exact Nat.add_le_add_right h3 1, by rw [List.length_append]; exact Nat.add_le_add_right h4 1, fun e he => ?_⟩⟩
  · by_cases z : b = D
    · rw [z, upd_same] at e
      cases e
    · rw [upd_ne z] at e
      exact i1.2 b hb e
  · obtain ⟨y, f, a1, a2, a3⟩ := o.ok.of j U e
    exact ⟨y, f, a1, (a2.fp f1).put mD, a3⟩
  · rcases List.mem_append.mp he with z | z
    · exact .inl (h5 e z)
    · rw [List.mem_singleton.mp z]
      exact .inr ht
theorem to_weak (z : Nat) (a : TO' K Γ i t m n ts Γ1 t1 m1 n1 R k) (s : subC z Γ1 Γ2 = true) (gi : Γ2[i]? = some none) (s2 : sub z (.lst t1 m1 n1) (.lst t2 m2 n2) = true) (l : k ≤ k') : TO' K Γ i t m n ts Γ2 t2 m2 n2 R k' := fun p c ns rs D Ds σ H m0 o iw bd q r =>
  a p c ns rs D Ds σ H m0 o iw (by omega) (fun σ' H' f' i' o' => by
    have o2 := o'.weak s2
    exact q σ' H' f' (i'.up (by omega)) ⟨o2.ok.weak s, gi, o2.ne, o2.nc, o2.nr, o2.sl, o2.ex⟩) fun x d H' f' i' hd hr => r x d H' f' (i'.up (by omega)) hd hr
/-- a for over a range of few in which the own list grows -/
theorem to_forR (z : Nat) (T : Nat → Ty) (lo hi : Nat → Nat) (a : TA' K Γ tA [.int l h] k) (gi : Γ[i]? = some none) (s0 : sub z (.lst t m n) (.lst (T 0) (lo 0) (hi 0)) = true) (b : ∀ y : Nat, (y : Int) < h → TO' K (Γ.set j (some (.int y y))) i (T y) (lo y) (hi y) tb Γ (T (y + 1)) (lo (y + 1)) (hi (y + 1)) R k')
    (e : ∀ y : Nat, l ≤ (y : Int) → (y : Int) ≤ h → sub z (.lst (T y) (lo y) (hi y)) (.lst U m' n') = true) (hl : (decide (0 ≤ l) && decide (h ≤ 1000)) = true) (hj : j ≠ 0) (ji : j ≠ i) : TO' K Γ i t m n (tFor (iRng1 tA) (gName j) tb) Γ U m' n' R (k + h.toNat * k') := fun p c ns rs D Ds σ H m0 o iw bd q r =>
  a p c ns (rs ++ [D]) σ H o.ok m0 H (Fp.refl p H) iw (by omega) _ fun xs ds H1 f1 i1 hds g => by
    rw [Bool.and_eq_true] at hl
    have k1 := of_decide_eq_true hl.1
    have k3 := of_decide_eq_true hl.2
    match ds, g, hds with
    | [d], g, hds =>
      obtain ⟨i', e0, h1, h2⟩ := g.1
      subst e0
      cases hds with
      | cons hd tl =>
        cases hd
        cases tl
        have big : ∀ z : Nat, z ≤ i'.toNat → z * k' ≤ h.toNat * k' := fun z hz => Nat.mul_le_mul_right _ (by omega)
        refine ⟨i', rfl, by omega, by omega, for_range (lo := 0) (n := i'.toNat) (fun y σ' H' => F2 p D H H' ∧ IW p c ns (rs ++ [D]) (m0 + k + y * k') H' ∧ OkO K p c ns rs D H' σ' Γ i (T y) (lo y) (hi y)) ⟨F2.fp f1, by rw [Nat.zero_mul]; exact i1, (o.fp f1).weak s0⟩ (fun y σ' H' hz ⟨f2, i2, o2⟩ => ?_) fun σ' H' ⟨f2, i2, o2⟩ => q σ' H' f2 (i2.up (by have := big i'.toNat (Nat.le_refl _); omega)) (o2.weak (e _ (by omega) (by omega)))⟩
        have o3 : OkO K p c ns rs D H' (σ'.set j (some (.int ((0 : Int) + (y : Nat))))) (Γ.set j (some (.int y y))) i (T y) (lo y) (hi y) := ⟨o2.ok.set hj (.int _) ⟨_, rfl, by omega, by omega⟩, by rw [List.getElem?_set_ne ji]; exact gi, o2.ne, o2.nc, o2.nr, by rw [List.getElem?_set_ne ji]; exact o2.sl, o2.ex⟩
        have b1 := big (y + 1) (by omega)
        rw [Nat.add_mul, Nat.one_mul] at b1
        exact b y (by omega) p c ns rs D _ _ H' (m0 + k + y * k') o3 i2 (by omega) (fun σ2 H2 f3 i3 o4 => ⟨f2.tr f3, by rw [Nat.add_mul, Nat.one_mul, ← Nat.add_assoc]; exact i3, o4⟩) fun x d H2 f3 i3 hd hr => r x d H2 (f2.tr f3) (i3.up (by omega)) hd hr
/-- from here on it is a list as any other -/
theorem to_out (a : TS' K (Γ.set i (some (.lst t m n))) ts Bot R k) : TO' K Γ i t m n ts Γ' t' m' n' R k := fun p c ns rs D Ds σ H m0 o iw bd q r =>
  a p c ns rs Ds σ H m0 o.out iw.out bd (fun σ2 H2 f2 i2 o3 => by
    obtain ⟨_, _, _, _, z⟩ := o3.of 0 .nv rfl
    exact z.elim) fun x d H2 f2 i2 hd hr => r x d H2 (F2.fp f2) i2 hd hr
theorem to_enterB (a : TN' K Γ te t m n k) (gi : Γ[i]? = some none) (hi : i ≠ 0) (b : TO' K Γ i t m n tu Bot t m n R k') : TS' K Γ (tSeq (tAsg te (gName i)) tu) Bot R (k + k') := by
  have z := to_enter a gi hi b
  cases i with
  | zero => exact (hi rfl).elim
  | succ i => exact z
end
end Kin
/-! a comprehension with a row of names; tuples of lists -/
namespace Kin
open PySem PySem.Spec PyProof.Rows L2 RZ
def rTuple (K : PySem.W.Frag) : List V → Hp → VK → Prop := fun xs H Q => ∃ p ys, xs = [.ref p] ∧ ((SqL K H p ys ∧ ∀ l, H l = none → Q (.ref l) (upd H l (.tup ys))) ∨ (SqT K H p ys ∧ Q (.ref p) H))
theorem call_tupleK {X : Cx} (K : PySem.W.Frag) (h : X.K = K := by rfl) : CallR X (.type "tuple") (rTuple K) := by subst h; exact call_tuple_of
def rListOf (K : PySem.W.Frag) : List V → Hp → VK → Prop := fun xs H Q => ∃ p ys, xs = [.ref p] ∧ (SqL K H p ys ∨ SqT K H p ys) ∧ ∀ l, H l = none → Q (.ref l) (upd H l (.lst ys))
section
variable {K : PySem.W.Frag} {p c : Addr} {ns : List Int} {rs : List Addr} {H : Hp}
theorem gnames_wipe {vs : List Nat} : ∀ {is : List Nat} {Ts : List Ty} {ds : List PyData} {xs : List V} {σ : L2.St} {Γ : Ctx} {Q : L2.St → Hp → Prop}, Okk K p c ns rs H σ Γ → DaAll K (p :: rs) H xs ds → Ty.hasAll Ts ds → is.length = Ts.length → 0 ∉ is → (∀ i ∈ is, i ∈ vs) → (∀ σ', Okk K p c ns rs H σ' (setAll Γ is Ts) → wipe σ' vs = wipe σ vs → Q σ' H) → gNames is xs σ H Q
  | [], [], [], _, σ, Γ, Q, o, .nil, _, _, _, _, q => ⟨rfl, q σ o rfl⟩
  | i :: r, T :: Ts, d :: ds, x :: xs, σ, Γ, Q, o, .cons hd t, h, l, z, m, q => ⟨x, xs, rfl, gnames_wipe (o.set (fun e => z (by rw [e]; exact List.mem_cons_self)) hd h.1) t h.2 (Nat.succ.inj l) (fun m => z (List.mem_cons_of_mem _ m)) (fun j hj => m j (List.mem_cons_of_mem _ hj)) fun σ' o' e => q σ' o' (e.trans (wipe_set (m i List.mem_cons_self)))⟩
end
section
variable {K : PySem.W.Frag} {Γ : Ctx} {te tl ta : TE} {tA : TA} {tt : TT} {t u : Ty} {Ts : List Ty} {m n k k' k2 : Nat}
theorem ty_lcG {g : TGs} {z : Nat} (is vs : List Nat) (a : TE' K Γ tl (.lst (.tup Ts) m n) k) (e : TE' K (setAll (wipeC Γ vs) is Ts) te u k') (hg : g = gNames is) (hk : Ts.length = z) (hl : is.length = Ts.length) (h0 : 0 ∉ is) (h1 : 0 ∉ vs) (hv : ∀ i ∈ is, i ∈ vs) (hn : n ≤ 1000) : TE' K Γ (tLc (iList K tl) (gTup K z g) tYes te vs) (.lst u m n) (k + n * k') := fun p c ns rs σ H o m0 H1 f iw b Q q =>
  a p c ns rs σ H o m0 H1 f iw (by omega) _ fun x d H2 f2 i2 hd ⟨ds, e0, h1', h2, h3⟩ => by
    subst e0
    cases hd with
    | lst nn hh0 t0 =>
      rename_i a0 xs
      have o2 := (o.fp (f.trans f2)).wipe (vs := vs) h1
      have hl' := t0.len
      refine ⟨a0, rfl, ⟨xs, SqL.of hh0⟩, fun D nD => lc_list (xs := xs) (fun i H' => Acc K p c ns rs u H2 D (m0 + k + i * k') i i H') (by have := Acc.start (K := K) (u := u) i2 nD; rwa [Nat.zero_mul]) (fun i H' _ a => SqL.of (a.f a0 _ (fun m => nn (by rw [m]; exact List.mem_cons_self)) hh0)) (fun i x H' hx a => ?_) fun H' a => ?_⟩
      · obtain ⟨w, hf, hxf⟩ := t0.get hx
        have hi := (List.getElem?_eq_some_iff.mp hx).1
        obtain ⟨es, e1, hes⟩ := h3 w (List.mem_of_getElem? hf)
        subst e1
        have hxa := a.da hxf
        cases hxa with
        | tup n2 ht all =>
          refine ⟨_, _, rfl, SqT.of ht, by rw [all.len, ← hasAll_len hes]; exact hk, ?_⟩
          rw [hg]
          refine gnames_wipe (vs := vs) (a.ok o2) all hes hl h0 hv fun σ' o3 ew => ⟨ew.trans (wipe_wipe σ vs), ?_⟩
          have hin : (i + 1) * k' ≤ n * k' := Nat.mul_le_mul_right _ (by omega)
          rw [Nat.add_mul, Nat.one_mul] at hin
          refine iteT (B := Acc K p c ns rs u H2 D (m0 + k + (i + 1) * k') (i + 1) (i + 1) H') (e p c ns (rs ++ [D]) _ H' o3 (m0 + k + i * k') H' (Fp.refl p H') a.i (by omega) _ fun y dy H4 f4 i4 hy hu => ?_)
          rw [Nat.add_mul, Nat.one_mul, ← Nat.add_assoc]
          exact a.put f4 i4 hy hu (by omega)
      · obtain ⟨i5, es, h4, h5, h6, h7⟩ := a.done i2
        have hin : xs.length * k' ≤ n * k' := Nat.mul_le_mul_right _ (by omega)
        exact q _ _ H' (f2.trans a.f) (i5.up (by omega)) h4 ⟨es, rfl, by omega, by omega, h7⟩
theorem ty_tupleOf (a : TE' K Γ ta (.lst t m n) k) : TE' K Γ (tCB (rTuple K) (tCons ta tNil)) (.tps t m n) k := fun p c ns rs σ H o m1 H1 f iw b Q q => a p c ns rs σ H o m1 H1 f iw b _ fun x d H2 f2 i2 hd ⟨ds, e, h1, h2, h3⟩ => by
  subst e
  cases hd with
  | lst nn hh tt => exact ⟨_, _, rfl, .inl ⟨SqL.of hh, fun l nl => q _ _ _ (f2.trans (Fp.new nl)) (i2.new nl) (Da.nT i2 nl tt) ⟨ds, rfl, h1, h2, h3⟩⟩⟩
theorem ty_lenP (a : TE' K Γ ta (.tps t m n) k) : TE' K Γ (tCB (rLenK K) (tCons ta tNil)) (.int m n) k := fun p c ns rs σ H o m1 H1 f iw b Q q => a p c ns rs σ H o m1 H1 f iw b _ fun x d H2 f2 i2 hd ⟨ds, e, h1, h2, _⟩ => by
  subst e
  cases hd with
  | tup nn hh tt => exact ⟨_, _, rfl, .inr (.inl (Rd.of hh)), by rw [tt.len]; exact q _ _ _ f2 i2 (.int _) ⟨_, rfl, by omega, by omega⟩⟩
end
end Kin
/-! texts of small letters -/
namespace Kin
open PySem PySem.Spec PyProof.Rows L2 RZ
theorem mk_self (z : Str) : mk z.cps.toList = z := rfl
theorem low_mk {m n : Nat} {l : List Nat} : lowB m n (mk l) = true ↔ m ≤ l.length ∧ l.length ≤ n ∧ ∀ c ∈ l, 97 ≤ c ∧ c ≤ 122 := by
  unfold lowB
  rw [mk_len, mk_tl, Bool.and_eq_true, Bool.and_eq_true, decide_eq_true_eq, decide_eq_true_eq, List.all_eq_true]
  refine and_congr_right fun _ => and_congr_right fun _ => forall_congr' fun c => imp_congr_right fun _ => ?_
  rw [Bool.and_eq_true, decide_eq_true_eq, decide_eq_true_eq]
def rLenS : List V → Hp → VK → Prop := fun xs H Q => ∃ z, xs = [V.str z] ∧ z.length ≤ sizeLine ∧ Q (V.int (z.length : Int)) H
theorem call_lenS {X : Cx} : CallR X (.builtin "len") rLenS := call_len_str
def rCatS : V → V → Hp → VK → Prop := fun x y H Q => ∃ i j, x = .str i ∧ y = .str j ∧ i.length + j.length ≤ sizeLine ∧ Q (.str (i ++ j)) H
theorem op_addS {X : Cx} : OpR X (binaryOp .Add) rCatS := op_add_str
section
variable {K : PySem.W.Frag} {Γ : Ctx} {te ta tb : TE} {m n m' n' k k' : Nat} {l h : Int}
theorem ty_ixS {s : Str} (a : TE' K Γ ta (.lit s) k) (b : TE' K Γ tb (.int l h) k') (c : (decide (0 ≤ l) && (decide (h < s.length) && (decide (s.length ≤ 1000) && s.cps.toList.all fun c => decide (97 ≤ c) && decide (c ≤ 122)))) = true) : TE' K Γ (tOp rIxS ta tb) (.low 1 1) (k + k') := fun p c' ns rs σ H o =>
  gw_op (a p c' ns rs σ H o) (b p c' ns rs σ H o) fun x y d e _ H1 Q iw hd he e1 ⟨i, e2, h1, h2⟩ q => by
    have e1 : d = .str s := e1
    subst e1 e2
    cases hd
    cases he
    rw [Bool.and_eq_true, Bool.and_eq_true, Bool.and_eq_true, decide_eq_true_eq, decide_eq_true_eq, decide_eq_true_eq, List.all_eq_true] at c
    obtain ⟨c1, c2, c3, c4⟩ := c
    have hl : s.cps.toList.length = s.length := by rw [← mk_len, mk_self]
    have hi : i.toNat < s.cps.toList.length := by omega
    refine ⟨s, i, _, rfl, rfl, small1000 c3 |> Nat.le_of_lt, at_gen (j := i.toNat) (Int.toNat_of_nonneg (by omega)).symm (List.getElem?_eq_getElem hi), q _ _ H1 (Fp.refl p H1) iw (.str _) ⟨_, rfl, ?_⟩⟩
    refine low_mk.mpr ⟨Nat.le_refl 1, Nat.le_refl 1, fun ch hc => ?_⟩
    rw [List.mem_singleton.mp hc]
    have := c4 _ (List.getElem_mem hi)
    rwa [Bool.and_eq_true, decide_eq_true_eq, decide_eq_true_eq] at this
theorem lets_of {av : List Addr} {H : Hp} : ∀ {xs : List V} {ds : List PyData}, DaAll K av H xs ds → (∀ e ∈ ds, (Ty.low 1 1).has e) → ∃ cs : List Nat, xs = (cs.map fun c => mk [c]).map V.str ∧ cs.length = ds.length ∧ ∀ c ∈ cs, 97 ≤ c ∧ c ≤ 122
  | _, _, .nil, _ => ⟨[], rfl, rfl, fun c h => nomatch h⟩
  | x :: xs, d :: ds, .cons hd t, h => by
    obtain ⟨cs, e1, e2, e3⟩ := lets_of t fun e he => h e (List.mem_cons_of_mem _ he)
    obtain ⟨z, e4, hz⟩ := h d List.mem_cons_self
    subst e4
    cases hd
    rw [← mk_self z, low_mk] at hz
    obtain ⟨h1, h2, h3⟩ := hz
    match ez : z.cps.toList, h1, h2, h3 with
    | [], h1, _, _ => cases h1
    | [c], _, _, h3 =>
      refine ⟨c :: cs, ?_, by rw [List.length_cons, List.length_cons, e2], fun b hb => ?_⟩
      · rw [e1, List.map_cons, List.map_cons, ← ez, mk_self]
      · rcases List.mem_cons.mp hb with q | q
        · rw [q]
          exact h3 c List.mem_cons_self
        · exact e3 b q
    | _ :: _ :: _, _, h2, _ => exact absurd (Nat.le_of_succ_le_succ h2) (Nat.not_succ_le_zero _)
theorem ty_joinE {e : Str} (a : TE' K Γ te (.lst (.low 1 1) m n) k) (he : decide (e = mk []) = true) (hn : n ≤ 1000) : TE' K Γ (tM1 (rJoinK K) (tC (.str e)) te) (.low m n) k := fun p c ns rs σ H o m1 H1 f iw b Q q =>
  ⟨⟨_, rfl⟩, a p c ns rs σ H o m1 H1 f iw b _ fun x d H2 f2 i2 hd ⟨ds, e0, h1, h2, h3⟩ => by
    subst e0
    cases hd with
    | lst nn hh tt =>
      obtain ⟨cs, e1, e2, e3⟩ := lets_of tt h3
      rw [of_decide_eq_true he]
      rw [e1] at hh
      refine ⟨_, _, cs.map fun c => mk [c], rfl, rfl, .inl (SqL.of hh), ?_, ?_⟩
      · rw [List.map_map, List.length_map]
        have e : ∀ cs : List Nat, (cs.map ((fun x : Str => x.length) ∘ fun x => mk [x])).sum = cs.length := fun cs => by
          induction cs with
          | nil => rfl
          | cons a r ih =>
            rw [List.map_cons, List.sum_cons, ih, List.length_cons]
            exact Nat.add_comm 1 _
        rw [e]
        show _ + _ * 0 ≤ _
        omega
      · rw [mk_join]
        exact q _ _ H2 f2 i2 (.str _) ⟨_, rfl, low_mk.mpr ⟨by omega, by omega, e3⟩⟩⟩
theorem ty_lenS (a : TE' K Γ ta (.low m n) k) (hn : n ≤ 1000) : TE' K Γ (tCB rLenS (tCons ta tNil)) (.int m n) k := fun p c ns rs σ H o m1 H1 f iw b Q q => a p c ns rs σ H o m1 H1 f iw b _ fun x d H2 f2 i2 hd ⟨z, e, h1⟩ => by
  subst e
  cases hd
  rw [← mk_self z, low_mk] at h1
  have hl : z.cps.toList.length = z.length := by rw [← mk_len, mk_self]
  rw [hl] at h1
  exact ⟨_, rfl, Nat.le_of_lt (small1000 (by omega)), q _ _ H2 f2 i2 (.int _) ⟨_, rfl, by omega, by omega⟩⟩
/-- z[:at] + e + z[at:] -/
theorem ty_ins {i j : Nat} (ei : Γ[i]? = some (some (.low m n))) (ej : Γ[j]? = some (some (.int l h))) (a : TE' K Γ te (.low m' n') k) (c : (decide (0 ≤ l) && decide (n + n' ≤ 500)) = true) : TE' K Γ (tOp rCatS (tOp rCatS (tSl rSlS (tVar i) tNoPart (tPart (tVar j))) te) (tSl rSlS (tVar i) (tPart (tVar j)) tNoPart)) (.low (m + m') (n + n')) k := fun p c' ns rs σ H o m1 H1 f iw b Q q => by
  rw [Bool.and_eq_true, decide_eq_true_eq, decide_eq_true_eq] at c
  obtain ⟨x1, d1, s1, a1, ⟨z, z1, z2⟩⟩ := o.of i _ ei
  obtain ⟨x2, d2, s2, a2, ⟨t, t1, t2, t3⟩⟩ := o.of j _ ej
  subst z1 t1
  cases a1
  cases a2
  rw [← mk_self z, low_mk] at z2
  have hl : z.cps.toList.length = z.length := by rw [← mk_len, mk_self]
  refine ⟨_, s1, _, s2, t, rfl, z, rfl, Nat.le_of_lt (small1000 (by omega)), a p c' ns rs σ H o m1 H1 f iw b _ fun x d H2 f2 i2 hd ⟨y, e, h1⟩ => ?_⟩
  subst e
  cases hd
  rw [← mk_self y, low_mk] at h1
  have hy : y.cps.toList.length = y.length := by rw [← mk_len, mk_self]
  obtain ⟨t, rfl⟩ : ∃ u : Nat, t = (u : Int) := ⟨t.toNat, by omega⟩
  have e1 : cutS z none (some (t : Int)) = mk (z.cps.toList.take t) := by rw [← mk_self z, mk_to]; rfl
  have e2 : cutS z (some (t : Int)) none = mk (z.cps.toList.drop t) := by rw [← mk_self z, mk_from]; rfl
  have k1 : (z.cps.toList.take t).length ≤ z.length := by rw [List.length_take, hl]; omega
  have k2 : (z.cps.toList.drop t).length ≤ z.length := by rw [List.length_drop, hl]; omega
  have k3 : (z.cps.toList.take t).length + (z.cps.toList.drop t).length = z.length := by rw [List.length_take, List.length_drop, hl]; omega
  have e3 : y = mk y.cps.toList := (mk_self y).symm
  refine ⟨_, _, rfl, rfl, ?_, _, s1, _, s2, (t : Int), rfl, z, rfl, Nat.le_of_lt (small1000 (by omega)), _, _, rfl, rfl, ?_, ?_⟩
  · rw [e1, mk_len]
    exact Nat.le_of_lt (small1000 (by omega))
  · rw [e1, e2, e3, mk_app, mk_len, mk_len, List.length_append]
    exact Nat.le_of_lt (small1000 (by omega))
  · rw [e1, e2, e3, mk_app, mk_app]
    refine q _ _ H2 f2 i2 (.str _) ⟨_, rfl, low_mk.mpr ⟨?_, ?_, fun ch hc => ?_⟩⟩
    · rw [List.length_append, List.length_append]
      omega
    · rw [List.length_append, List.length_append]
      omega
    · rcases List.mem_append.mp hc with hc | hc
      · rcases List.mem_append.mp hc with hc | hc
        · exact z2.2.2 ch (List.mem_of_mem_take hc)
        · exact h1.2.2 ch hc
      · exact z2.2.2 ch (List.mem_of_mem_drop hc)
theorem ty_mod {j : Int} (a : TE' K Γ ta (.int l h) k) (hj : 0 < j) : TE' K Γ (tOp (rI (fun _ j => 0 < j) fun i j => .int (i % j)) ta (tC (.int j))) (.int 0 (j - 1)) (k + 0) := fun p c ns rs σ H o =>
  gw_op (a p c ns rs σ H o) gw_int fun x y d e _ H1 Q iw hd he ⟨i, e1, h1, h2⟩ e2 q => by
    subst e1 e2
    cases hd
    cases he
    have h3 := Int.emod_nonneg i (show j ≠ 0 by omega)
    have h4 := Int.emod_lt_of_pos i hj
    exact ⟨i, j, rfl, rfl, hj, q _ _ H1 (Fp.refl p H1) iw (.int _) ⟨_, rfl, h3, by omega⟩⟩
theorem ty_mulC {j : Int} (b : TE' K Γ tb (.int l h) k) (hj : (decide (0 ≤ j) && decide (j < 2 ^ 60)) = true) : TE' K Γ (tOp (rI CMul fun i j => .int (i * j)) (tC (.int j)) tb) (.int (j * l) (j * h)) (0 + k) := fun p c ns rs σ H o =>
  gw_op gw_int (b p c ns rs σ H o) fun x y d e _ H1 Q iw hd he e2 ⟨i, e1, h1, h2⟩ q => by
    subst e1 e2
    cases hd
    cases he
    rw [Bool.and_eq_true, decide_eq_true_eq, decide_eq_true_eq] at hj
    have h3 := Int.mul_le_mul_of_nonneg_left h1 hj.1
    have h4 := Int.mul_le_mul_of_nonneg_left h2 hj.1
    exact ⟨j, i, rfl, rfl, .inl ⟨by omega, by omega⟩, q _ _ H1 (Fp.refl p H1) iw (.int _) ⟨_, rfl, h3, h4⟩⟩
end
end Kin
/-! tuples of parts: joined, cut, said again; a list of one's own with a part changed -/
namespace Kin
open PySem PySem.Spec PyProof.Rows L2 RZ
theorem op_catK {X : Cx} (K : PySem.W.Frag) (h : X.K = K := by rfl) : OpR X (binaryOp .Add) (rCatA K) := by subst h; exact op_catA
theorem op_repK {X : Cx} (K : PySem.W.Frag) (h : X.K = K := by rfl) : OpR X (binaryOp .Mult) (rRepT K) := by subst h; exact op_repT
section
variable {K : PySem.W.Frag} {av : List Addr} {H : Hp}
theorem daAll_cut {xs : List V} {ds : List PyData} (h : DaAll K av H xs ds) (lo hi : Option Int) : DaAll K av H (cutV xs lo hi) (cutD ds lo hi) := by
  unfold cutV cutD
  rw [h.len]
  exact (h.drop _).take _
theorem daAll_rep {xs : List V} {ds : List PyData} (h : DaAll K av H xs ds) : ∀ k : Nat, DaAll K av H (List.replicate k xs).flatten (List.replicate k ds).flatten
  | 0 => .nil
  | k + 1 => by
    rw [List.replicate_succ, List.replicate_succ, List.flatten_cons, List.flatten_cons]
    exact h.app (daAll_rep h k)
theorem daAll_set {x : V} {d : PyData} (hd : Da K av H x d) : ∀ (j : Nat) {xs : List V} {ds : List PyData}, DaAll K av H xs ds → DaAll K av H (xs.set j x) (ds.set j d)
  | _, _, _, .nil => .nil
  | 0, _, _, .cons _ t => .cons hd t
  | j + 1, _, _, .cons h t => .cons h (daAll_set hd j t)
theorem cut_whole {xs : List V} {ds : List PyData} (t : DaAll K av H xs ds) {lo hi : Option Int} (e : HT.sIx xs.length 0 lo = 0 ∧ HT.sIx xs.length xs.length hi = xs.length) : cutD ds lo hi = ds := by
  unfold cutD
  rw [← t.len, e.1, e.2, List.drop_zero, Nat.sub_zero, t.len, List.take_length]
theorem len_rep {ds : List PyData} : ∀ k : Nat, (List.replicate k ds).flatten.length = ds.length * k
  | 0 => by simp
  | k + 1 => by
    rw [List.replicate_succ, List.flatten_cons, List.length_append, len_rep k, Nat.mul_add, Nat.mul_one, Nat.add_comm]
end
section
variable {K : PySem.W.Frag} {Γ Γ1 : Ctx} {te ta tb tj : TE} {tt : TT} {ts : TS} {t t' u T U A B R : Ty} {m n m' n' k k' : Nat} {l h : Int}
theorem ty_tpsUp (a : TE' K Γ te (.tps t m n) k) (h1 : m' ≤ m) (h2 : n ≤ n') : TE' K Γ te (.tps t m' n') k := fun p c ns rs σ H o => (a p c ns rs σ H o).imp fun d ⟨ds, e, h3, h4, h5⟩ => ⟨ds, e, by omega, by omega, h5⟩
theorem ty_catT (a : TE' K Γ ta (.tps t m n) k) (b : TE' K Γ tb (.tps u m' n') k') (s : n + n' ≤ 1000) : TE' K Γ (tOp (rCatA K) ta tb) (.tps (.or t u) (m + m') (n + n')) (k + k') := fun p c ns rs σ H o =>
  gw_op (a p c ns rs σ H o) (b p c ns rs σ H o) fun x y d e _ H1 Q iw hd he ⟨ds, e1, h1, h2, h3⟩ ⟨es, e2, h4, h5, h6⟩ q => by
    subst e1 e2
    cases hd with
    | tup nn hh tt =>
      cases he with
      | tup nn2 hh2 tt2 =>
        have l1 := tt.len
        have l2 := tt2.len
        refine ⟨_, _, _, _, rfl, rfl, SqT.of hh, SqT.of hh2, by rw [l1, l2]; exact Nat.le_of_lt (small1000 (by omega)), fun e0 => ?_, fun _ e0 => ?_, fun _ _ z nz => q _ _ _ (Fp.new nz) (iw.new nz) (Da.nT iw nz (tt.app tt2)) ⟨ds ++ es, rfl, by rw [List.length_append]; omega, by rw [List.length_append]; omega, fun x hx => (List.mem_append.mp hx).elim (fun h => .inl (h3 x h)) fun h => .inr (h6 x h)⟩⟩
        · rw [e0] at l1
          have l1 : 0 = ds.length := l1
          exact q _ _ _ (Fp.refl p H1) iw (.tup nn2 hh2 tt2) ⟨es, rfl, by omega, by omega, fun x hx => .inr (h6 x hx)⟩
        · rw [e0] at l2
          have l2 : 0 = es.length := l2
          exact q _ _ _ (Fp.refl p H1) iw (.tup nn hh tt) ⟨ds, rfl, by omega, by omega, fun x hx => .inl (h3 x hx)⟩
theorem ty_slTo (a : TE' K Γ ta (.tps t m n) k) (b : TE' K Γ tb (.int l h) k') (s : decide (0 ≤ l) = true) : TE' K Γ (tSl (rSlA K) ta tNoPart (tPart tb)) (.tps t (min m l.toNat) (min n h.toNat)) (k + k') := fun p c ns rs σ H o m1 H1 f iw bd Q q =>
  a p c ns rs σ H o m1 H1 f iw (by omega) _ fun x d H2 f2 i2 hd ⟨ds, e1, h1, h2, h3⟩ => b p c ns rs σ H o (m1 + k) H2 (f.trans f2) i2 (by omega) _ fun y e H3 f3 i3 he ⟨i, e2, h4, h5⟩ => by
    subst e1 e2
    cases he
    have s := of_decide_eq_true s
    have hd := hd.fp f3
    have i3' : IW p c ns rs (m1 + (k + k')) H3 := by rw [← Nat.add_assoc]; exact i3
    cases hd with
    | tup nn hh tt =>
      have ec : cutD ds none (some i) = ds.take i.toNat := by
        have := cutD_to ds i.toNat
        rwa [Int.toNat_of_nonneg (by omega)] at this
      have hl : (ds.take i.toNat).length = min i.toNat ds.length := List.length_take
      have fin : (Ty.tps t (min m l.toNat) (min n h.toNat)).has (.tuple (cutD ds none (some i))) := by
        rw [ec]
        exact ⟨_, rfl, by omega, by omega, fun e he => h3 e (List.mem_of_mem_take he)⟩
      refine ⟨i, rfl, _, _, rfl, SqT.of hh, fun e => ?_, fun _ z nz => q _ _ _ ((f2.trans f3).trans (Fp.new nz)) (i3'.new nz) (Da.nT i3 nz (daAll_cut tt none (some i))) fin⟩
      rw [cut_whole tt e] at fin
      exact q _ _ _ (f2.trans f3) i3' (.tup nn hh tt) fin
theorem ty_slFrom (a : TE' K Γ ta (.tps t m n) k) (b : TE' K Γ tb (.int l h) k') (s : decide (0 ≤ l) = true) : TE' K Γ (tSl (rSlA K) ta (tPart tb) tNoPart) (.tps t 0 n) (k + k') := fun p c ns rs σ H o m1 H1 f iw bd Q q =>
  a p c ns rs σ H o m1 H1 f iw (by omega) _ fun x d H2 f2 i2 hd ⟨ds, e1, h1, h2, h3⟩ => b p c ns rs σ H o (m1 + k) H2 (f.trans f2) i2 (by omega) _ fun y e H3 f3 i3 he ⟨i, e2, h4, h5⟩ => by
    subst e1 e2
    cases he
    have s := of_decide_eq_true s
    have hd := hd.fp f3
    have i3' : IW p c ns rs (m1 + (k + k')) H3 := by rw [← Nat.add_assoc]; exact i3
    cases hd with
    | tup nn hh tt =>
      have ec : cutD ds (some i) none = ds.drop i.toNat := by
        have := cutD_from ds i.toNat
        rwa [Int.toNat_of_nonneg (by omega)] at this
      have hl : (ds.drop i.toNat).length = ds.length - i.toNat := List.length_drop
      have fin : (Ty.tps t 0 n).has (.tuple (cutD ds (some i) none)) := by
        rw [ec]
        exact ⟨_, rfl, by omega, by omega, fun e he => h3 e (List.mem_of_mem_drop he)⟩
      refine ⟨i, rfl, _, _, rfl, SqT.of hh, fun e => ?_, fun _ z nz => q _ _ _ ((f2.trans f3).trans (Fp.new nz)) (i3'.new nz) (Da.nT i3 nz (daAll_cut tt (some i) none)) fin⟩
      rw [cut_whole tt e] at fin
      exact q _ _ _ (f2.trans f3) i3' (.tup nn hh tt) fin
/-- (a, b)[:1 or 2] -/
theorem ty_slPair (a : TE' K Γ ta (.tup [A, B]) k) (b : TE' K Γ tb (.int 1 2) k') : TE' K Γ (tSl (rSlA K) ta tNoPart (tPart tb)) (.or (.tup [A]) (.tup [A, B])) (k + k') := fun p c ns rs σ H o m1 H1 f iw bd Q q =>
  a p c ns rs σ H o m1 H1 f iw (by omega) _ fun x d H2 f2 i2 hd ⟨ds, e1, h1⟩ => b p c ns rs σ H o (m1 + k) H2 (f.trans f2) i2 (by omega) _ fun y e H3 f3 i3 he ⟨i, e2, h4, h5⟩ => by
    subst e1 e2
    cases he
    have hd := hd.fp f3
    have i3' : IW p c ns rs (m1 + (k + k')) H3 := by rw [← Nat.add_assoc]; exact i3
    cases hd with
    | tup nn hh tt =>
      have ec : cutD ds none (some i) = ds.take i.toNat := by
        have := cutD_to ds i.toNat
        rwa [Int.toNat_of_nonneg (by omega)] at this
      have fin : (Ty.or (.tup [A]) (.tup [A, B])).has (.tuple (cutD ds none (some i))) := by
        rw [ec]
        match ds, h1 with
        | [d1, d2], h1 =>
          rcases (show i = 1 ∨ i = 2 by omega) with rfl | rfl
          · exact .inl ⟨_, rfl, h1.1, trivial⟩
          · exact .inr ⟨_, rfl, h1⟩
      refine ⟨i, rfl, _, _, rfl, SqT.of hh, fun e => ?_, fun _ z nz => q _ _ _ ((f2.trans f3).trans (Fp.new nz)) (i3'.new nz) (Da.nT i3 nz (daAll_cut tt none (some i))) fin⟩
      rw [cut_whole tt e] at fin
      exact q _ _ _ (f2.trans f3) i3' (.tup nn hh tt) fin
theorem ty_slL (a : TE' K Γ ta (.lst t m n) k) (b : TE' K Γ tb (.int l h) k') (s : decide (0 ≤ l) = true) : TE' K Γ (tSl (rSlL K) ta tNoPart (tPart tb)) (.lst t (min m l.toNat) (min n h.toNat)) (k + k') := fun p c ns rs σ H o m1 H1 f iw bd Q q =>
  a p c ns rs σ H o m1 H1 f iw (by omega) _ fun x d H2 f2 i2 hd ⟨ds, e1, h1, h2, h3⟩ => b p c ns rs σ H o (m1 + k) H2 (f.trans f2) i2 (by omega) _ fun y e H3 f3 i3 he ⟨i, e2, h4, h5⟩ => by
    subst e1 e2
    cases he
    have s := of_decide_eq_true s
    have hd := hd.fp f3
    have i3' : IW p c ns rs (m1 + (k + k')) H3 := by rw [← Nat.add_assoc]; exact i3
    cases hd with
    | lst nn hh tt =>
      have ec : cutD ds none (some i) = ds.take i.toNat := by
        have := cutD_to ds i.toNat
        rwa [Int.toNat_of_nonneg (by omega)] at this
      have hl : (ds.take i.toNat).length = min i.toNat ds.length := List.length_take
      have fin : (Ty.lst t (min m l.toNat) (min n h.toNat)).has (.list (cutD ds none (some i))) := by
        rw [ec]
        exact ⟨_, rfl, by omega, by omega, fun e he => h3 e (List.mem_of_mem_take he)⟩
      exact ⟨i, rfl, _, _, rfl, SqL.of hh, fun z nz => q _ _ _ ((f2.trans f3).trans (Fp.new nz)) (i3'.new nz) (Da.nL i3 nz (daAll_cut tt none (some i))) fin⟩
theorem ty_repP {j : Int} (a : TE' K Γ ta (.tps t m n) k) (s : (decide (2 ≤ j) && decide (j ≤ 1000)) = true) (s2 : 1 ≤ m) (s3 : n ≤ 1000) : TE' K Γ (tOp (rRepT K) ta (tC (.int j))) (.tps t (m * j.toNat) (n * j.toNat)) (k + 0) := fun p c ns rs σ H o =>
  gw_op (a p c ns rs σ H o) gw_int fun x y d e _ H1 Q iw hd he ⟨ds, e1, h1, h2, h3⟩ e2 q => by
    subst e1 e2
    cases he
    rw [Bool.and_eq_true, decide_eq_true_eq, decide_eq_true_eq] at s
    cases hd with
    | tup nn hh tt =>
      have l1 := tt.len
      refine ⟨_, j, _, rfl, rfl, SqT.of hh, fun e => ?_, s.1, s.2, by omega, fun z nz => q _ _ _ (Fp.new nz) (iw.new nz) (Da.nT iw nz (daAll_rep tt j.toNat)) ⟨_, rfl, ?_, ?_, fun x hx => ?_⟩⟩
      · rw [e] at l1
        have l1 : 0 = ds.length := l1
        omega
      · rw [len_rep]
        exact Nat.mul_le_mul_right _ h1
      · rw [len_rep]
        exact Nat.mul_le_mul_right _ h2
      · obtain ⟨l, hl, hx⟩ := List.mem_flatten.mp hx
        rw [(List.mem_replicate.mp hl).2] at hx
        exact h3 x hx
theorem ty_listT (a : TE' K Γ ta (.tps t m n) k) : TE' K Γ (tCB (rListK K) (tCons ta tNil)) (.lst t m n) k := fun p c ns rs σ H o m1 H1 f iw b Q q => a p c ns rs σ H o m1 H1 f iw b _ fun x d H2 f2 i2 hd ⟨ds, e, h1, h2, h3⟩ => by
  subst e
  cases hd with
  | tup nn hh tt => exact ⟨_, _, rfl, .inr (SqT.of hh), fun l nl => q _ _ _ (f2.trans (Fp.new nl)) (i2.new nl) (Da.nL i2 nl tt) ⟨ds, rfl, h1, h2, h3⟩⟩
theorem ty_ixP (a : TE' K Γ ta (.tps t m n) k) (b : TE' K Γ tb (.int l h) k') (s : 0 ≤ l) (s2 : h < (m : Int)) : TE' K Γ (tOp (rIxT K) ta tb) t (k + k') := fun p c ns rs σ H o =>
  gw_op (a p c ns rs σ H o) (b p c ns rs σ H o) fun x y d e _ H1 Q iw hd he ⟨ds, e1, h1, h2, h3⟩ ⟨i, e2, h4, h5⟩ q => by
    subst e1 e2
    cases he
    cases hd with
    | tup nn hh tt =>
      have hi : i.toNat < ds.length := by omega
      obtain ⟨v, hv, hvd⟩ := tt.at (List.getElem?_eq_getElem hi)
      exact ⟨_, _, _, v, rfl, rfl, SqT.of hh, at_of (j := i.toNat) (Int.toNat_of_nonneg (by omega)).symm hv, q v _ H1 (Fp.refl p H1) iw hvd (h3 _ (List.getElem_mem hi))⟩
/-- if c: x = e -/
theorem tx_ifAsg {i : Nat} (z : Nat) (cc : TT' K Γ tt k) (a : TE' K Γ te T k') (hi : i ≠ 0) (e : Γ[i]? = some (some t)) (s1 : sub z T U = true) (s2 : sub z t U = true) : TS' K Γ (tIfS tt (tAsg te (gName i)) tNext) (Γ.set i (some U)) R (k + max k' 0) := by
  refine tx_if cc ?_ ?_
  · intro p c ns rs D σ H m o iw bd q r
    exact tx_asg (R := R) (ty_sub z a s1) hi p c ns rs D σ H m o iw bd q r
  · intro p c ns rs D σ H m o iw bd q r
    obtain ⟨x, d, h1, h2, h3⟩ := o.of i _ e
    exact q σ H (Fp.refl p H) iw (o.narrow h1 h2 (Ty.sub z s2 h3))
theorem to_if {i : Nat} (z : Nat) (cc : TT' K Γ tt k) (a : TO' K Γ i t m n ts Γ t' m n R k') (s : sub z (.lst t m n) (.lst t' m n) = true) : TO' K Γ i t m n (tIfS tt ts tNext) Γ t' m n R (k + k') := fun p c ns rs D Ds σ H m0 o iw bd q r =>
  cc p c ns (rs ++ [D]) σ H o.ok m0 H (Fp.refl p H) iw (by omega) _ fun b H1 f1 i1 => by
    have o1 := o.fp f1
    cases b with
    | true => exact iteT (B := tNext Ds σ H1) (a p c ns rs D Ds σ H1 (m0 + k) o1 i1 (by omega) (fun σ2 H2 f2 i2 o2 => q σ2 H2 ((F2.fp f1).tr f2) (i2.up (by omega)) o2) fun x d H2 f2 i2 hd hr => r x d H2 ((F2.fp f1).tr f2) (i2.up (by omega)) hd hr)
    | false => exact iteF (A := ts Ds σ H1) (q σ H1 (F2.fp f1) (i1.up (by omega)) (o1.weak s))
theorem to_set {i : Nat} (a : TE' K Γ te T k) (b : TE' K Γ tj (.int l h) k') (s : (decide (0 ≤ l) && decide (h < (m : Int))) = true) : TO' K Γ i t m n (tAsg te (gSub (tVar i) tj rSetL)) Γ (.or t T) m n R (k + k') := fun p c ns rs D Ds σ H m0 o iw bd q r => by
  obtain ⟨acc, es, h1, h2, h3, h4, h5⟩ := o.ex
  rw [Bool.and_eq_true, decide_eq_true_eq, decide_eq_true_eq] at s
  refine a p c ns (rs ++ [D]) σ H o.ok m0 H (Fp.refl p H) iw (by omega) _ fun x d H1 f1 i1 hd ht => ⟨_, o.sl, b p c ns (rs ++ [D]) σ H o.ok (m0 + k) H1 f1 i1 (by omega) _ fun y e H2 f2 i2 he ⟨j, e2, l1, l2⟩ => ?_⟩
  subst e2
  cases he
  have f12 := f1.trans f2
  have hD := f12 D _ o.ne h1
  have mD : D ∈ p :: (rs ++ [D]) := List.mem_cons_of_mem _ (List.mem_append_right _ List.mem_cons_self)
  have ll := h2.len
  have ft : F2 p D H (upd H2 D (.lst (acc.set j.toNat x))) := fun b u n1 n2 e => by
    rw [upd_ne n2]
    exact f12 b u n1 e
  refine ⟨D, acc, j, j.toNat, rfl, rfl, hD, ?_, q σ _ ft ⟨i2.1.mut o.ne o.nc |> (fun z => by rw [← Nat.add_assoc]; exact z), fun b hb e => ?_⟩ ⟨⟨o.ok.pen, o.ok.len, fun j U e => ?_⟩, o.gi, o.ne, o.nc, o.nr, o.sl, acc.set j.toNat x, es.set j.toNat d, upd_same, (daAll_set (hd.fp f2) j.toNat (h2.fp f12)).put mD, by rw [List.length_set]; exact h3, by rw [List.length_set]; exact h4, fun e he => ?_⟩⟩
  · unfold ixN
    rw [if_pos (by omega), if_pos (by omega)]
  · by_cases z : b = D
    · rw [z, upd_same] at e
      cases e
    · rw [upd_ne z] at e
      exact i2.2 b hb e
  · obtain ⟨y, f, a1, a2, a3⟩ := o.ok.of j U e
    exact ⟨y, f, a1, (a2.fp f12).put mD, a3⟩
  · rcases List.mem_or_eq_of_mem_set he with z | z
    · exact .inl (h5 e z)
    · rw [z]
      exact .inr ht
theorem to_weak' {i : Nat} (z : Nat) (a : TO' K Γ i t m n ts Γ t' m' n' R k) (s2 : sub z (.lst t' m' n') (.lst U m' n') = true) : TO' K Γ i t m n ts Γ U m' n' R k := fun p c ns rs D Ds σ H m0 o iw bd q r =>
  a p c ns rs D Ds σ H m0 o iw bd (fun σ' H' f' i' o' => q σ' H' f' i' (o'.weak s2)) r
end
end Kin
/-! enumerate over a tuple; a chain of three comparisons -/
namespace Kin
open PySem PySem.Spec PyProof.Rows L2
open Sem (wp)
open AutoSeq1 (wpAny_loadPart')
theorem meets_enumerate_newT (l : Addr) (items : Array Value) (n : Nat) (dct : Option Addr) (sl : Array (Option Value)) :
    Meets (Builtin.«enumerate.__new__» ⟨[.type "enumerate", .ref l], []⟩) (fun _ R s => s.heap.get? l = some { cls := .type "tuple", dict := dct, data := .seq items n, slots := sl } ∧
      R (.ok (.ret (.ref (s.heap.push { cls := .type "tuple_iterator", data := .fields #[.ref l, .int 0 0] }).objs.size)))
        { s with heap := (s.heap.push { cls := .type "tuple_iterator", data := .fields #[.ref l, .int 0 0] }).push { cls := .type "enumerate", data := .fields #[.none, .bool false, .ref s.heap.objs.size, rawInt 0, .none, .none] } }) :=
  .of_wp fun prog w A R s h => by
    obtain ⟨hp, g, d, tk, os⟩ := s; obtain ⟨hl, h⟩ := h
    have hsub := sub_enumerate
    have hL : Heap.IsTuple (Shared.heap ⟨hp, g, d, tk, os⟩) l items := ⟨_, hl, rfl, n, rfl⟩
    wp_walk using wpAny_loadPart' hl
    refine wpAny_stack_any fun st => wpAny_pure ?_
    split
    · rename_i c _ _ _ _ _
      cases (c == Value.type "enumerate")
      · wp_walk using wpAny_loadPart' hl, wpAny_pyIter_tuple hL
        exact ⟨_, rfl, h⟩
      · wp_walk using wpAny_loadPart' hl, wpAny_pyIter_tuple hL
        exact ⟨_, rfl, h⟩
    · wp_walk using wpAny_loadPart' hl, wpAny_pyIter_tuple hL
      exact ⟨_, rfl, h⟩
section
variable {prog : Program} {w : World} {A : Around} {E : Value → Shared → Prop} {s : Shared}
theorem call_enumerate_tuple {l : Addr} {items : Array Value} {Q : Value → Shared → Prop} (hL : s.heap.IsTuple l items)
    (h : ∀ h', IsEnum h' (s.heap.objs.size + 1) s.heap.objs.size 0 .none → h'.IsTupleIter s.heap.objs.size l 0 → h'.objs.size = s.heap.objs.size + 2 →
      (∀ b o, s.heap.get? b = some o → h'.get? b = some o) → Q (.ref (s.heap.objs.size + 1)) { s with heap := h' }) :
    wpAny (model prog w) A (call (.type "enumerate") [.ref l]) Q E s := by
  obtain ⟨⟨c, dct, dt, sl⟩, hl, hc, n, hd⟩ := hL
  replace hc : c = .type "tuple" := hc
  replace hd : dt = .seq items n := hd
  subst hc hd
  refine callType_new F.called_enumerate (by decide) (F.typeCall_enumerate_1 _) (F.newCall_enumerate_1 _) (fun obj => F.args_object_init_2 obj _) F.entry_enumerate_new
    (meets_enumerate_newT l items n dct sl) ⟨hl, ?_⟩
  have hz : (s.heap.push { cls := .type "tuple_iterator", data := .fields #[.ref l, .int 0 0] }).objs.size = s.heap.objs.size + 1 := Heap.size_push ..
  show _ ∧ _
  rw [hz]
  have he : IsEnum ((s.heap.push { cls := .type "tuple_iterator", data := .fields #[.ref l, .int 0 0] }).push
      { cls := .type "enumerate", data := .fields #[.none, .bool false, .ref s.heap.objs.size, rawInt 0, .none, .none] }) (s.heap.objs.size + 1) s.heap.objs.size 0 .none := by
    have := Heap.get?_push_size (s.heap.push { cls := .type "tuple_iterator", data := .fields #[.ref l, .int 0 0] })
      (o := { cls := .type "enumerate", data := .fields #[.none, .bool false, .ref s.heap.objs.size, rawInt 0, .none, .none] }) rfl
    rw [hz] at this; exact this
  refine ⟨⟨_, he, rfl⟩, h _ he ⟨_, Heap.get?_push_of_some _ (Heap.get?_push_size _ rfl), rfl, rfl⟩ (by rw [Heap.size_push, hz]) fun b o x => Heap.get?_push_of_some _ (Heap.get?_push_of_some _ x)⟩
end
/-- the tuple at a, each item in a new pair -/
def IteT (K : PySem.W.Frag) (a : Addr) : It :=
  ⟨fun i H => ∃ (xs : List V) (x : V), SqT K H a xs ∧ xs[i]? = some x, fun i H v H' => ∃ T x, v = .ref T ∧ H T = none ∧ H' = upd H T (.tup [.int (i : Nat), x]) ∧ ∀ xs, SqT K H a xs → xs[i]? = some x, fun i H => ∃ xs : List V, SqT K H a xs ∧ xs.length ≤ i⟩
theorem turn_enumT {P : Program} {w : World} {K : PySem.W.Frag} {elts : List Expr} {kk : Nat} {tpos : Pos} (a e it : Addr) :
    Turn P w K (.Tuple elts kk tpos) (IteT K a) [e, it] e (fun i h => (∃ old, IsEnum h e it ((i : Nat) : Int) old) ∧ h.IsTupleIter it a i ∧ e ≠ it ∧ a ≠ it ∧ a ≠ e) where
  mem := by simp
  obj := fun i h st b hb => by
    obtain ⟨⟨old, he⟩, ⟨o, ho, hc, hd⟩, _⟩ := st
    have e' : b = e ∨ b = it := by simpa using hb
    rcases e' with z | z
    · rw [z]; exact ⟨_, he, fun v q => nomatch q⟩
    · rw [z]; exact ⟨o, ho, fun v q => by rw [hd] at q; cases q⟩
  keep := fun i h h' st k => let ⟨⟨old, he⟩, hi, hne⟩ := st; ⟨⟨old, k e (by simp) _ he⟩, hi.at fun o q => k it (by simp) o q, hne⟩
  item := by
    intro X hP hw hK hc i pins s σ H E I hf st hg
    subst hP hw hK
    obtain ⟨⟨old, he⟩, hit, hne, hat, hae⟩ := st
    obtain ⟨xs, x, hq, hx⟩ := hg
    obtain ⟨its, rv, p, hz⟩ := I.tuple hq
    have p' : s.heap.IsTuple a its.toArray := p
    obtain ⟨u, hu, ru⟩ := rv.get hx
    have hel : e < s.heap.objs.size := Heap.lt_size he
    have hil : it < s.heap.objs.size := by obtain ⟨_, q, _⟩ := hit; exact Heap.lt_size q
    have hlt : i < its.toArray.size := by simpa using (List.getElem?_eq_some_iff.mp hu).1
    refine wpAny_pyNext_enum_itemD (Draws.tuple (prog := X.prog) (w := X.w) (A := X.A.in1) (show X.A.handled = none from I.ok.hd hc) it a hat its.toArray) he ⟨hit, p'⟩ hlt hne (by simp only [List.mem_cons, List.not_mem_nil, or_false, not_or]; exact ⟨hne, fun z => hae z.symm⟩) fun u' h' tk hPx ho hst hT hsz hk => ?_
    obtain ⟨hit', _⟩ := hst
    have hPx' : its.toArray[i]? = some u' := hPx
    have eu : u' = u := by
      have h2 : its[i]? = some u' := by simpa using hPx'
      rw [hu] at h2
      exact (Option.some.inj h2).symm
    subst eu
    refine ⟨_, rfl, wpAny_letOwnedTupleGo_enum (s := { s with heap := h', toks := tk + 1 }) ho fun h'' he' sb => ?_⟩
    have hT2 : h''.get? s.heap.objs.size = some { cls := .type "tuple", data := .seq #[.int i tk, u'] } := (sb.2 _ (Nat.ne_of_gt hel)).trans hT
    have new : ObjOk X.prog X.w (upd H s.heap.objs.size (.tup [.int (i : Nat), x])) h'' s.heap.objs.size (.tup [.int (i : Nat), x]) :=
      ⟨by show 2 ≤ sizeLine; decide, [.int i tk, u'], .cons ⟨_, rfl⟩ (.cons ru .nil), ⟨_, hT2, rfl, _, rfl⟩⟩
    have I1 : Inv X pins σ (upd H s.heap.objs.size (.tup [.int (i : Nat), x])) { s with heap := h'', toks := tk + 1 } :=
      I.turnedNew (ch := [e, it]) (fun b ob hb q => (sb.2 b (fun z => hb (by simp [z]))).trans (hk b ob (fun z => hb (by simp [z])) (fun z => hb (by simp [z])) q)) hf (Nat.le_refl _) new
    refine ⟨.ref s.heap.objs.size, _, I1, rfl, ⟨_, x, rfl, I.hok.fresh (Nat.le_refl _), rfl, fun ys hy => by rw [I.tuple_inj hy hq]; exact hx⟩, ⟨⟨u', ?_⟩, hit'.at fun o q => (sb.2 it (Ne.symm hne)).trans q, hne, hat, hae⟩, fun b hb => ?_⟩
    · have e1 : ((i + 1 : Nat) : Int) = (i : Int) + 1 := by omega
      rw [e1]; exact he'
    · have hb' : b < s.heap.objs.size := by
        have e' : b = e ∨ b = it := by simpa using hb
        rcases e' with z | z
        · rw [z]; exact hel
        · rw [z]; exact hil
      rw [upd_ne (Nat.ne_of_lt hb')]
      exact (hf b hb).1
  done := by
    intro X hP hw hK hc i pins s σ H E I hf st hg
    subst hP hw hK
    obtain ⟨⟨old, he⟩, hit, hne, hat, hae⟩ := st
    obtain ⟨xs, hq, hx⟩ := hg
    obtain ⟨its, rv, p, hz⟩ := I.tuple hq
    have p' : s.heap.IsTuple a its.toArray := p
    obtain ⟨f0, f1, f2, f3, f4, f5⟩ := hf it (by simp)
    have hl := rv.length
    have hT : s.TypeIs (.ref e) "enumerate" := ⟨_, he, rfl⟩
    unfold pyNext
    refine wpAny_bind (wpAny_attempt (wpAny_callSpecial?_slot (name := Str.ofString "__next__") hT F.slot_enumerate_next
      (wpAny_call_entry F.slot_enumerate_next hT F.entry_enumerate_next ?_ (F.args_enumerate_next_1 _))))
    show wpAny _ _ (field (.ref e) 2 >>= _) _ _ _
    refine wpAny_bind (wpAny_field he rfl (x := .ref it) rfl ?_)
    refine wpAny_bind (wpAny_nextOf_tuple_end (show X.A.handled = none from I.ok.hd hc) hit p' (by simp; omega) fun h' x he' hx' => ?_)
    obtain ⟨o, ho, hc'⟩ := hx'
    refine wpAny_bind (wpAny_isInstance (T := "StopIteration") (b := true) ⟨o, ho, hc'⟩ isSubtype_stop ?_)
    exact wpAny_pure ⟨rfl, I.turned (t' := s.toks) (fun b o hb q => he' b o hb q) f0 f1 f3 f4 f5⟩
  self := fun A i s Q E st h => let ⟨⟨_, he⟩, _⟩ := st; wpAny_pyIter_enum he h
def iEnumT (K : PySem.W.Frag) (ta : TA) : TI := fun σ H R => ta σ H fun vs H1 => ∃ a xs, vs = [.ref a] ∧ SqT K H1 a xs ∧ R (IteT K a) H1
theorem pi_enumT {X : Cx} {e : Expr} {ta : TA} {p pos tpos : Pos} {elts : List Expr} {kk : Nat} (K : PySem.W.Frag) (hg : Gl X "enumerate") (hm : X.mg "enumerate" = none) (ha : PA X [e] ta) (hK : X.K = K := by rfl) (hs : starEach [e] X.env = [(false, eval e X.env)] := by rfl) :
    PI X (.Tuple elts kk tpos) (.Call (.Name "enumerate" p) [e] [] pos) (iEnumT K ta) := by
  subst hK
  refine ⟨fun pins s σ H R I h => ?_⟩
  refine Call_ (ld_blt I hg hm boot_enumerate (PyProof.Rows.callWith_type1 (thn (ha.run pos pins s σ H _ I h) fun us s1 ⟨vs, H1, I1, r1, q1⟩ => ?_) hs rfl))
  obtain ⟨a, xs, ex, hq, q⟩ := q1
  subst ex
  cases r1 with
  | cons r rr =>
    cases rr
    cases r
    obtain ⟨its, rv, p', hz⟩ := I1.tuple hq
    have p2 : s1.heap.IsTuple a its.toArray := p'
    obtain ⟨o1, ho1, _⟩ := id p2
    have hal := Heap.lt_size ho1
    refine call_enumerate_tuple p2 fun h' he hit hsz hk => wpAny_pyIter_enum he ?_
    have I2 : Inv X pins σ H1 { s1 with heap := h' } := I1.kept (t' := s1.toks) hk
    refine ⟨s1.heap.objs.size + 1, [s1.heap.objs.size + 1, s1.heap.objs.size], _, _, H1, rfl, I2, turn_enumT a (s1.heap.objs.size + 1) s1.heap.objs.size, ⟨⟨.none, he⟩, hit, Nat.succ_ne_self _, Nat.ne_of_lt hal, Nat.ne_of_lt (Nat.lt_succ_of_lt hal)⟩, fun b hb => ?_, q⟩
    have e' : b = s1.heap.objs.size + 1 ∨ b = s1.heap.objs.size := by simpa using hb
    have hle : s1.heap.objs.size ≤ b := by
      rcases e' with z | z
      · rw [z]; exact Nat.le_add_right _ _
      · rw [z]; exact Nat.le_refl _
    exact I1.fpOk hle (I1.hok.fresh hle)
/-- a op1 b op2 c op3 d -/
def tChain3 (r1 r2 r3 : R2) (ta tb tc td : TE) : TE := fun σ H Q => ta σ H fun x H1 => tb σ H1 fun y H2 => r1 x y H2 fun z H3 => ∃ k, z = .bl k ∧
  (if k = true then tc σ H3 fun w' H4 => r2 y w' H4 fun z2 H5 => ∃ k2, z2 = .bl k2 ∧ (if k2 = true then td σ H5 fun v H6 => r3 w' v H6 Q else Q (.bl false) H5) else Q (.bl false) H3)
theorem pe_chain3 {X : Cx} {a b c d : Expr} {ta tb tc td : TE} {pos : Pos} {op op' op3 : CmpOp} {r r' r3 : R2} (ho : OpR X (compareOp op) r) (ho' : OpR X (compareOp op') r') (ho3 : OpR X (compareOp op3) r3) (ha : PE X a ta) (hb : PE X b tb) (hc : PE X c tc) (hd : PE X d td)
    (hm : lastMarks [op, op', op3] [b, c, d] = false := by with_unfolding_all rfl) : PE X (.Compare a [op, op', op3] [b, c, d] pos) (tChain3 r r' r3 ta tb tc td) := by
  refine ⟨fun pins s σ H Q I h => ?_⟩
  refine Compare_chain (thn (ha.run pins s σ H _ I h) fun v s1 ⟨x, H1, I1, r1, q1⟩ => chain_link (thn (hb.run pins s1 σ H1 _ I1 q1) fun u s2 ⟨y, H2, I2, r2, q2⟩ =>
    thn (ho pins s2 σ H2 x y v u _ I2 r1 r2 q2) fun d0 s3 ⟨z, H3, I3, r3, k, e, q3⟩ => ?_)) hm
  subst e
  cases r3
  refine wpAny_truthy_bool ?_
  cases k with
  | false => exact ite_ff ⟨.bl false, H3, I3, rfl, q3⟩
  | true =>
    refine ite_tt (chain_link (thn (hc.run pins s3 σ H3 _ I3 q3) fun w' s4 ⟨z', H4, I4, r4, q4⟩ => thn (ho' pins s4 σ H4 y z' u w' _ I4 r2 r4 q4) fun d2 s5 ⟨z2, H5, I5, r5, k2, e2, q5⟩ => ?_))
    subst e2
    cases r5
    refine wpAny_truthy_bool ?_
    cases k2 with
    | false => exact ite_ff ⟨.bl false, H5, I5, rfl, q5⟩
    | true => exact ite_tt (chain_last (thn (hd.run pins s5 σ H5 _ I5 q5) fun w6 s6 ⟨z6, H6, I6, r6, q6⟩ => ho3 pins s6 σ H6 z' z6 w' w6 Q I6 r4 r6 q6))
end Kin
/-! defs that look at data alone: what they give, exactly -/
namespace Kin
open PySem PySem.Spec PyProof.Rows L2 RZ
/-! ### what kind data are -/
def intB : PyData → Bool
  | .int _ => true
  | .bool _ => true
  | _ => false
def boolB : PyData → Bool
  | .bool _ => true
  | _ => false
def strB : PyData → Bool
  | .str _ => true
  | _ => false
def tupB : PyData → Bool
  | .tuple _ => true
  | _ => false
def lstB : PyData → Bool
  | .list _ => true
  | _ => false
def noneB : PyData → Bool
  | .none => true
  | _ => false
theorem kit_int : ∀ d : PyData, kitB (tyN d) "int" = some (intB d)
  | .none => (by decide +kernel : kitB "NoneType" "int" = some false)
  | .bool _ => (by decide +kernel : kitB "bool" "int" = some true)
  | .int _ => (by decide +kernel : kitB "int" "int" = some true)
  | .str _ => (by decide +kernel : kitB "str" "int" = some false)
  | .list _ => (by decide +kernel : kitB "list" "int" = some false)
  | .tuple _ => (by decide +kernel : kitB "tuple" "int" = some false)
  | .dict _ => (by decide +kernel : kitB "dict" "int" = some false)
theorem kit_bool : ∀ d : PyData, kitB (tyN d) "bool" = some (boolB d)
  | .none => (by decide +kernel : kitB "NoneType" "bool" = some false)
  | .bool _ => (by decide +kernel : kitB "bool" "bool" = some true)
  | .int _ => (by decide +kernel : kitB "int" "bool" = some false)
  | .str _ => (by decide +kernel : kitB "str" "bool" = some false)
  | .list _ => (by decide +kernel : kitB "list" "bool" = some false)
  | .tuple _ => (by decide +kernel : kitB "tuple" "bool" = some false)
  | .dict _ => (by decide +kernel : kitB "dict" "bool" = some false)
theorem kit_str : ∀ d : PyData, kitB (tyN d) "str" = some (strB d)
  | .none => (by decide +kernel : kitB "NoneType" "str" = some false)
  | .bool _ => (by decide +kernel : kitB "bool" "str" = some false)
  | .int _ => (by decide +kernel : kitB "int" "str" = some false)
  | .str _ => (by decide +kernel : kitB "str" "str" = some true)
  | .list _ => (by decide +kernel : kitB "list" "str" = some false)
  | .tuple _ => (by decide +kernel : kitB "tuple" "str" = some false)
  | .dict _ => (by decide +kernel : kitB "dict" "str" = some false)
theorem kit_tup : ∀ d : PyData, kitB (tyN d) "tuple" = some (tupB d)
  | .none => (by decide +kernel : kitB "NoneType" "tuple" = some false)
  | .bool _ => (by decide +kernel : kitB "bool" "tuple" = some false)
  | .int _ => (by decide +kernel : kitB "int" "tuple" = some false)
  | .str _ => (by decide +kernel : kitB "str" "tuple" = some false)
  | .list _ => (by decide +kernel : kitB "list" "tuple" = some false)
  | .tuple _ => (by decide +kernel : kitB "tuple" "tuple" = some true)
  | .dict _ => (by decide +kernel : kitB "dict" "tuple" = some false)
theorem kit_lst : ∀ d : PyData, kitB (tyN d) "list" = some (lstB d)
  | .none => (by decide +kernel : kitB "NoneType" "list" = some false)
  | .bool _ => (by decide +kernel : kitB "bool" "list" = some false)
  | .int _ => (by decide +kernel : kitB "int" "list" = some false)
  | .str _ => (by decide +kernel : kitB "str" "list" = some false)
  | .list _ => (by decide +kernel : kitB "list" "list" = some true)
  | .tuple _ => (by decide +kernel : kitB "tuple" "list" = some false)
  | .dict _ => (by decide +kernel : kitB "dict" "list" = some false)
theorem non_iff {K : PySem.W.Frag} {H : Hp} {x : V} {d : PyData} (h : Dp K H x d) : decide (x = V.non) = noneB d := by
  cases h with
  | non => exact decide_eq_true rfl
  | _ => exact decide_eq_false fun e => nomatch e
/-! ### slots of data -/
abbrev DX := List (Option PyData)
structure SlD (K : PySem.W.Frag) (av : List Addr) (H : Hp) (σ : L2.St) (Γ : DX) : Prop where
  on : ∀ a ∈ av, H a ≠ none
  len : Γ.length ≤ σ.length
  of : ∀ (i : Nat) (d : PyData), Γ[i]? = some (some d) → ∃ x, σ[i]? = some (some x) ∧ Da K av H x d
section
variable {K : PySem.W.Frag} {av : List Addr} {H H' H1 : Hp} {σ : L2.St} {Γ Δ : DX} {x : V} {d : PyData} {xs : List V} {ds : List PyData}
theorem Da.sm (h : Da K av H x d) (s : Same H H') : Da K av H' x d := h.mono fun b o _ e => s b o e
theorem DaAll.sm (h : DaAll K av H xs ds) (s : Same H H') : DaAll K av H' xs ds := h.mono fun b o _ e => s b o e
theorem on_sm (h : ∀ a ∈ av, H a ≠ none) (s : Same H H') : ∀ a ∈ av, H' a ≠ none := fun a m e => h a m (s.free e)
theorem off_new {q : Addr} (h : ∀ a ∈ av, H a ≠ none) (n : H q = none) : q ∉ av := fun m => h q m n
theorem SlD.sm (o : SlD K av H σ Γ) (s : Same H H') : SlD K av H' σ Γ := ⟨on_sm o.on s, o.len, fun i d h => by
  obtain ⟨x, h1, h2⟩ := o.of i d h
  exact ⟨x, h1, h2.sm s⟩⟩
theorem SlD.set {i : Nat} (o : SlD K av H σ Γ) (hd : Da K av H x d) : SlD K av H (σ.set i (some x)) (Γ.set i (some d)) := by
  refine ⟨o.on, by rw [List.length_set, List.length_set]; exact o.len, fun j e h => ?_⟩
  rw [List.getElem?_set] at h
  by_cases c : i = j
  · subst c
    rw [if_pos rfl] at h
    split at h
    · rename_i l
      cases h
      have := o.len
      exact ⟨x, by rw [List.getElem?_set, if_pos rfl, if_pos (by omega)], hd⟩
    · cases h
  · rw [if_neg c] at h
    obtain ⟨y, h1, h2⟩ := o.of j e h
    exact ⟨y, by rw [List.getElem?_set_ne c]; exact h1, h2⟩
/-- fewer known -/
def lessD (Γ Δ : DX) : Prop := Δ.length ≤ Γ.length ∧ ∀ (i : Nat) (d : PyData), Δ[i]? = some (some d) → Γ[i]? = some (some d)
theorem lessD.refl : lessD Γ Γ := ⟨Nat.le_refl _, fun _ _ h => h⟩
theorem lessD.nil : lessD [] [] := lessD.refl
theorem lessD.keep {d : Option PyData} (h : lessD Γ Δ) : lessD (d :: Γ) (d :: Δ) := ⟨Nat.succ_le_succ h.1, fun i e q => by
  match i, q with
  | 0, q => exact q
  | i + 1, q => exact h.2 i e q⟩
theorem lessD.drop {d : Option PyData} (h : lessD Γ Δ) : lessD (d :: Γ) (none :: Δ) := ⟨Nat.succ_le_succ h.1, fun i e q => by
  match i, q with
  | i + 1, q => exact h.2 i e q⟩
theorem SlD.weak (o : SlD K av H σ Γ) (l : lessD Γ Δ) : SlD K av H σ Δ := ⟨o.on, Nat.le_trans l.1 o.len, fun i d h => o.of i d (l.2 i d h)⟩
def wipeD (Γ : DX) : List Nat → DX
  | [] => Γ
  | v :: vs => (wipeD Γ vs).set v none
theorem wipeD_get : ∀ {vs : List Nat} {i : Nat} {d : PyData}, (wipeD Γ vs)[i]? = some (some d) → i ∉ vs ∧ Γ[i]? = some (some d)
  | [], i, d, h => ⟨(fun m => nomatch m), h⟩
  | v :: vs, i, d, h => by
    have h : ((wipeD Γ vs).set v none)[i]? = some (some d) := h
    rw [List.getElem?_set] at h
    by_cases e : v = i
    · rw [if_pos e] at h
      split at h <;> cases h
    · rw [if_neg e] at h
      obtain ⟨h1, h2⟩ := wipeD_get h
      exact ⟨fun m => (List.mem_cons.mp m).elim (fun q => e q.symm) h1, h2⟩
theorem wipeD_len (Γ : DX) : ∀ vs : List Nat, (wipeD Γ vs).length = Γ.length
  | [] => rfl
  | v :: vs => by
    show ((wipeD Γ vs).set v none).length = _
    rw [List.length_set, wipeD_len Γ vs]
theorem SlD.wipe {vs : List Nat} (o : SlD K av H σ Γ) : SlD K av H (L2.wipe σ vs) (wipeD Γ vs) := ⟨o.on, by rw [wipe_length, wipeD_len]; exact o.len, fun i d h => by
  obtain ⟨h1, h2⟩ := wipeD_get h
  obtain ⟨x, h3, h4⟩ := o.of i d h2
  exact ⟨x, by rw [wipe_get, if_neg fun h => h1 h.1]; exact h3, h4⟩⟩
/-- a list is being made at D, new since H -/
theorem SlD.grow {D : Addr} (o : SlD K av H σ Γ) (n : H D = none) (s : Same H H') (hD : H' D ≠ none) : SlD K (av ++ [D]) H' σ Γ := ⟨fun a m => by
  rcases List.mem_append.mp m with m | m
  · exact on_sm o.on s a m
  · rw [List.mem_singleton.mp m]
    exact hD, o.len, fun i d h => by
  obtain ⟨x, h1, h2⟩ := o.of i d h
  exact ⟨x, h1, (h2.off n).sm s⟩⟩
end
/-! ### readings that give data -/
def DE (K : PySem.W.Frag) (Γ : DX) (te : TE) (d : PyData) : Prop := ∀ av σ H, SlD K av H σ Γ → ∀ Q : VK, (∀ x H', Same H H' → Da K av H' x d → Q x H') → te σ H Q
def DA (K : PySem.W.Frag) (Γ : DX) (ta : TA) (ds : List PyData) : Prop := ∀ av σ H, SlD K av H σ Γ → ∀ Q : List V → Hp → Prop, (∀ xs H', Same H H' → DaAll K av H' xs ds → Q xs H') → ta σ H Q
def DT (K : PySem.W.Frag) (Γ : DX) (tt : TT) (b : Bool) : Prop := ∀ av σ H, SlD K av H σ Γ → ∀ Q : Bool → Hp → Prop, (∀ H', Same H H' → Q b H') → tt σ H Q
section
variable {K : PySem.W.Frag} {Γ Δ : DX} {te ta tb tc td : TE} {tA : TA} {tt tu : TT} {d e f : PyData} {ds es : List PyData} {i j k l : Int} {s z : Str} {a b c : Bool}
theorem DE.of {d' : PyData} (h : DE K Γ te d) (q : d = d') : DE K Γ te d' := q ▸ h
theorem DT.of {b' : Bool} (h : DT K Γ tt b) (q : b = b') : DT K Γ tt b' := q ▸ h
theorem de_var (i : Nat) (h : Γ[i]? = some (some d)) : DE K Γ (tVar i) d := fun av σ H o Q q => by
  obtain ⟨x, h1, h2⟩ := o.of i d h
  exact ⟨x, h1, q x H (Same.refl H) h2⟩
theorem de_non : DE K Γ (tC .non) .none := fun av σ H o Q q => q _ H (Same.refl H) .non
theorem de_bl : DE K Γ (tC (.bl b)) (.bool b) := fun av σ H o Q q => q _ H (Same.refl H) (.bl b)
theorem de_int : DE K Γ (tC (.int i)) (.int i) := fun av σ H o Q q => q _ H (Same.refl H) (.int i)
theorem de_str : DE K Γ (tC (.str s)) (.str s) := fun av σ H o Q q => q _ H (Same.refl H) (.str s)
theorem da_nil : DA K Γ tNil [] := fun av σ H o Q q => q [] H (Same.refl H) .nil
theorem da_cons (h : DE K Γ te d) (t : DA K Γ tA ds) : DA K Γ (tCons te tA) (d :: ds) := fun av σ H o Q q =>
  h av σ H o _ fun x H1 s1 hx => t av σ H1 (o.sm s1) _ fun xs H2 s2 hxs => q _ H2 (s1.trans s2) (.cons (hx.sm s2) hxs)
theorem de_tup (h : DA K Γ tA ds) (n : ds.length ≤ 1000) : DE K Γ (tTup tA) (.tuple ds) := fun av σ H o Q q =>
  h av σ H o _ fun xs H1 s1 hx => ⟨by rw [hx.len]; exact Nat.le_of_lt (small1000 n), fun p np => q _ _ (s1.trans (same_new np)) (.tup (off_new (on_sm o.on s1) np) upd_same (hx.sm (same_new np)))⟩
theorem de_lst (h : DA K Γ tA ds) (n : ds.length ≤ 1000) : DE K Γ (tLst tA) (.list ds) := fun av σ H o Q q =>
  h av σ H o _ fun xs H1 s1 hx => ⟨by rw [hx.len]; exact Nat.le_of_lt (small1000 n), fun p np => q _ _ (s1.trans (same_new np)) (.lst (off_new (on_sm o.on s1) np) upd_same (hx.sm (same_new np)))⟩
theorem de_op {r : R2} (ha : DE K Γ ta d) (hb : DE K Γ tb e) (hr : ∀ av H x y (Q : VK), (∀ a ∈ av, H a ≠ none) → Da K av H x d → Da K av H y e → (∀ z H', Same H H' → Da K av H' z f → Q z H') → r x y H Q) : DE K Γ (tOp r ta tb) f := fun av σ H o Q q =>
  ha av σ H o _ fun x H1 s1 hx => hb av σ H1 (o.sm s1) _ fun y H2 s2 hy => hr av H2 x y Q (on_sm o.on (s1.trans s2)) (hx.sm s2) hy fun z H3 s3 hz => q z H3 ((s1.trans s2).trans s3) hz
theorem atI_len {α β : Type} {xs : List α} {ys : List β} (h : xs.length = ys.length) {i : Int} {y : β} (e : atI ys i = some y) : ∃ j : Nat, ys[j]? = some y ∧ ∀ x, xs[j]? = some x → atI xs i = some x := by
  unfold atI at e ⊢
  cases c : ixN ys.length i with
  | none =>
    rw [c] at e
    cases e
  | some j =>
    rw [c] at e
    refine ⟨j, e, fun x hx => ?_⟩
    rw [h, c]
    exact hx
theorem at0 {α : Type} {x : α} {xs : List α} : atI (x :: xs) 0 = some x := atI_nat (xs := x :: xs) (j := 0) rfl
theorem at1 {α : Type} {x y : α} {xs : List α} : atI (x :: y :: xs) 1 = some y := atI_nat (xs := x :: y :: xs) (j := 1) rfl
theorem de_ixT (ha : DE K Γ ta (.tuple ds)) (hb : DE K Γ tb (.int i)) (e : atI ds i = some d) : DE K Γ (tOp (rIxT K) ta tb) d := de_op ha hb fun av H x y Q on hx hy q => by
  cases hy
  cases hx with
  | tup nn hh tt =>
    obtain ⟨j, h1, h2⟩ := atI_len tt.len e
    obtain ⟨v, hv, hd⟩ := tt.at h1
    exact ⟨_, _, _, v, rfl, rfl, SqT.of hh, h2 v hv, q v H (Same.refl H) hd⟩
theorem de_ixL (ha : DE K Γ ta (.list ds)) (hb : DE K Γ tb (.int i)) (e : atI ds i = some d) : DE K Γ (tOp (rIxL K) ta tb) d := de_op ha hb fun av H x y Q on hx hy q => by
  cases hy
  cases hx with
  | lst nn hh tt =>
    obtain ⟨j, h1, h2⟩ := atI_len tt.len e
    obtain ⟨v, hv, hd⟩ := tt.at h1
    exact ⟨_, _, _, v, rfl, rfl, SqL.of hh, h2 v hv, q v H (Same.refl H) hd⟩
theorem de_add (ha : DE K Γ ta (.int i)) (hb : DE K Γ tb (.int j)) : DE K Γ (tOp (rI0 fun i j => .int (i + j)) ta tb) (.int (i + j)) := de_op ha hb fun av H x y Q on hx hy q => by
  cases hx
  cases hy
  exact ⟨i, j, rfl, rfl, q _ H (Same.refl H) (.int _)⟩
theorem de_sub (ha : DE K Γ ta (.int i)) (hb : DE K Γ tb (.int j)) : DE K Γ (tOp (rI0 fun i j => .int (i - j)) ta tb) (.int (i - j)) := de_op ha hb fun av H x y Q on hx hy q => by
  cases hx
  cases hy
  exact ⟨i, j, rfl, rfl, q _ H (Same.refl H) (.int _)⟩
theorem de_pow (ha : DE K Γ ta (.int i)) (hb : DE K Γ tb (.int j)) (hc : CPow i j) : DE K Γ (tOp (rI CPow fun i j => .int (i ^ j.toNat)) ta tb) (.int (i ^ j.toNat)) := de_op ha hb fun av H x y Q on hx hy q => by
  cases hx
  cases hy
  exact ⟨i, j, rfl, rfl, hc, q _ H (Same.refl H) (.int _)⟩
theorem de_neg (ha : DE K Γ ta (.int i)) : DE K Γ (tUn (rU fun i => .int (-i)) ta) (.int (-i)) := fun av σ H o Q q => ha av σ H o _ fun x H1 s1 hx => by
  cases hx
  exact ⟨i, rfl, q _ H1 s1 (.int _)⟩
theorem de_cmp {g : Int → Int → Bool} (ha : DE K Γ ta (.int i)) (hb : DE K Γ tb (.int j)) : DE K Γ (tOp (rI0 fun i j => .bl (g i j)) ta tb) (.bool (g i j)) := de_op ha hb fun av H x y Q on hx hy q => by
  cases hx
  cases hy
  exact ⟨i, j, rfl, rfl, q _ H (Same.refl H) (.bl _)⟩
theorem de_eqI (ha : DE K Γ ta (.int i)) (hb : DE K Γ tb (.int j)) : DE K Γ (tOp rEq ta tb) (.bool (decide (i = j))) := de_op ha hb fun av H x y Q on hx hy q => by
  cases hx
  cases hy
  refine ⟨rfl, q _ H (Same.refl H) ?_⟩
  rw [show decide (V.int i = V.int j) = decide (i = j) from decide_eq_decide.mpr ⟨V.int.inj, congrArg _⟩]
  exact .bl _
theorem de_neI (ha : DE K Γ ta (.int i)) (hb : DE K Γ tb (.int j)) : DE K Γ (tOp rNe ta tb) (.bool (!decide (i = j))) := de_op ha hb fun av H x y Q on hx hy q => by
  cases hx
  cases hy
  refine ⟨rfl, q _ H (Same.refl H) ?_⟩
  rw [show decide (V.int i = V.int j) = decide (i = j) from decide_eq_decide.mpr ⟨V.int.inj, congrArg _⟩]
  exact .bl _
theorem de_eqS (ha : DE K Γ ta (.str s)) (hb : DE K Γ tb (.str z)) : DE K Γ (tOp rEq ta tb) (.bool (decide (s = z))) := de_op ha hb fun av H x y Q on hx hy q => by
  cases hx
  cases hy
  refine ⟨rfl, q _ H (Same.refl H) ?_⟩
  rw [show decide (V.str s = V.str z) = decide (s = z) from decide_eq_decide.mpr ⟨V.str.inj, congrArg _⟩]
  exact .bl _
theorem de_eqD (ha : DE K Γ ta d) (hb : DE K Γ tb e) (h1 : SeqAt.shaped d = true) (h2 : SeqAt.shaped e = true) : DE K Γ (tOp (rEqD K) ta tb) (.bool (PyData.eqv d e)) := de_op ha hb fun av H x y Q on hx hy q =>
  ⟨d, e, hx.dp, hy.dp, h1, h2, q _ H (Same.refl H) (.bl _)⟩
theorem de_neD (ha : DE K Γ ta d) (hb : DE K Γ tb e) (h1 : SeqAt.shaped d = true) (h2 : SeqAt.shaped e = true) : DE K Γ (tOp (rNeD K) ta tb) (.bool (!PyData.eqv d e)) := de_op ha hb fun av H x y Q on hx hy q =>
  ⟨d, e, hx.dp, hy.dp, h1, h2, q _ H (Same.refl H) (.bl _)⟩
theorem de_inD (ha : DE K Γ ta d) (hb : DE K Γ tb (.list es)) (h1 : SeqAt.shaped d = true) (h2 : SeqAt.shaped (.list es) = true) : DE K Γ (tOp (rInD K) ta tb) (.bool (es.any fun z => PyData.eqv z d)) := de_op ha hb fun av H x y Q on hx hy q =>
  ⟨d, es, hx.dp, hy.dp, h1, h2, q _ H (Same.refl H) (.bl _)⟩
theorem de_isN (ha : DE K Γ ta d) : DE K Γ (tOp (fun x y H Q => y = .non ∧ Q (.bl (decide (x = .non))) H) ta (tC .non)) (.bool (noneB d)) := fun av σ H o Q q =>
  ha av σ H o _ fun x H1 s1 hx => ⟨rfl, by rw [non_iff hx.dp]; exact q _ H1 s1 (.bl _)⟩
theorem de_notN (ha : DE K Γ ta d) : DE K Γ (tOp (fun x y H Q => y = .non ∧ Q (.bl (!decide (x = .non))) H) ta (tC .non)) (.bool (!noneB d)) := fun av σ H o Q q =>
  ha av σ H o _ fun x H1 s1 hx => ⟨rfl, by rw [non_iff hx.dp]; exact q _ H1 s1 (.bl _)⟩
theorem de_chain {g g' : Int → Int → Bool} (ha : DE K Γ ta (.int i)) (hb : DE K Γ tb (.int j)) (hc : g i j = true → DE K Γ tc (.int k)) : DE K Γ (tChain (rI0 fun i j => .bl (g i j)) (rI0 fun i j => .bl (g' i j)) ta tb tc) (.bool (g i j && g' j k)) := fun av σ H o Q q =>
  ha av σ H o _ fun x H1 s1 hx => hb av σ H1 (o.sm s1) _ fun y H2 s2 hy => by
    cases hx
    cases hy
    refine ⟨i, j, rfl, rfl, _, rfl, ?_⟩
    by_cases c : g i j = true
    · refine yes c (hc c av σ H2 (o.sm (s1.trans s2)) _ fun z H3 s3 hz => ?_)
      cases hz
      rw [c, Bool.true_and] at q
      exact ⟨j, k, rfl, rfl, q _ H3 ((s1.trans s2).trans s3) (.bl _)⟩
    · refine no c ?_
      rw [Bool.eq_false_iff.mpr c, Bool.false_and] at q
      exact q _ H2 (s1.trans s2) (.bl _)
theorem de_chain3 {g g' g3 : Int → Int → Bool} (ha : DE K Γ ta (.int i)) (hb : DE K Γ tb (.int j)) (hc : DE K Γ tc (.int k)) (hd : DE K Γ td (.int l)) : DE K Γ (tChain3 (rI0 fun i j => .bl (g i j)) (rI0 fun i j => .bl (g' i j)) (rI0 fun i j => .bl (g3 i j)) ta tb tc td) (.bool (g i j && (g' j k && g3 k l))) := fun av σ H o Q q =>
  ha av σ H o _ fun x H1 s1 hx => hb av σ H1 (o.sm s1) _ fun y H2 s2 hy => by
    cases hx
    cases hy
    refine ⟨i, j, rfl, rfl, _, rfl, ?_⟩
    by_cases c : g i j = true
    · refine yes c (hc av σ H2 (o.sm (s1.trans s2)) _ fun z H3 s3 hz => ?_)
      cases hz
      rw [c, Bool.true_and] at q
      refine ⟨j, k, rfl, rfl, _, rfl, ?_⟩
      by_cases c2 : g' j k = true
      · refine yes c2 (hd av σ H3 (o.sm ((s1.trans s2).trans s3)) _ fun z4 H4 s4 h4 => ?_)
        cases h4
        rw [c2, Bool.true_and] at q
        exact ⟨k, l, rfl, rfl, q _ H4 (((s1.trans s2).trans s3).trans s4) (.bl _)⟩
      · refine no c2 ?_
        rw [Bool.eq_false_iff.mpr c2, Bool.false_and] at q
        exact q _ H3 ((s1.trans s2).trans s3) (.bl _)
    · refine no c ?_
      rw [Bool.eq_false_iff.mpr c, Bool.false_and] at q
      exact q _ H2 (s1.trans s2) (.bl _)
theorem de_and (ha : DE K Γ ta (.bool a)) (hb : a = true → DE K Γ tb (.bool b)) : DE K Γ (tAndV ta tb) (.bool (a && b)) := fun av σ H o Q q =>
  ha av σ H o _ fun x H1 s1 hx => by
    cases hx
    refine ⟨a, rfl, ?_⟩
    by_cases c : a = true
    · refine yes c (hb c av σ H1 (o.sm s1) _ fun y H2 s2 hy => ?_)
      rw [c, Bool.true_and] at q
      exact q _ H2 (s1.trans s2) hy
    · refine no c ?_
      rw [Bool.eq_false_iff.mpr c, Bool.false_and] at q
      exact q _ H1 s1 (.bl _)
theorem de_or (ha : DE K Γ ta (.bool a)) (hb : a = false → DE K Γ tb (.bool b)) : DE K Γ (tOrV ta tb) (.bool (a || b)) := fun av σ H o Q q =>
  ha av σ H o _ fun x H1 s1 hx => by
    cases hx
    refine ⟨a, rfl, ?_⟩
    by_cases c : a = true
    · refine yes c ?_
      rw [c, Bool.true_or] at q
      exact q _ H1 s1 (.bl _)
    · refine no c (hb (Bool.eq_false_iff.mpr c) av σ H1 (o.sm s1) _ fun y H2 s2 hy => ?_)
      rw [Bool.eq_false_iff.mpr c, Bool.false_or] at q
      exact q _ H2 (s1.trans s2) hy
theorem de_not (ha : DE K Γ ta (.bool a)) : DE K Γ (tNotV ta) (.bool (!a)) := fun av σ H o Q q => ha av σ H o _ fun x H1 s1 hx => by
  cases hx
  exact ⟨a, rfl, q _ H1 s1 (.bl _)⟩
theorem de_if (ht : DT K Γ tt c) (ha : c = true → DE K Γ ta d) (hb : c = false → DE K Γ tb e) : DE K Γ (tIf tt ta tb) (if c = true then d else e) := fun av σ H o Q q =>
  ht av σ H o _ fun H1 s1 => by
    cases c with
    | true => exact yes rfl (ha rfl av σ H1 (o.sm s1) _ fun x H2 s2 hx => q x H2 (s1.trans s2) hx)
    | false => exact no (by decide) (hb rfl av σ H1 (o.sm s1) _ fun x H2 s2 hx => q x H2 (s1.trans s2) hx)
theorem de_isi {T : String} (ha : DE K Γ ta d) (hb : kitB (tyN d) T = some b) : DE K Γ (tCB (rIsi K) (tCons ta (tCons (tC (.ty T)) tNil))) (.bool b) := fun av σ H o Q q =>
  ha av σ H o _ fun x H1 s1 hx => isi hx.dp hb (q _ H1 s1 (.bl b))
theorem de_lenL (ha : DE K Γ ta (.list ds)) : DE K Γ (tCB (rLenK K) (tCons ta tNil)) (.int (ds.length : Nat)) := fun av σ H o Q q =>
  ha av σ H o _ fun x H1 s1 hx => by
    cases hx with
    | lst nn hh tt => exact ⟨_, _, rfl, .inl (SqL.of hh), by rw [tt.len]; exact q _ H1 s1 (.int _)⟩
theorem de_lenT (ha : DE K Γ ta (.tuple ds)) : DE K Γ (tCB (rLenK K) (tCons ta tNil)) (.int (ds.length : Nat)) := fun av σ H o Q q =>
  ha av σ H o _ fun x H1 s1 hx => by
    cases hx with
    | tup nn hh tt => exact ⟨_, _, rfl, .inr (SqT.of hh), by rw [tt.len]; exact q _ H1 s1 (.int _)⟩
theorem de_lenS (ha : DE K Γ ta (.str z)) (hz : z.length ≤ 1000) : DE K Γ (tCB (fun xs H Q => ∃ z, xs = [.str z] ∧ z.length ≤ sizeLine ∧ Q (.int z.length) H) (tCons ta tNil)) (.int z.length) := fun av σ H o Q q =>
  ha av σ H o _ fun x H1 s1 hx => by
    cases hx
    exact ⟨z, rfl, Nat.le_of_lt (small1000 hz), q _ H1 s1 (.int _)⟩
theorem de_listL (ha : DE K Γ ta (.list ds)) : DE K Γ (tCB (rListK K) (tCons ta tNil)) (.list ds) := fun av σ H o Q q =>
  ha av σ H o _ fun x H1 s1 hx => by
    cases hx with
    | lst nn hh tt => exact ⟨_, _, rfl, .inl (SqL.of hh), fun l nl => q _ _ (s1.trans (same_new nl)) (.lst (off_new (on_sm o.on s1) nl) upd_same (tt.sm (same_new nl)))⟩
theorem de_listT (ha : DE K Γ ta (.tuple ds)) : DE K Γ (tCB (rListK K) (tCons ta tNil)) (.list ds) := fun av σ H o Q q =>
  ha av σ H o _ fun x H1 s1 hx => by
    cases hx with
    | tup nn hh tt => exact ⟨_, _, rfl, .inr (SqT.of hh), fun l nl => q _ _ (s1.trans (same_new nl)) (.lst (off_new (on_sm o.on s1) nl) upd_same (tt.sm (same_new nl)))⟩
theorem de_cat (ha : DE K Γ ta (.list ds)) (hb : DE K Γ tb (.list es)) (n : ds.length + es.length ≤ 1000) : DE K Γ (tOp rCat ta tb) (.list (ds ++ es)) := de_op ha hb fun av H x y Q on hx hy q => by
  cases hx with
  | lst nn hh tt =>
    cases hy with
    | lst nn2 hh2 tt2 => exact ⟨_, _, _, _, rfl, rfl, hh, hh2, by rw [tt.len, tt2.len]; exact Nat.le_of_lt (small1000 n), fun z nz => q _ _ (same_new nz) (.lst (off_new on nz) upd_same ((tt.app tt2).sm (same_new nz)))⟩
theorem da_boolsI {K : PySem.W.Frag} {av : List Addr} {H : Hp} : ∀ {xs : List V} {bs : List Bool}, DaAll K av H xs (bs.map PyData.bool) → xs = bs.map V.bl
  | [], [], _ => rfl
  | x :: xs, b :: bs, h => by
    cases h with
    | cons h t =>
      cases h
      rw [da_boolsI t]
      rfl
theorem de_all {bs : List Bool} (ha : DE K Γ ta (.list (bs.map PyData.bool))) : DE K Γ (tCB (rAll K) (tCons ta tNil)) (.bool (bs.all id)) := fun av σ H o Q q =>
  ha av σ H o _ fun x H1 s1 hx => by
    cases hx with
    | lst nn hh tt =>
      rw [da_boolsI tt] at hh
      exact ⟨_, bs, rfl, SqL.of hh, q _ H1 s1 (.bl _)⟩
theorem de_any {bs : List Bool} (ha : DE K Γ ta (.list (bs.map PyData.bool))) : DE K Γ (tCB (rAny K) (tCons ta tNil)) (.bool (bs.any id)) := fun av σ H o Q q =>
  ha av σ H o _ fun x H1 s1 hx => by
    cases hx with
    | lst nn hh tt =>
      rw [da_boolsI tt] at hh
      exact ⟨_, bs, rfl, SqL.of hh, q _ H1 s1 (.bl _)⟩
theorem dt_test (ha : DE K Γ ta (.bool b)) : DT K Γ (tTest ta) b := fun av σ H o Q q => ha av σ H o _ fun x H1 s1 hx => by
  cases hx
  exact ⟨b, rfl, q H1 s1⟩
theorem dt_val (ha : DE K Γ ta (.bool b)) : DT K Γ (tB ta) b := fun av σ H o Q q => ha av σ H o _ fun x H1 s1 hx => by
  cases hx
  exact ⟨b, rfl, q H1 s1⟩
theorem dt_and (ha : DT K Γ tt a) (hb : a = true → DT K Γ tu b) : DT K Γ (tAnd tt tu) (a && b) := fun av σ H o Q q => ha av σ H o _ fun H1 s1 => by
  cases a with
  | true => exact yes rfl (hb rfl av σ H1 (o.sm s1) _ fun H2 s2 => q H2 (s1.trans s2))
  | false => exact no (by decide) (q H1 s1)
theorem dt_or (ha : DT K Γ tt a) (hb : a = false → DT K Γ tu b) : DT K Γ (tOr tt tu) (a || b) := fun av σ H o Q q => ha av σ H o _ fun H1 s1 => by
  cases a with
  | true => exact yes rfl (q H1 s1)
  | false => exact no (by decide) (hb rfl av σ H1 (o.sm s1) _ fun H2 s2 => q H2 (s1.trans s2))
theorem dt_not (ha : DT K Γ tt a) : DT K Γ (tNot tt) (!a) := fun av σ H o Q q => ha av σ H o _ fun H1 s1 => q H1 s1
theorem dt_truT (ha : DE K Γ ta (.tuple ds)) : DT K Γ (tTruK K ta) (!ds.isEmpty) := fun av σ H o Q q => ha av σ H o _ fun x H1 s1 hx => by
  cases hx with
  | tup nn hh tt =>
    refine ⟨_, .inr (.inl ⟨_, SqT.of hh, rfl⟩), ?_⟩
    have e : ∀ {xs : List V}, DaAll K av H1 xs ds → xs.isEmpty = ds.isEmpty := fun h => by cases h <;> rfl
    rw [e tt]
    exact q H1 s1
theorem dt_truL (ha : DE K Γ ta (.list ds)) : DT K Γ (tTruK K ta) (!ds.isEmpty) := fun av σ H o Q q => ha av σ H o _ fun x H1 s1 hx => by
  cases hx with
  | lst nn hh tt =>
    refine ⟨_, .inl ⟨_, SqL.of hh, rfl⟩, ?_⟩
    have e : ∀ {xs : List V}, DaAll K av H1 xs ds → xs.isEmpty = ds.isEmpty := fun h => by cases h <;> rfl
    rw [e tt]
    exact q H1 s1
theorem dt_tru (ha : DE K Γ ta (.bool b)) : DT K Γ (tTruK K ta) b := fun av σ H o Q q => ha av σ H o _ fun x H1 s1 hx => by
  cases hx
  exact ⟨b, rfl, q H1 s1⟩
/-- a call -/
def Ret (K : PySem.W.Frag) (sp : Sp) (ds : List PyData) (r : PyData) : Prop := ∀ av vs H (Q : VK), (∀ a ∈ av, H a ≠ none) → DaAll K av H vs ds → (∀ x H', Same H H' → Da K av H' x r → Q x H') → sp vs H Q E0
theorem de_call {sp : Sp} (ha : DA K Γ tA ds) (hc : Ret K sp ds d) : DE K Γ (tCall sp [] E0 tA) d := fun av σ H o Q q =>
  ha av σ H o _ fun xs H1 s1 hx => by
    show sp (xs ++ []) H1 Q E0
    rw [List.append_nil]
    exact hc av xs H1 Q (on_sm o.on s1) hx fun x H2 s2 hd => q x H2 (s1.trans s2) hd
end
/-- a def that looks at data alone -/
def sp_d (K : PySem.W.Frag) (R : List PyData → PyData → Prop) : Sp := fun vs H Q _ => ∃ (av : List Addr) (ds : List PyData) (r : PyData), (∀ a ∈ av, H a ≠ none) ∧ DaAll K av H vs ds ∧ R ds r ∧ ∀ x H', Same H H' → Da K av H' x r → Q x H'
theorem ret_d {K : PySem.W.Frag} {R : List PyData → PyData → Prop} {ds : List PyData} {r : PyData} (h : R ds r) : Ret K (sp_d K R) ds r := fun av vs H Q on hx q => ⟨av, ds, r, on, hx, h, q⟩
end Kin
/-! exact data: walks, comprehensions, statements, defs -/
namespace Kin
open PySem PySem.Spec PyProof.Rows L2 RZ
section
variable {K : PySem.W.Frag} {av bv : List Addr} {H H' H1 : Hp}
mutual
theorem Da.wid (s : ∀ b ∈ bv, b ∈ av ∨ H b = none) : ∀ {d : PyData} {x : V}, Da K av H x d → Da K bv H x d
  | _, _, .non => .non
  | _, _, .bl b => .bl b
  | _, _, .int i => .int i
  | _, _, .str x => .str x
  | .list _, _, .lst m h t => .lst (fun z => (s _ z).elim m fun e => by
      rw [e] at h
      cases h) h (DaAll.wid s t)
  | .tuple _, _, .tup m h t => .tup (fun z => (s _ z).elim m fun e => by
      rw [e] at h
      cases h) h (DaAll.wid s t)
theorem DaAll.wid (s : ∀ b ∈ bv, b ∈ av ∨ H b = none) : ∀ {ds : List PyData} {xs : List V}, DaAll K av H xs ds → DaAll K bv H xs ds
  | _, _, .nil => .nil
  | _ :: _, _ :: _, .cons h t => .cons (Da.wid s h) (DaAll.wid s t)
end
end
/-- J walks these, as long as all stays that stood in H1 -/
def WalkD (K : PySem.W.Frag) (av : List Addr) (J : It) (H1 : Hp) (ds : List PyData) : Prop := ∀ bv i H', (∀ b ∈ bv, b ∈ av ∨ H1 b = none) → (∀ b ∈ bv, H' b ≠ none) → Same H1 H' →
  (ds.length ≤ i → J.stop i H') ∧ ∀ d, ds[i]? = some d → J.go i H' ∧ ∀ x H2, J.yld i H' x H2 → Same H' H2 ∧ Da K bv H2 x d
def DI (K : PySem.W.Frag) (Γ : DX) (wi : TI) (ds : List PyData) : Prop := ∀ av σ H, SlD K av H σ Γ → ∀ R, (∀ J H1, Same H H1 → WalkD K av J H1 ds → R J H1) → wi σ H R
def rI1 (n : Int) : List PyData := (List.range n.toNat).map fun k => .int (k : Nat)
def enumD (ds : List PyData) : List PyData := ds.zipIdx.map fun p => .tuple [.int (p.2 : Nat), p.1]
def zipD (ds es : List PyData) : List PyData := (ds.zip es).map fun p => .tuple [p.1, p.2]
def signsD (z : Str) : List PyData := z.cps.toList.map fun c => .str ⟨#[c]⟩
theorem DI.of {K : PySem.W.Frag} {Γ : DX} {wi : TI} {ds es : List PyData} (h : DI K Γ wi ds) (e : ds = es) : DI K Γ wi es := e ▸ h
section
variable {K : PySem.W.Frag} {Γ : DX} {te tl : TE} {tA : TA} {ds es : List PyData} {n : Int} {z : Str}
theorem sql_inj {a : Addr} {xs ys : List V} {H : Hp} (h : H a = some (.lst xs)) (h2 : SqL K H a ys) (nk : K.lookup a = none ∨ True := .inr trivial) : True := trivial
theorem di_list (h : DE K Γ te (.list ds)) : DI K Γ (iList K te) ds := fun av σ H o R q => h av σ H o _ fun x H1 s1 hx => by
  cases hx with
  | lst nn hh tt =>
    rename_i a xs
    refine ⟨a, rfl, ⟨xs, SqL.of hh⟩, q _ H1 s1 fun bv i H' hb hon s2 => ⟨fun l => ⟨xs, SqL.of (s2 _ _ hh), by rw [tt.len]; exact l⟩, fun d hd => ?_⟩⟩
    obtain ⟨x, hx, hxd⟩ := tt.at hd
    refine ⟨⟨xs, x, SqL.of (s2 _ _ hh), hx⟩, fun y H2 hy => ?_⟩
    obtain ⟨rfl, hy⟩ := hy
    have e := hy xs (SqL.of (s2 _ _ hh))
    rw [hx] at e
    cases e
    exact ⟨Same.refl _, (hxd.wid hb).sm s2⟩
theorem di_tup (h : DE K Γ te (.tuple ds)) : DI K Γ (iTup K te) ds := fun av σ H o R q => h av σ H o _ fun x H1 s1 hx => by
  cases hx with
  | tup nn hh tt =>
    rename_i a xs
    refine ⟨a, rfl, ⟨xs, SqT.of hh⟩, q _ H1 s1 fun bv i H' hb hon s2 => ⟨fun l => ⟨xs, SqT.of (s2 _ _ hh), by rw [tt.len]; exact l⟩, fun d hd => ?_⟩⟩
    obtain ⟨x, hx, hxd⟩ := tt.at hd
    refine ⟨⟨xs, x, SqT.of (s2 _ _ hh), hx⟩, fun y H2 hy => ?_⟩
    obtain ⟨rfl, hy⟩ := hy
    have e := hy xs (SqT.of (s2 _ _ hh))
    rw [hx] at e
    cases e
    exact ⟨Same.refl _, (hxd.wid hb).sm s2⟩
theorem di_range (h : DA K Γ tA [.int n]) (hn : (decide (-1000 ≤ n) && decide (n ≤ 1000)) = true) : DI K Γ (iRng1 tA) (rI1 n) := fun av σ H o R q => h av σ H o _ fun xs H1 s1 hx => by
  cases hx with
  | cons h1 t =>
    cases h1
    cases t
    rw [Bool.and_eq_true, decide_eq_true_eq, decide_eq_true_eq] at hn
    refine ⟨n, rfl, by omega, by omega, q _ H1 s1 fun bv i H' hb hon s2 => ⟨fun l => ?_, fun d hd => ?_⟩⟩
    · have l : (rI1 n).length ≤ i := l
      unfold rI1 at l
      rw [List.length_map, List.length_range] at l
      exact l
    · have hd : ((List.range n.toNat).map fun k => PyData.int (k : Nat))[i]? = some d := hd
      rw [List.getElem?_map] at hd
      by_cases c : i < n.toNat
      · rw [List.getElem?_range c] at hd
        cases hd
        refine ⟨c, fun y H2 hy => ?_⟩
        obtain ⟨rfl, rfl⟩ := hy
        refine ⟨Same.refl _, ?_⟩
        rw [Int.zero_add]
        exact .int _
      · rw [List.getElem?_eq_none (by rw [List.length_range]; omega)] at hd
        cases hd
theorem di_enumT (h : DA K Γ tA [.tuple ds]) : DI K Γ (iEnumT K tA) (enumD ds) := fun av σ H o R q => h av σ H o _ fun xs H1 s1 hx => by
  cases hx with
  | cons h1 t =>
    cases t
    cases h1 with
    | tup nn hh tt =>
      rename_i a ys
      refine ⟨a, ys, rfl, SqT.of hh, q _ H1 s1 fun bv i H' hb hon s2 => ⟨fun l => ⟨ys, SqT.of (s2 _ _ hh), ?_⟩, fun d hd => ?_⟩⟩
      · have l : (enumD ds).length ≤ i := l
        unfold enumD at l
        rw [List.length_map, List.length_zipIdx] at l
        rw [tt.len]
        exact l
      · unfold enumD at hd
        rw [List.getElem?_map, List.getElem?_zipIdx, Option.map_map] at hd
        obtain ⟨d0, e0, e1⟩ := Option.map_eq_some_iff.mp hd
        obtain ⟨x, hx, hxd⟩ := tt.at e0
        refine ⟨⟨ys, x, SqT.of (s2 _ _ hh), hx⟩, fun y H2 hy => ?_⟩
        obtain ⟨T, x', rfl, nT, rfl, hx'⟩ := hy
        have e := hx' ys (SqT.of (s2 _ _ hh))
        rw [hx] at e
        cases e
        rw [← e1]
        have s3 := same_new (o := .tup [.int (i : Nat), x]) nT
        have e4 : ((0 + i : Nat) : Int) = (i : Nat) := by omega
        refine ⟨s3, .tup (off_new hon nT) upd_same (.cons ?_ (.cons (((hxd.wid hb).sm s2).sm s3) .nil))⟩
        show Da K bv _ (.int (i : Nat)) (.int ((0 + i : Nat) : Int))
        rw [e4]
        exact .int _
theorem di_enumL (h : DA K Γ tA [.list ds]) : DI K Γ (iEnum K tA) (enumD ds) := fun av σ H o R q => h av σ H o _ fun xs H1 s1 hx => by
  cases hx with
  | cons h1 t =>
    cases t
    cases h1 with
    | lst nn hh tt =>
      rename_i a ys
      refine ⟨a, ys, rfl, SqL.of hh, q _ H1 s1 fun bv i H' hb hon s2 => ⟨fun l => ⟨ys, SqL.of (s2 _ _ hh), ?_⟩, fun d hd => ?_⟩⟩
      · have l : (enumD ds).length ≤ i := l
        unfold enumD at l
        rw [List.length_map, List.length_zipIdx] at l
        rw [tt.len]
        exact l
      · unfold enumD at hd
        rw [List.getElem?_map, List.getElem?_zipIdx, Option.map_map] at hd
        obtain ⟨d0, e0, e1⟩ := Option.map_eq_some_iff.mp hd
        obtain ⟨x, hx, hxd⟩ := tt.at e0
        refine ⟨⟨ys, x, SqL.of (s2 _ _ hh), hx⟩, fun y H2 hy => ?_⟩
        obtain ⟨T, x', rfl, nT, rfl, hx'⟩ := hy
        have e := hx' ys (SqL.of (s2 _ _ hh))
        rw [hx] at e
        cases e
        rw [← e1]
        have s3 := same_new (o := .tup [.int (i : Nat), x]) nT
        have e4 : ((0 + i : Nat) : Int) = (i : Nat) := by omega
        refine ⟨s3, .tup (off_new hon nT) upd_same (.cons ?_ (.cons (((hxd.wid hb).sm s2).sm s3) .nil))⟩
        show Da K bv _ (.int (i : Nat)) (.int ((0 + i : Nat) : Int))
        rw [e4]
        exact .int _
theorem zip_at {ds es : List PyData} {i : Nat} {d : PyData} (h : (zipD ds es)[i]? = some d) : ∃ d1 d2, ds[i]? = some d1 ∧ es[i]? = some d2 ∧ d = .tuple [d1, d2] := by
  unfold zipD at h
  rw [List.getElem?_map] at h
  obtain ⟨p, h1, h2⟩ := Option.map_eq_some_iff.mp h
  obtain ⟨h3, h4⟩ := List.getElem?_zip_eq_some.mp h1
  exact ⟨_, _, h3, h4, h2.symm⟩
theorem di_zipL (h : DA K Γ tA [.list ds, .list es]) : DI K Γ (iZipA K tA) (zipD ds es) := fun av σ H o R q => h av σ H o _ fun xs H1 s1 hx => by
  cases hx with
  | cons h1 t =>
    cases t with
    | cons h2 t =>
      cases t
      cases h1 with
      | lst nn hh tt =>
        cases h2 with
        | lst nn2 hh2 tt2 =>
          rename_i a ys b zs
          refine ⟨a, b, ys, zs, rfl, .inl ⟨SqL.of hh, SqL.of hh2, q _ H1 s1 fun bv i H' hb hon s2 => ⟨fun l => ⟨ys, zs, SqL.of (s2 _ _ hh), SqL.of (s2 _ _ hh2), ?_⟩, fun d hd => ?_⟩⟩⟩
          · have l : (zipD ds es).length ≤ i := l
            unfold zipD at l
            rw [List.length_map, List.length_zip] at l
            rw [tt.len, tt2.len]
            omega
          · obtain ⟨d1, d2, e1, e2, rfl⟩ := zip_at hd
            obtain ⟨x, hx, hxd⟩ := tt.at e1
            obtain ⟨x2, hx2, hxd2⟩ := tt2.at e2
            refine ⟨⟨ys, zs, x, x2, SqL.of (s2 _ _ hh), SqL.of (s2 _ _ hh2), hx, hx2⟩, fun y H2 hy => ?_⟩
            obtain ⟨T, x', y', rfl, nT, rfl, hx', hy'⟩ := hy
            have e := hx' ys (SqL.of (s2 _ _ hh))
            have e' := hy' zs (SqL.of (s2 _ _ hh2))
            rw [hx] at e
            rw [hx2] at e'
            cases e
            cases e'
            have s3 := same_new (o := .tup [x, x2]) nT
            exact ⟨s3, .tup (off_new hon nT) upd_same (.cons (((hxd.wid hb).sm s2).sm s3) (.cons (((hxd2.wid hb).sm s2).sm s3) .nil))⟩
theorem di_zipT (h : DA K Γ tA [.tuple ds, .tuple es]) : DI K Γ (iZipA K tA) (zipD ds es) := fun av σ H o R q => h av σ H o _ fun xs H1 s1 hx => by
  cases hx with
  | cons h1 t =>
    cases t with
    | cons h2 t =>
      cases t
      cases h1 with
      | tup nn hh tt =>
        cases h2 with
        | tup nn2 hh2 tt2 =>
          rename_i a ys b zs
          refine ⟨a, b, ys, zs, rfl, .inr ⟨SqT.of hh, SqT.of hh2, q _ H1 s1 fun bv i H' hb hon s2 => ⟨fun l => ⟨ys, zs, SqT.of (s2 _ _ hh), SqT.of (s2 _ _ hh2), ?_⟩, fun d hd => ?_⟩⟩⟩
          · have l : (zipD ds es).length ≤ i := l
            unfold zipD at l
            rw [List.length_map, List.length_zip] at l
            rw [tt.len, tt2.len]
            omega
          · obtain ⟨d1, d2, e1, e2, rfl⟩ := zip_at hd
            obtain ⟨x, hx, hxd⟩ := tt.at e1
            obtain ⟨x2, hx2, hxd2⟩ := tt2.at e2
            refine ⟨⟨ys, zs, x, x2, SqT.of (s2 _ _ hh), SqT.of (s2 _ _ hh2), hx, hx2⟩, fun y H2 hy => ?_⟩
            obtain ⟨T, x', y', rfl, nT, rfl, hx', hy'⟩ := hy
            have e := hx' ys (SqT.of (s2 _ _ hh))
            have e' := hy' zs (SqT.of (s2 _ _ hh2))
            rw [hx] at e
            rw [hx2] at e'
            cases e
            cases e'
            have s3 := same_new (o := .tup [x, x2]) nT
            exact ⟨s3, .tup (off_new hon nT) upd_same (.cons (((hxd.wid hb).sm s2).sm s3) (.cons (((hxd2.wid hb).sm s2).sm s3) .nil))⟩
theorem di_str (h : DE K Γ te (.str z)) : DI K Γ (iStr te) (signsD z) := fun av σ H o R q => h av σ H o _ fun x H1 s1 hx => by
  cases hx
  refine ⟨z, rfl, q _ H1 s1 fun bv i H' hb hon s2 => ⟨fun l => ?_, fun d hd => ?_⟩⟩
  · have l : (signsD z).length ≤ i := l
    unfold signsD at l
    rw [List.length_map, Array.length_toList] at l
    exact l
  · unfold signsD at hd
    rw [List.getElem?_map] at hd
    obtain ⟨c, h1, h2⟩ := Option.map_eq_some_iff.mp hd
    rw [Array.getElem?_toList] at h1
    refine ⟨(Array.getElem?_eq_some_iff.mp h1).1, fun y H2 hy => ?_⟩
    obtain ⟨rfl, c', e1, rfl⟩ := hy
    rw [h1] at e1
    cases e1
    rw [← h2]
    exact ⟨Same.refl _, .str _⟩
end
/-! ### targets -/
def DG (K : PySem.W.Frag) (vs : List Nat) (g : TG) (d : PyData) (Γ Γ' : DX) : Prop := ∀ av σ H x (Q : L2.St → Hp → Prop), SlD K av H σ Γ → Da K av H x d → (∀ σ', L2.wipe σ' vs = L2.wipe σ vs → SlD K av H σ' Γ' → Q σ' H) → g x σ H Q
def setD (Γ : DX) : List Nat → List PyData → DX
  | i :: r, d :: ds => setD (Γ.set i (some d)) r ds
  | _, _ => Γ
section
variable {K : PySem.W.Frag} {Γ Γ' : DX} {vs : List Nat} {d : PyData} {ds : List PyData}
theorem dg_name {j : Nat} (h : j ∈ vs) : DG K vs (gName j) d Γ (Γ.set j (some d)) := fun av σ H x Q o hx q => q _ (wipe_set h) (o.set hx)
theorem gnamesD {av : List Addr} {H : Hp} : ∀ {is : List Nat} {ds : List PyData} {xs : List V} {σ : L2.St} {Γ : DX} {Q : L2.St → Hp → Prop}, SlD K av H σ Γ → DaAll K av H xs ds → is.length = ds.length → (∀ i ∈ is, i ∈ vs) → (∀ σ', L2.wipe σ' vs = L2.wipe σ vs → SlD K av H σ' (setD Γ is ds) → Q σ' H) → gNames is xs σ H Q
  | [], [], [], σ, Γ, Q, o, .nil, _, _, q => ⟨rfl, q σ rfl o⟩
  | i :: r, d :: ds, x :: xs, σ, Γ, Q, o, .cons hd t, l, m, q => ⟨x, xs, rfl, gnamesD (o.set hd) t (Nat.succ.inj l) (fun j hj => m j (List.mem_cons_of_mem _ hj)) fun σ' e o' => q σ' (e.trans (wipe_set (m i List.mem_cons_self))) o'⟩
theorem dg_tup {g : TGs} {n : Nat} (is : List Nat) (hg : g = gNames is := by rfl) (hl : is.length = ds.length := by rfl) (hn : ds.length = n := by rfl) (m : ∀ i ∈ is, i ∈ vs := by decide) : DG K vs (gTup K n g) (.tuple ds) Γ (setD Γ is ds) := fun av σ H x Q o hx q => by
  cases hx with
  | tup nn hh tt =>
    refine ⟨_, _, rfl, SqT.of hh, by rw [tt.len]; exact hn, ?_⟩
    rw [hg]
    exact gnamesD o tt hl m q
end
/-! ### comprehensions -/
section
variable {K : PySem.W.Frag} {Γ : DX} {wi : TI} {g : TG} {tt : TT} {te : TE} {vs : List Nat} {ds : List PyData}
theorem de_lcF (b : PyData → Bool) (e : PyData → PyData) (hi : DI K Γ wi ds) (hl : ds.length ≤ 1000) (hb : ∀ (i : Nat) d, ds[i]? = some d → ∃ Γ', DG K vs g d (wipeD Γ vs) Γ' ∧ DT K Γ' tt (b d) ∧ (b d = true → DE K Γ' te (e d))) : DE K Γ (tLc wi g tt te vs) (.list ((ds.filter b).map e)) := fun av σ H o Q q =>
  hi av σ H o _ fun J H1 s1 w D nD => by
    have hon := on_sm o.on s1
    have hbv : ∀ x ∈ av ++ [D], x ∈ av ∨ H1 x = none := fun x m => (List.mem_append.mp m).elim .inl fun m => .inr (by rw [List.mem_singleton.mp m]; exact nD)
    have onD : ∀ {H' : Hp} {xs : List V}, Same H1 H' → H' D = some (.lst xs) → ∀ x ∈ av ++ [D], H' x ≠ none := fun {H' xs} s hD x m => (List.mem_append.mp m).elim (fun m => on_sm hon s x m) fun m => by
      rw [List.mem_singleton.mp m, hD]
      exact fun z => nomatch z
    refine ⟨fun i m H' => i ≤ ds.length ∧ m + i = ds.length ∧ Same H1 H' ∧ ∃ acc, H' D = some (.lst acc) ∧ DaAll K (av ++ [D]) H' acc (((ds.take i).filter b).map e), ⟨ds.length, Nat.zero_le _, rfl, same_new nD, [], upd_same, .nil⟩, fun i m H' hw => ?_⟩
    obtain ⟨hi, hm, s2, acc, hD, hacc⟩ := hw
    obtain ⟨w1, w2⟩ := w (av ++ [D]) i H' hbv (onD s2 hD) s2
    by_cases hlt : i < ds.length
    · obtain ⟨go, hy⟩ := w2 ds[i] (List.getElem?_eq_getElem hlt)
      refine .inr ⟨go, fun H2 => Same H1 H2 ∧ ∃ acc, H2 D = some (.lst acc) ∧ DaAll K (av ++ [D]) H2 acc (((ds.take (i + 1)).filter b).map e), fun H2 h2 => ⟨m - 1, by omega, by omega, by omega, h2⟩, fun x H2 hx => ?_⟩
      obtain ⟨s3, hxd⟩ := hy x H2 hx
      obtain ⟨Γ', hg, ht, he⟩ := hb i _ (List.getElem?_eq_getElem hlt)
      have s13 := s2.trans s3
      have hD2 := s3 _ _ hD
      have o2 : SlD K (av ++ [D]) H2 (L2.wipe σ vs) (wipeD Γ vs) := ((o.sm s1).grow nD s13 (by rw [hD2]; exact fun z => nomatch z)).wipe
      have et : ∀ (p : Bool), b ds[i] = p → ((ds.take (i + 1)).filter b).map e = ((ds.take i).filter b).map e ++ (if p = true then [e ds[i]] else []) := fun p hp => by
        rw [List.take_add_one, List.getElem?_eq_getElem hlt, List.filter_append, List.map_append]
        show _ ++ (([ds[i]] : List PyData).filter b).map e = _
        rw [List.filter_cons, hp]
        cases p <;> rfl
      refine hg _ _ H2 x _ o2 hxd fun σ' hw' o3 => ⟨by rw [hw', wipe_wipe], ?_⟩
      refine ht _ _ H2 o3 _ fun H3 s4 => ?_
      by_cases c : b ds[i] = true
      · refine yes c (he c _ _ H3 (o3.sm s4) _ fun y H4 s5 hyd => ⟨acc, s5 _ _ (s4 _ _ hD2), ?_, ?_⟩)
        · rw [hacc.len, List.length_map]
          have h1 := List.length_filter_le b (ds.take i)
          rw [List.length_take] at h1
          exact small1000 (by omega)
        · have s6 := (s13.trans s4).trans s5
          refine ⟨same_mut s6 nD, _, upd_same, ?_⟩
          rw [et true c, if_pos rfl]
          have mD : D ∈ av ++ [D] := List.mem_append_right _ List.mem_cons_self
          exact (((hacc.sm s3).sm s4).sm s5).put mD |>.app (.cons (hyd.put mD) .nil)
      · refine no c ⟨s13.trans s4, acc, s4 _ _ hD2, ?_⟩
        rw [et false (Bool.eq_false_iff.mpr c), if_neg (by decide), List.append_nil]
        exact (hacc.sm s3).sm s4
    · have ei : i = ds.length := by omega
      refine .inl ⟨w1 (by omega), q _ H' (s1.trans s2) ?_⟩
      rw [ei, List.take_length] at hacc
      exact .lst (off_new hon nD) hD (hacc.less fun x m => List.mem_append_left _ m)
theorem de_lcM (e : PyData → PyData) (hi : DI K Γ wi ds) (hl : ds.length ≤ 1000) (hb : ∀ (i : Nat) d, ds[i]? = some d → ∃ Γ', DG K vs g d (wipeD Γ vs) Γ' ∧ DE K Γ' te (e d)) : DE K Γ (tLc wi g tYes te vs) (.list (ds.map e)) := by
  have h := de_lcF (tt := tYes) (K := K) (g := g) (te := te) (vs := vs) (fun _ => true) e hi hl fun i d hd => by
    obtain ⟨Γ', h1, h2⟩ := hb i d hd
    exact ⟨Γ', h1, fun av σ H o Q q => q H (Same.refl H), fun _ => h2⟩
  rw [List.filter_eq_self.mpr fun _ _ => rfl] at h
  exact h
end
/-! ### statements -/
inductive Out
  | nx (Γ : DX)
  | rt (d : PyData)
  | bk (Γ : DX)
  | ct (Γ : DX)
/-- the first slots stay -/
structure Low (lo : Nat) (σ σ' : L2.St) : Prop where
  len : σ'.length = σ.length
  at_ : ∀ j, j < lo → σ'[j]? = σ[j]?
theorem Low.refl {lo : Nat} {σ : L2.St} : Low lo σ σ := ⟨rfl, fun _ _ => rfl⟩
theorem Low.trans {lo : Nat} {σ σ' τ : L2.St} (a : Low lo σ σ') (b : Low lo σ' τ) : Low lo σ τ := ⟨b.len.trans a.len, fun j h => (b.at_ j h).trans (a.at_ j h)⟩
theorem Low.set {lo i : Nat} {σ : L2.St} {x : Option V} (h : lo ≤ i) : Low lo σ (σ.set i x) := ⟨List.length_set, fun j hj => List.getElem?_set_ne (by omega)⟩
theorem Low.wipe {lo : Nat} {vs : List Nat} {σ σ' : L2.St} (h : ∀ v ∈ vs, lo ≤ v) (e : L2.wipe σ' vs = L2.wipe σ vs) : Low lo σ σ' := ⟨by rw [← wipe_length σ' vs, e, wipe_length], fun j hj => by
  have h1 : (L2.wipe σ' vs)[j]? = (L2.wipe σ vs)[j]? := by rw [e]
  have nj : j ∉ vs := fun m => by have := h j m; omega
  rw [wipe_get, wipe_get, if_neg fun z => nj z.1, if_neg fun z => nj z.1] at h1
  exact h1⟩
def Post (K : PySem.W.Frag) (av : List Addr) (H : Hp) (D : Ends) (lo : Nat) (σ : L2.St) : Out → Prop
  | .nx Γ => ∀ σ' H', Same H H' → Low lo σ σ' → SlD K av H' σ' Γ → D.nx σ' H'
  | .rt d => ∀ x H', Same H H' → Da K av H' x d → D.rt x H'
  | .bk Γ => ∀ σ' H', Same H H' → Low lo σ σ' → SlD K av H' σ' Γ → D.bk σ' H'
  | .ct Γ => ∀ σ' H', Same H H' → Low lo σ σ' → SlD K av H' σ' Γ → D.ct σ' H'
def DS {lo : Nat} (K : PySem.W.Frag) (Γ : DX) (ts : TS) (o : Out) : Prop := ∀ av σ H D, SlD K av H σ Γ → Post K av H D lo σ o → ts D σ H
section
variable {lo : Nat} {K : PySem.W.Frag} {Γ Γ' Γ1 Γ2 Δ : DX} {te : TE} {tt : TT} {ts tu tw tb t u : TS} {d r : PyData} {ds : List PyData} {g : TG} {wi : TI} {o : Out} {c : Bool}
theorem Post.sm {av : List Addr} {H H' : Hp} {D : Ends} {σ σ' : L2.St} (p : Post K av H D lo σ o) (s : Same H H') (l : Low lo σ σ') : Post K av H' D lo σ' o := by
  cases o with
  | nx Γ => exact fun τ H2 s2 l2 o2 => p τ H2 (s.trans s2) (l.trans l2) o2
  | rt d => exact fun x H2 s2 h2 => p x H2 (s.trans s2) h2
  | bk Γ => exact fun τ H2 s2 l2 o2 => p τ H2 (s.trans s2) (l.trans l2) o2
  | ct Γ => exact fun τ H2 s2 l2 o2 => p τ H2 (s.trans s2) (l.trans l2) o2
theorem ds_seq (a : DS (lo := lo) K Γ t (.nx Γ1)) (b : DS (lo := lo) K Γ1 u o) : DS (lo := lo) K Γ (tSeq t u) o := fun av σ H D s p => a av σ H { D with nx := u D } s fun σ' H' s1 l1 o1 => b av σ' H' D o1 (p.sm s1 l1)
theorem ds_seqR (a : DS (lo := lo) K Γ t (.rt r)) : DS (lo := lo) K Γ (tSeq t u) (.rt r) := fun av σ H D s p => a av σ H { D with nx := u D } s p
theorem ds_seqC (a : DS (lo := lo) K Γ t (.ct Γ1)) : DS (lo := lo) K Γ (tSeq t u) (.ct Γ1) := fun av σ H D s p => a av σ H { D with nx := u D } s p
theorem ds_if (ht : DT K Γ tt c) (h1 : c = true → DS (lo := lo) K Γ tu o) (h2 : c = false → DS (lo := lo) K Γ tw o) : DS (lo := lo) K Γ (tIfS tt tu tw) o := fun av σ H D s p => ht av σ H s _ fun H1 s1 => by
  cases c with
  | true => exact yes rfl (h1 rfl av σ H1 D (s.sm s1) (p.sm s1 Low.refl))
  | false => exact no (by decide) (h2 rfl av σ H1 D (s.sm s1) (p.sm s1 Low.refl))
theorem ds_ifS (ht : DT K Γ tt c) (h1 : c = true → DS (lo := lo) K Γ (tSeq tu u) o) (h2 : c = false → DS (lo := lo) K Γ (tSeq tw u) o) : DS (lo := lo) K Γ (tSeq (tIfS tt tu tw) u) o := fun av σ H D s p => ht av σ H s _ fun H1 s1 => by
  cases c with
  | true => exact yes rfl (h1 rfl av σ H1 D (s.sm s1) (p.sm s1 Low.refl))
  | false => exact no (by decide) (h2 rfl av σ H1 D (s.sm s1) (p.sm s1 Low.refl))
/-- a test whose body gives -/
theorem ds_ifR (ht : DT K Γ tt c) (h1 : c = true → DS (lo := lo) K Γ tu (.rt r)) (h2 : c = false → DS (lo := lo) K Γ u (.rt r)) : DS (lo := lo) K Γ (tSeq (tIfS tt tu tNext) u) (.rt r) := ds_ifS ht (fun e => ds_seqR (h1 e)) fun e => fun av σ H D s p => h2 e av σ H D s p
theorem ds_nextS (h : DS (lo := lo) K Γ u o) : DS (lo := lo) K Γ (tSeq tNext u) o := fun av σ H D s p => h av σ H D s p
theorem ds_asg {i : Nat} (a : DE K Γ te d) (hi : lo ≤ i := by first | exact Nat.zero_le _ | decide) : DS (lo := lo) K Γ (tAsg te (gName i)) (.nx (Γ.set i (some d))) := fun av σ H D s p => a av σ H s _ fun x H1 s1 hx => p _ H1 s1 (Low.set hi) ((s.sm s1).set hx)
theorem ds_asgG {vs : List Nat} (a : DE K Γ te d) (hg : DG K vs g d Γ Γ') (hv : ∀ v ∈ vs, lo ≤ v := by first | exact fun _ _ => Nat.zero_le _ | decide) : DS (lo := lo) K Γ (tAsg te g) (.nx Γ') := fun av σ H D s p => a av σ H s _ fun x H1 s1 hx => hg av σ H1 x _ (s.sm s1) hx fun σ' e o' => p σ' H1 s1 (Low.wipe hv e) o'
theorem ds_ret (a : DE K Γ te d) : DS (lo := lo) K Γ (tRet te) (.rt d) := fun av σ H D s p => a av σ H s _ fun x H1 s1 hx => p x H1 s1 hx
theorem ds_retN : DS (lo := lo) K Γ tRetN (.rt .none) := fun av σ H D s p => p .non H (Same.refl H) .non
theorem ds_next : DS (lo := lo) K Γ tNext (.nx Γ) := fun av σ H D s p => p σ H (Same.refl H) Low.refl s
theorem ds_break : DS (lo := lo) K Γ tBreak (.bk Γ) := fun av σ H D s p => p σ H (Same.refl H) Low.refl s
theorem ds_cont : DS (lo := lo) K Γ tCont (.ct Γ) := fun av σ H D s p => p σ H (Same.refl H) Low.refl s
theorem ds_weak (a : DS (lo := lo) K Γ ts (.nx Γ1)) (l : lessD Γ1 Γ2) : DS (lo := lo) K Γ ts (.nx Γ2) := fun av σ H D s p => a av σ H D s fun σ' H' s1 l1 o1 => p σ' H' s1 l1 (o1.weak l)
theorem ds_less (a : DS (lo := lo) K Δ ts o) (l : lessD Γ Δ) : DS (lo := lo) K Γ ts o := fun av σ H D s p => a av σ H D (s.weak l) p
/-- a loop: from turn to turn I, as long as ok; or it is left -/
theorem ds_for (vs : List Nat) (I : Nat → DX) (ok : Nat → Prop) (hi : DI K Γ wi ds) (h0 : lessD Γ (I 0)) (k0 : ok 0)
    (hs : ∀ i d, ds[i]? = some d → ok i → ∃ Γ', DG K vs g d (I i) Γ' ∧ ((ok (i + 1) ∧ (DS (lo := lo) K Γ' tb (.nx (I (i + 1))) ∨ DS (lo := lo) K Γ' tb (.ct (I (i + 1))))) ∨ (∃ r, o = .rt r ∧ DS (lo := lo) K Γ' tb (.rt r)) ∨ ∃ Γb, DS (lo := lo) K Γ' tb (.bk Γb) ∧ DS (lo := lo) K Γb u o))
    (he : ok ds.length → DS (lo := lo) K (I ds.length) u o) (hv : ∀ v ∈ vs, lo ≤ v := by first | exact fun _ _ => Nat.zero_le _ | decide) : DS (lo := lo) K Γ (tSeq (tFor wi g tb) u) o := fun av σ H D s p =>
  hi av σ H s _ fun J H1 s1 w => by
    refine ⟨fun i m σ' H' => i ≤ ds.length ∧ m + i = ds.length ∧ ok i ∧ Same H1 H' ∧ Low lo σ σ' ∧ SlD K av H' σ' (I i), ⟨ds.length, Nat.zero_le _, rfl, k0, Same.refl _, Low.refl, (s.sm s1).weak h0⟩, fun i m σ' H' hw => ?_⟩
    obtain ⟨hi, hm, hk, s2, l2, o2⟩ := hw
    obtain ⟨w1, w2⟩ := w av i H' (fun b m => .inl m) o2.on s2
    by_cases hlt : i < ds.length
    · obtain ⟨go, hy⟩ := w2 ds[i] (List.getElem?_eq_getElem hlt)
      refine .inr ⟨go, fun σ2 H2 => ok (i + 1) ∧ Same H1 H2 ∧ Low lo σ σ2 ∧ SlD K av H2 σ2 (I (i + 1)), fun σ2 H2 h2 => ⟨m - 1, by omega, by omega, by omega, h2⟩, fun x H2 hx => ?_⟩
      obtain ⟨s3, hxd⟩ := hy x H2 hx
      have s12 := s2.trans s3
      obtain ⟨Γ', hg, hd⟩ := hs i _ (List.getElem?_eq_getElem hlt) hk
      refine hg av _ H2 x _ (o2.sm s3) hxd fun σ3 e3 o3 => ?_
      have l3 := l2.trans (Low.wipe hv e3)
      rcases hd with ⟨hk1, hd | hd⟩ | ⟨r, rfl, hd⟩ | ⟨Γb, hd, hu⟩
      · exact hd av σ3 H2 _ o3 fun σ4 H4 s4 l4 o4 => ⟨hk1, s12.trans s4, l3.trans l4, o4⟩
      · exact hd av σ3 H2 _ o3 fun σ4 H4 s4 l4 o4 => ⟨hk1, s12.trans s4, l3.trans l4, o4⟩
      · exact hd av σ3 H2 _ o3 fun y H4 s4 h4 => p y H4 ((s1.trans s12).trans s4) h4
      · exact hd av σ3 H2 _ o3 fun σ4 H4 s4 l4 o4 => hu av σ4 H4 D o4 (p.sm ((s1.trans s12).trans s4) (l3.trans l4))
    · have ei : i = ds.length := by omega
      subst ei
      exact .inl ⟨w1 (Nat.le_refl _), he hk av σ' H' D o2 (p.sm (s1.trans s2) l2)⟩
end
/-! ### a def's body -/
theorem start_sl {K : PySem.W.Frag} {av : List Addr} {H : Hp} {N : List Str} {vs : List V} {ds : List PyData} (on : ∀ a ∈ av, H a ≠ none) (h : DaAll K av H vs ds) : SlD K av H (L2.start N vs) (ds.map some ++ List.replicate (N.length - ds.length) none) := by
  refine ⟨on, by rw [L2.start, List.length_append, List.length_append, List.length_map, List.length_map, List.length_replicate, List.length_replicate, h.len]; exact Nat.le_refl _, fun i d hd => ?_⟩
  by_cases c : i < ds.length
  · rw [List.getElem?_append_left (by rw [List.length_map]; exact c), List.getElem?_map] at hd
    obtain ⟨e, h1, h2⟩ := Option.map_eq_some_iff.mp hd
    cases h2
    obtain ⟨x, hx, hxd⟩ := h.at h1
    refine ⟨x, ?_, hxd⟩
    rw [L2.start, List.getElem?_append_left (by rw [List.length_map, h.len]; exact c), List.getElem?_map, hx]
    rfl
  · rw [List.getElem?_append_right (by rw [List.length_map]; omega), List.getElem?_replicate] at hd
    split at hd <;> cases hd
theorem d_body {K : PySem.W.Frag} {R : List PyData → PyData → Prop} {N : List Str} {vs : List V} {H : Hp} {Q : VK} {E : XK} {ts : TS} (h : sp_d K R vs H Q E) (hb : ∀ ds r, R ds r → DS (lo := 0) K (ds.map some ++ List.replicate (N.length - ds.length) none) ts (.rt r)) : ts { nx := fun _ H' => Q .non H', rt := Q } (L2.start N vs) H := by
  obtain ⟨av, ds, r, on, hx, hR, q⟩ := h
  exact hb ds r hR av _ H _ (start_sl on hx) q
theorem d_len {K : PySem.W.Frag} {R : List PyData → PyData → Prop} {vs : List V} {H : Hp} {Q : VK} {E : XK} {n : Nat} (h : sp_d K R vs H Q E) (l : ∀ ds r, R ds r → ds.length = n) : vs.length = n := by
  obtain ⟨av, ds, r, on, hx, hR, q⟩ := h
  rw [hx.len]
  exact l ds r hR
end Kin
/-! the program's table of rows; more of exact data -/
namespace Kin
open PySem PySem.Spec PyProof.Rows L2 RZ
section
variable {K : PySem.W.Frag} {Γ : DX} {te ta tb tc : TE} {tA : TA} {tt tu : TT} {d e : PyData} {ds : List PyData}
theorem de_andF (ha : DE K Γ ta (.bool false)) : DE K Γ (tAndV ta tb) (.bool false) := DE.of (de_and (b := true) ha fun h => nomatch h) rfl
theorem de_orT (ha : DE K Γ ta (.bool true)) : DE K Γ (tOrV ta tb) (.bool true) := DE.of (de_or (b := true) ha fun h => nomatch h) rfl
theorem dt_andF (ha : DT K Γ tt false) : DT K Γ (tAnd tt tu) false := DT.of (dt_and (b := true) ha fun h => nomatch h) rfl
theorem dt_orT (ha : DT K Γ tt true) : DT K Γ (tOr tt tu) true := DT.of (dt_or (b := true) ha fun h => nomatch h) rfl
theorem de_ifT (ht : DT K Γ tt true) (ha : DE K Γ ta d) : DE K Γ (tIf tt ta tb) d := DE.of (de_if (e := .none) ht (fun _ => ha) fun h => nomatch h) rfl
theorem de_ifF (ht : DT K Γ tt false) (hb : DE K Γ tb d) : DE K Γ (tIf tt ta tb) d := DE.of (de_if (d := .none) ht (fun h => nomatch h) fun _ => hb) rfl
theorem ds_ifT {lo : Nat} {tu tw : TS} {o : Out} (ht : DT K Γ tt true) (h : DS (lo := lo) K Γ tu o) : DS (lo := lo) K Γ (tIfS tt tu tw) o := ds_if ht (fun _ => h) fun h => nomatch h
theorem ds_ifF {lo : Nat} {tu tw : TS} {o : Out} (ht : DT K Γ tt false) (h : DS (lo := lo) K Γ tw o) : DS (lo := lo) K Γ (tIfS tt tu tw) o := ds_if ht (fun h => nomatch h) fun _ => h
theorem ds_ifRT {lo : Nat} {tu u : TS} {r : PyData} (ht : DT K Γ tt true) (h : DS (lo := lo) K Γ tu (.rt r)) : DS (lo := lo) K Γ (tSeq (tIfS tt tu tNext) u) (.rt r) := ds_ifR ht (fun _ => h) fun h => nomatch h
theorem ds_ifRF {lo : Nat} {tu u : TS} {r : PyData} (ht : DT K Γ tt false) (h : DS (lo := lo) K Γ u (.rt r)) : DS (lo := lo) K Γ (tSeq (tIfS tt tu tNext) u) (.rt r) := ds_ifR ht (fun h => nomatch h) fun _ => h
end
section
variable {K : PySem.W.Frag} {Γ : DX} {tt tu : TT}
theorem dt_nF (h : DT K Γ tt false) : DT K Γ (tNot tt) true := dt_not h
theorem dt_nT (h : DT K Γ tt true) : DT K Γ (tNot tt) false := dt_not h
theorem dt_orF {b : Bool} (ha : DT K Γ tt false) (hb : DT K Γ tu b) : DT K Γ (tOr tt tu) b := DT.of (dt_or ha fun _ => hb) rfl
theorem dt_andT {b : Bool} (ha : DT K Γ tt true) (hb : DT K Γ tu b) : DT K Γ (tAnd tt tu) b := DT.of (dt_and ha fun _ => hb) rfl
end
theorem pi_tupK {X : Cx} {tg l : Expr} {tl : TE} (K : PySem.W.Frag) (hl : PE X l tl) (h : X.K = K := by rfl) : PI X tg l (iTup K tl) := by subst h; exact pi_tup hl
theorem pi_zipAK {X : Cx} {e e2 : Expr} {ta : TA} {p pos tpos : Pos} {elts : List Expr} {kk : Nat} (K : PySem.W.Frag) (hg : Gl X "zip") (hm : X.mg "zip" = none) (ha : PA X [e, e2] ta) (h : X.K = K := by rfl)
    (hs : starEach [e, e2] X.env = (false, eval e X.env) :: starEach [e2] X.env := by rfl) (hpl : (backTo pos (starEach [e2] X.env)).any (·.1) = false := by rfl) :
    PI X (.Tuple elts kk tpos) (.Call (.Name "zip" p) [e, e2] [] pos) (iZipA K ta) := by subst h; exact pi_zipA hg hm ha hs hpl
theorem op_inDK {X : Cx} (K : PySem.W.Frag) (hu : X.A.units + 65 < cLine) (h : X.K = K := by rfl) : OpR X (compareOp .In) (rInD K) := by subst h; exact op_inD hu
/-! ### the table -/
def formTab : List (Str × Str × Int × Int) := [("push", "plain", 0, 1), ("kind", "name", 0, 1), ("deed", "name", 0, 1), ("get", "name", 0, 1), ("let", "name", 1, 0), ("read", "name", 1, 1), ("write", "name", 2, 0), ("drop", "name", 1, 0), ("above", "name", 1, 1), ("call", "upper", 1, 1), ("add", "nothing", 2, 1), ("less", "nothing", 2, 1), ("same", "nothing", 2, 1), ("size", "nothing", 1, 1), ("elders", "upper", 1, 0), ("jump", "row", 0, 0), ("unless", "row", 1, 0), ("calm", "nothing", 0, 0), ("give", "nothing", 1, 0)]
def findS {α : Type} (z : Str) : List (Str × α) → Option α
  | [] => none
  | (k, a) :: r => if k = z then some a else findS z r
def formOf (z : Str) : Option (Str × Int × Int) := findS z formTab
/-- the table stands at dd -/
structure FormsAt (K : PySem.W.Frag) (w : World) (dd : Addr) : Prop where
  kd : ∃ es n, KDict K w dd es n
  no : ∀ z, formOf z = none → PySem.W.nsIn K dd z = some none
  yes : ∀ z q, formOf z = some q → ∃ a, PySem.W.nsIn K dd z = some (some (.ref a)) ∧ ∀ H, SqT K H a [.str q.1, .int q.2.1, .int q.2.2]
def rInKD (K : PySem.W.Frag) (dd : Addr) : R2 := fun x y H Q => ∃ (z : Str) (r : Option Value), x = .str z ∧ y = .ref dd ∧ PySem.W.nsIn K dd z = some r ∧ Q (.bl (!r.isSome)) H
theorem op_notInF {X : Cx} (K : PySem.W.Frag) (w : World) {dd : Addr} (F : FormsAt K w dd) (h : X.K = K := by rfl) (hw : X.w = w := by rfl) : OpR X (compareOp .NotIn) (rInKD K dd) := by
  subst h hw
  obtain ⟨es, n, D⟩ := F.kd
  exact op_notIn_kd D
theorem ix_kdictK {X : Cx} (K : PySem.W.Frag) (w : World) (h : X.K = K := by rfl) (hw : X.w = w := by rfl) : IxR X (rIxD K w) := by
  subst h hw
  exact ix_kdict
section
variable {K : PySem.W.Frag} {w : World} {Γ : DX} {te : TE} {z : Str} {dd : Addr} {q : Str × Int × Int}
theorem de_notInF (F : FormsAt K w dd) (ha : DE K Γ te (.str z)) : DE K Γ (tOp (rInKD K dd) te (tC (.ref dd))) (.bool (!(formOf z).isSome)) := fun av σ H o Q p => ha av σ H o _ fun x H1 s1 hx => by
  cases hx
  cases e : formOf z with
  | none =>
    rw [e] at p
    exact ⟨z, none, rfl, rfl, F.no z e, p _ H1 s1 (.bl _)⟩
  | some q =>
    rw [e] at p
    obtain ⟨a, h1, _⟩ := F.yes z q e
    exact ⟨z, _, rfl, rfl, h1, p _ H1 s1 (.bl _)⟩
theorem forms_at (F : FormsAt K w dd) (e : formOf z = some q) : ∃ a, KDct K w dd z (.ref a) ∧ ∀ H, SqT K H a [.str q.1, .int q.2.1, .int q.2.2] := by
  obtain ⟨es, n, D⟩ := F.kd
  obtain ⟨a, h1, h2⟩ := F.yes z q e
  exact ⟨a, ⟨es, n, .ref a, D.at_, D.lit, h1, rfl⟩, h2⟩
theorem de_form (F : FormsAt K w dd) (e : formOf z = some q) (ha : DE K Γ te (.str z)) {i : Int} {d : PyData} (hi : atI ([.str q.1, .int q.2.1, .int q.2.2] : List PyData) i = some d) : DE K Γ (tOp (rIxT K) (tOp (rIxD K w) (tC (.ref dd)) te) (tC (.int i))) d := fun av σ H o Q p => ha av σ H o _ fun x H1 s1 hx => by
  cases hx
  obtain ⟨a, h1, h2⟩ := forms_at F e
  refine ⟨dd, z, _, rfl, rfl, h1, ?_⟩
  have all : DaAll K av H1 [.str q.1, .int q.2.1, .int q.2.2] [.str q.1, .int q.2.1, .int q.2.2] := .cons (.str _) (.cons (.int _) (.cons (.int _) .nil))
  obtain ⟨j, e1, e2⟩ := atI_len all.len hi
  obtain ⟨v, hv, hd⟩ := all.at e1
  exact ⟨_, _, _, v, rfl, rfl, h2 H1, e2 v hv, p v H1 s1 hd⟩
theorem ds_form (F : FormsAt K w dd) (e : formOf z = some q) (ha : DE K Γ te (.str z)) {g : TGs} (is : List Nat) (hg : g = gNames is := by rfl) (hl : is.length = 3 := by rfl) : DS (lo := 0) K Γ (tAsg (tOp (rIxD K w) (tC (.ref dd)) te) (gTup K 3 g)) (.nx (setD Γ is [.str q.1, .int q.2.1, .int q.2.2])) := fun av σ H D o p => ha av σ H o _ fun x H1 s1 hx => by
  cases hx
  obtain ⟨a, h1, h2⟩ := forms_at F e
  refine ⟨dd, z, _, rfl, rfl, h1, _, _, rfl, h2 H1, rfl, ?_⟩
  rw [hg]
  exact gnamesD (vs := is) (o.sm s1) (.cons (.str _) (.cons (.int _) (.cons (.int _) .nil))) hl (fun i m => m) fun σ' e' o' => p σ' H1 s1 (Low.wipe (fun _ _ => Nat.zero_le _) e') o'
end
/-! ### numbers of what is not so -/
def firstNot (f : Nat → PyData → Bool) : Nat → List PyData → Option Nat
  | _, [] => none
  | i, d :: r => if f i d = true then firstNot f (i + 1) r else some i
end Kin
/-! data that keep away from all that was there -/
namespace Kin
open PySem PySem.Spec PyProof.Rows L2
/-- x holds d, none of it stood in H -/
def Fr (K : PySem.W.Frag) (H H' : Hp) (x : V) (d : PyData) : Prop := ∀ rs : List Addr, (∀ b ∈ rs, H b ≠ none) → Da K rs H' x d
section
variable {K : PySem.W.Frag} {H H1 H2 H3 : Hp} {x : V} {d : PyData}
theorem same_on {b : Addr} (s : Same H H1) (h : H b ≠ none) : H1 b ≠ none := by
  cases e : H b with
  | none => exact absurd e h
  | some o =>
    rw [s _ _ e]
    exact fun z => by cases z
theorem Fr.same (h : Fr K H H1 x d) (s : Same H1 H2) : Fr K H H2 x d := fun rs hr => (h rs hr).mono fun b o _ e => s b o e
theorem Fr.from (h : Fr K H1 H2 x d) (s : Same H H1) : Fr K H H2 x d := fun rs hr => h rs fun b hb => same_on s (hr b hb)
theorem Fr.da (h : Fr K H H1 x d) : Da K [] H1 x d := h [] fun _ z => nomatch z
theorem fr_leaf (h : Da K [] H x d) (l : ∀ ds, d ≠ .list ds) (t : ∀ ds, d ≠ .tuple ds) : Fr K H H1 x d := fun rs _ => by
  cases h with
  | non => exact .non
  | bl b => exact .bl b
  | int i => exact .int i
  | str z => exact .str z
  | lst n e q => exact absurd rfl (l _)
  | tup n e q => exact absurd rfl (t _)
/-- the walk of a copy: what the list at D holds so far -/
def Cpy (K : PySem.W.Frag) (H : Hp) (D : Addr) (ds : List PyData) (i : Nat) (H' : Hp) : Prop := ∃ ys, Same H H' ∧ H' D = some (.lst ys) ∧ ∀ rs : List Addr, (∀ b ∈ rs, H b ≠ none) → DaAll K (D :: rs) H' ys (ds.take i)
theorem cpy0 {D : Addr} {ds : List PyData} (n : H D = none) : Cpy K H D ds 0 (upd H D (.lst [])) := ⟨[], same_new n, upd_same, fun rs _ => by rw [List.take_zero]; exact .nil⟩
theorem Cpy.step {D : Addr} {ds : List PyData} {i : Nat} {ys : List V} {y : V} (n : H D = none) (s : Same H H1) (hD : H1 D = some (.lst ys)) (hy : ∀ rs : List Addr, (∀ b ∈ rs, H b ≠ none) → DaAll K (D :: rs) H1 ys (ds.take i)) (e : ds[i]? = some d) (s2 : Same H1 H2) (f : Fr K H1 H2 y d) :
    Cpy K H D ds (i + 1) (upd H2 D (.lst (ys ++ [y]))) := by
  refine ⟨ys ++ [y], same_mut (s.trans s2) n, upd_same, fun rs hr => ?_⟩
  have up : ∀ b o, b ∉ D :: rs → H2 b = some o → upd H2 D (.lst (ys ++ [y])) b = some o := fun b o hb q => by
    rw [upd_ne fun z => hb (by rw [z]; exact List.mem_cons_self)]
    exact q
  rw [List.take_add_one, e]
  refine DaAll.app ((hy rs hr).mono fun b o hb q => up b o hb (s2 _ _ q)) (.cons ((f (D :: rs) fun b hb => ?_).mono up) .nil)
  rcases List.mem_cons.mp hb with rfl | hb
  · rw [hD]
    exact fun z => by cases z
  · exact same_on s (hr b hb)
theorem Cpy.list {D : Addr} {ds : List PyData} (n : H D = none) (h : Cpy K H D ds ds.length H1) : ∃ ys, Same H H1 ∧ H1 D = some (.lst ys) ∧ Fr K H H1 (.ref D) (.list ds) := by
  obtain ⟨ys, s, hD, hy⟩ := h
  refine ⟨ys, s, hD, fun rs hr => .lst (fun z => hr _ z n) hD ?_⟩
  have q := hy rs hr
  rw [List.take_length] at q
  exact q.less fun b hb => List.mem_cons_of_mem _ hb
theorem Cpy.tup {D T : Addr} {ds : List PyData} (n : H D = none) (h : Cpy K H D ds ds.length H1) (nT : H1 T = none) : ∃ ys, H1 D = some (.lst ys) ∧ (Same H (upd H1 T (.tup ys)) ∧ Fr K H (upd H1 T (.tup ys)) (.ref T) (.tuple ds)) := by
  obtain ⟨ys, s, hD, hy⟩ := h
  refine ⟨ys, hD, s.trans (same_new nT), fun rs hr => .tup (fun z => same_on s (hr _ z) nT) upd_same ?_⟩
  have q := hy rs hr
  rw [List.take_length] at q
  exact (q.less fun b hb => List.mem_cons_of_mem _ hb).mono fun b o _ e => same_new nT _ _ e
end
end Kin
/-! own exceptions by their names -/
namespace Kin
open PySem PySem.Spec PyProof.Rows L2
/-- an own class without an __init__ of its own -/
structure ExS (K : PySem.W.Frag) (mg : Str → Option Value) (x : Str) (C : Addr) : Prop where
  g : mg x = some (.ref C)
  q : PySem.W.excIn K C [.type "ValueError", .type "Exception", .type "BaseException", .type "object"] "ValueError.__new__" = true
  k : PySem.W.keepIn K (.ref C) = true
/-- one with an __init__ that keeps sp -/
structure ExI (P : Program) (w : World) (K : PySem.W.Frag) (mg : Str → Option Value) (base : Heap) (k : Nat) (x : Str) (C : Addr) (sp : Sp) : Prop where
  T : OexC K C
  g : mg x = some (.ref C)
  ex : ∃ (fI : Addr) (fd : FuncData) (ps : List Str), PySem.W.findIn K (.ref C) "__init__" = some (some (.ref fI)) ∧ PySem.W.typeIn K (.ref fI) = some (.type "function") ∧ FnOk P w K mg base CX0 k fI fd ps sp ∧ Binds K fd ps []
def tExS (C : Addr) (ta : TA) : TE := fun σ H Q => ta σ H fun _ H1 => ∀ a, H1 a = none → Q (.ref a) (upd H1 a (ExO (.ref C) a))
section
variable {X : Cx} {x : Str} {C : Addr} {k j : Nat} {sp : Sp} {e : Expr} {es : List Expr} {te : TE} {ta : TA} {p pos : Pos}
theorem pe_exs (T : ExS X.K X.mg x C) (hg : Gl X x) (he : PE X e te) (hs : starEach [e] X.env = (false, eval e X.env) :: starEach [] X.env := by rfl) (hdb : (x == ("__debug__" : Str)) = false := by decide) :
    PE X (.Call (.Name x p) [e] [] pos) (fun σ H Q => te σ H fun _ H1 => ∀ a, H1 a = none → Q (.ref a) (upd H1 a (ExO (.ref C) a))) := pe_exc1 PySem.F.excBase_ValueError T.q T.g T.k hg he hs hdb
theorem pe_exi (T : ExI X.prog X.w X.K X.mg X.base k x C sp) (hr : Room j X.A) (hk : k + 1 ≤ j) (hg : Gl X x) (ha : PA X (e :: es) ta)
    (hdb : (x == ("__debug__" : Str)) = false := by decide) (he : starEach (e :: es) X.env = (false, eval e X.env) :: starEach es X.env := by rfl) (hpl : (backTo pos (starEach es X.env)).any (·.1) = false := by rfl) :
    PE X (.Call (.Name x p) (e :: es) [] pos) (tMkV C sp ta) := by
  obtain ⟨fI, fd, ps, iC, tI, F, b⟩ := T.ex
  exact pe_oex T.T iC tI F hr hk b pass0 hg T.g ha hdb he hpl
theorem pe_exfK {e : Expr} {te : TE} {pos : Pos} {n : Str} (K : PySem.W.Frag) (he : PE X e te) (hb : attributeBase e n X.env (eval e X.env) = eval e X.env := by rfl) (h : X.K = K := by rfl) : PE X (.Attribute e n pos) (tExf K n te) := by
  subst h
  exact pe_exf he hb
theorem call_isVK (K : PySem.W.Frag) (h : X.K = K := by rfl) : CallR X (.builtin "isinstance") (rIsV K) := by
  subst h
  exact call_isV
end
theorem lk_here {k : Str} {v : V} {r : List (Str × V)} : List.lookup k ((k, v) :: r) = some v := by
  have e : (k == k) = true := beq_self_eq_true k
  simp only [List.lookup, e]
theorem lk_past {k g : Str} {v : V} {r : List (Str × V)} (h : (k == g) = false) : List.lookup k ((g, v) :: r) = List.lookup k r := by
  simp only [List.lookup, h]
/-- what __init__ has made: the exception at a, its fields; all else stands -/
def IniP (C a : Addr) (H H' : Hp) (fs : List (Str × V)) : Prop := ∃ dx, H' a = some (exo a C (some dx)) ∧ H' dx = some (exd dx fs) ∧ H dx = none ∧ ∀ b o, b ≠ a → H b = some o → H' b = some o
section
variable {K : PySem.W.Frag} {H H1 H2 H3 : Hp} {x : V} {d : PyData} {C a dx : Addr} {f : Str} {y : V} {fs : List (Str × V)}
theorem Fr.keep {ex : List Addr} (h : Fr K H1 H2 x d) (n : ∀ b ∈ ex, H1 b ≠ none) (s : ∀ b, H b ≠ none → H1 b ≠ none) (k : ∀ b o, b ∉ ex → H2 b = some o → H3 b = some o) : Fr K H H3 x d := fun rs hr => by
  refine ((h (ex ++ rs) fun b hb => ?_).mono fun b o hb q => k b o (fun z => hb (List.mem_append_left _ z)) q).less fun b hb => List.mem_append_right _ hb
  rcases List.mem_append.mp hb with z | z
  · exact n b z
  · exact s b (hr b z)
/-- the first field -/
theorem ini1 (e : H1 a = some (exo a C none)) (s : ∀ b o, b ≠ a → H b = some o → H1 b = some o) (n : H1 dx = none) (ne : dx ≠ a) : IniP C a H (upd (upd H1 dx (exd dx [(f, y)])) a (exo a C (some dx))) [(f, y)] := by
  refine ⟨dx, upd_same, by rw [upd_ne ne]; exact upd_same, ?_, fun b o hb q => ?_⟩
  · cases q : H dx with
    | none => rfl
    | some o =>
      rw [s dx o ne q] at n
      cases n
  · rw [upd_ne hb, upd_ne (ne_of_none (s b o hb q) n)]
    exact s b o hb q
end
end Kin
namespace Kin
open PySem PySem.Spec PyProof.Rows L2 RZ
section
variable {P : Program} {w : World} {K : PySem.W.Frag} {mg : Str → Option Value} {base : Heap}
/-! _copied -/
abbrev s_copied : Stmt := topS 1
theorem sc_copied : FnScope ["thing", "part"] ["thing"] (defScope s_copied) := ⟨rfl, rfl, rfl, by decide +kernel, rfl, by decide +kernel, by decide +kernel⟩
def sp_copied (K : PySem.W.Frag) (n : Nat) : Sp := fun vs H Q _ => ∃ (x : V) (d : PyData), vs = [x] ∧ Da K [] H x d ∧ d.depth < n ∧ wide d ≤ 1000 ∧ ∀ y H', Same H H' → Fr K H H' y d → Q y H'
theorem ok_copied_step {n : Nat} (F : Def K mg "_copied" ["thing"] s_copied) (m_isinstance : mg "isinstance" = none) (m_list : mg "list" = none) (m_tuple : mg "tuple" = none) (c_copied : Cl P w K mg base n "_copied" (sp_copied K n)) : Cl P w K mg base (n + 1) "_copied" (sp_copied K (n + 1)) := by
  refine F.cl sc_copied (fun vs H Q E h => ?_) (fun f cdv A outer s H vs Q E hr h => ?_)
  · obtain ⟨x, d, rfl, _⟩ := h
    rfl
  obtain ⟨x, d, rfl, hx, hdep, hwd, q⟩ := h
  have nd := sc_copied.nd
  refine ⟨_, (pss_cons (ps_if (pt_val (pe_callB (call_isiK' K) (by rfl) m_isinstance (by decide +kernel) (pa_cons (pv 0) (pa_cons (pe_bltn (v := .ty "list") (u := .type "list") (by rfl) m_list (by decide +kernel) rfl) pa_nil)))) (pss_one (ps_ret (pe_lc (own := [("part", 1)]) (g := gName 1) (tt := tYes) (by rfl) nd (pi_listK K (pv 0)) (blkOk_by (own := [("part", 1)]) (N := ["thing", "part"]) (sc := defScope s_copied) (by decide +kernel)) (fun _ _ _ _ _ => (pg_name (i := 1) nd rfl (Or.inl rfl))) (fun _ _ _ _ _ => pts_nil) (fun _ _ _ _ _ => (pe_cl c_copied hr (Nat.le_refl n) (by rfl) (pa_cons (pv 1) pa_nil)))))) pss_nil)
    (pss_cons (ps_if (pt_val (pe_callB (call_isiK' K) (by rfl) m_isinstance (by decide +kernel) (pa_cons (pv 0) (pa_cons (pe_bltn (v := .ty "tuple") (u := .type "tuple") (by rfl) m_tuple (by decide +kernel) rfl) pa_nil)))) (pss_one (ps_ret (pe_callTy call_tuple_of (by rfl) m_tuple (by decide +kernel) (pa_cons (pe_lc (own := [("part", 1)]) (g := gName 1) (tt := tYes) (by rfl) nd (pi_tupK K (pv 0)) (blkOk_by (own := [("part", 1)]) (N := ["thing", "part"]) (sc := defScope s_copied) (by decide +kernel)) (fun _ _ _ _ _ => (pg_name (i := 1) nd rfl (Or.inl rfl))) (fun _ _ _ _ _ => pts_nil) (fun _ _ _ _ _ => (pe_cl c_copied hr (Nat.le_refl n) (by rfl) (pa_cons (pv 1) pa_nil)))) pa_nil)))) pss_nil)
    (pss_one (ps_ret (pv 0))))), ?_⟩
  have leaf : ∀ (t : Value) (l : ∀ ds, d ≠ .list ds) (tp : ∀ ds, d ≠ .tuple ds), Q x H := fun _ l tp => q x H (Same.refl H) (fr_leaf hx l tp)
  cases d with
  | none =>
    cases hx
    refine ⟨_, rfl, _, _, _, _, false, rfl, .ty _, (.base .non), kit_ty (by decide +kernel), ⟨_, rfl, ?_⟩⟩
    refine no (by decide) ?_
    refine ⟨_, rfl, _, _, _, _, false, rfl, .ty _, (.base .non), kit_ty (by decide +kernel), ⟨_, rfl, ?_⟩⟩
    refine no (by decide) ?_
    exact ⟨_, rfl, leaf .none (fun _ z => by cases z) (fun _ z => by cases z)⟩
  | bool b =>
    cases hx
    refine ⟨_, rfl, _, _, _, _, false, rfl, .ty _, (.base (.bl b)), kit_ty (by decide +kernel), ⟨_, rfl, ?_⟩⟩
    refine no (by decide) ?_
    refine ⟨_, rfl, _, _, _, _, false, rfl, .ty _, (.base (.bl b)), kit_ty (by decide +kernel), ⟨_, rfl, ?_⟩⟩
    refine no (by decide) ?_
    exact ⟨_, rfl, leaf .none (fun _ z => by cases z) (fun _ z => by cases z)⟩
  | int i =>
    cases hx
    refine ⟨_, rfl, _, _, _, _, false, rfl, .ty _, (.base (.int i)), kit_ty (by decide +kernel), ⟨_, rfl, ?_⟩⟩
    refine no (by decide) ?_
    refine ⟨_, rfl, _, _, _, _, false, rfl, .ty _, (.base (.int i)), kit_ty (by decide +kernel), ⟨_, rfl, ?_⟩⟩
    refine no (by decide) ?_
    exact ⟨_, rfl, leaf .none (fun _ z => by cases z) (fun _ z => by cases z)⟩
  | str z =>
    cases hx
    refine ⟨_, rfl, _, _, _, _, false, rfl, .ty _, (.base (.str z)), kit_ty (by decide +kernel), ⟨_, rfl, ?_⟩⟩
    refine no (by decide) ?_
    refine ⟨_, rfl, _, _, _, _, false, rfl, .ty _, (.base (.str z)), kit_ty (by decide +kernel), ⟨_, rfl, ?_⟩⟩
    refine no (by decide) ?_
    exact ⟨_, rfl, leaf .none (fun _ z => by cases z) (fun _ z => by cases z)⟩
  | list ds =>
    cases hx with
    | @lst a xs _ _ ha hxs =>
    refine ⟨_, rfl, _, _, _, _, true, rfl, .ty _, (sq_ty (SqL.of ha)), kit_ty (by decide +kernel), ⟨_, rfl, ?_⟩⟩
    refine yes rfl ?_
    have hw2 : max ds.length (wideAll ds) ≤ 1000 := hwd
    have el := DaAll.len hxs
    refine ⟨_, rfl, a, rfl, ⟨_, SqL.of ha⟩, fun D nD => lc_list (xs := xs) (fun i H' => Cpy K H D ds i H') (cpy0 nD) ?_ ?_ ?_⟩
    · rintro i H' _ ⟨ys, sm, _⟩
      exact SqL.of (sm _ _ ha)
    · rintro i u H' hu ⟨ys, sm, hD, hy⟩
      obtain ⟨d1, e1, k1⟩ := hxs.get hu
      refine ⟨rfl, ?_⟩
      refine ⟨_, rfl, u, d1, rfl, k1.mono fun b o _ e => sm b o e, ?_, Nat.le_trans (wide_get e1) (by omega), fun y H2 s2 fr => ?_⟩
      · have := depth_get e1
        have e0 : (PyData.list ds).depth = PyData.depthAll ds + 1 := rfl
        omega
      · have hlen := DaAll.len (hy [] fun _ z => nomatch z)
        refine ⟨_, s2 _ _ hD, ?_, Cpy.step nD sm hD hy e1 s2 fr⟩
        rw [hlen, List.length_take]
        exact small1000 (by omega)
    · intro H' hc
      rw [el] at hc
      obtain ⟨ys, sm, hD, fr⟩ := hc.list nD
      exact q _ _ sm fr
  | tuple ds =>
    cases hx with
    | @tup a xs _ _ ha hxs =>
    refine ⟨_, rfl, _, _, _, _, false, rfl, .ty _, (st_ty (SqT.of ha)), kit_ty (by decide +kernel), ⟨_, rfl, ?_⟩⟩
    refine no (by decide) ?_
    refine ⟨_, rfl, _, _, _, _, true, rfl, .ty _, (st_ty (SqT.of ha)), kit_ty (by decide +kernel), ⟨_, rfl, ?_⟩⟩
    refine yes rfl ?_
    have hw2 : max ds.length (wideAll ds) ≤ 1000 := hwd
    have el := DaAll.len hxs
    refine ⟨_, rfl, a, rfl, ⟨_, SqT.of ha⟩, fun D nD => lc_tup (xs := xs) (fun i H' => Cpy K H D ds i H') (cpy0 nD) ?_ ?_ ?_⟩
    · rintro i H' _ ⟨ys, sm, _⟩
      exact SqT.of (sm _ _ ha)
    · rintro i u H' hu ⟨ys, sm, hD, hy⟩
      obtain ⟨d1, e1, k1⟩ := hxs.get hu
      refine ⟨rfl, ?_⟩
      refine ⟨_, rfl, u, d1, rfl, k1.mono fun b o _ e => sm b o e, ?_, Nat.le_trans (wide_get e1) (by omega), fun y H2 s2 fr => ?_⟩
      · have := depth_get e1
        have e0 : (PyData.tuple ds).depth = PyData.depthAll ds + 1 := rfl
        omega
      · have hlen := DaAll.len (hy [] fun _ z => nomatch z)
        refine ⟨_, s2 _ _ hD, ?_, Cpy.step nD sm hD hy e1 s2 fr⟩
        rw [hlen, List.length_take]
        exact small1000 (by omega)
    · intro H' hc
      rw [el] at hc
      obtain ⟨ys, sm, hD, _⟩ := hc.list nD
      refine ⟨D, ys, rfl, .inl ⟨SqL.of hD, fun T nT => ?_⟩⟩
      obtain ⟨ys', hD', s2, fr⟩ := hc.tup nD nT
      have e2 : ys' = ys := HO.lst.inj (Option.some.inj (hD'.symm.trans hD))
      subst e2
      exact q _ _ s2 fr
  | dict ds => cases hx
theorem ok_copied (F : Def K mg "_copied" ["thing"] s_copied) (m_isinstance : mg "isinstance" = none) (m_list : mg "list" = none) (m_tuple : mg "tuple" = none) : ∀ n : Nat, Cl P w K mg base n "_copied" (sp_copied K n)
  | 0 => by
    obtain ⟨f, fd, F1, hm, b⟩ := F.ex
    have no : ∀ vs H Q E, ¬ sp_copied K 0 vs H Q E := fun vs H Q E h => by
      obtain ⟨x, d, _, _, h, _⟩ := h
      omega
    exact ⟨f, fd, _, ⟨fun vs H Q E h => absurd h (no vs H Q E), fun A outer s H args us vs Q E _ _ _ _ h => absurd h (no vs H Q E)⟩, hm, F1.kp, b⟩
  | n + 1 => ok_copied_step F m_isinstance m_list m_tuple (ok_copied F m_isinstance m_list m_tuple n)
end
end Kin
namespace Kin
open PySem PySem.Spec PyProof.Rows L2 RZ NdefX
section
variable {P : Program} {w : World} {K : PySem.W.Frag} {mg : Str → Option Value} {base : Heap}
abbrev s_iSource : Stmt := inClass (topS 5) 0
abbrev s_iChange : Stmt := inClass (topS 6) 0
abbrev s_iLine : Stmt := inClass (topS 3) 0
abbrev s_iCode : Stmt := inClass (topS 4) 0
theorem sc_iSource : NScope ["self", "place", "__class__"] ["self", "place"] ["__class__"] (defScope s_iSource) := nscope_by (by decide +kernel)
theorem sc_iChange : NScope ["self", "number", "__class__"] ["self", "number"] ["__class__"] (defScope s_iChange) := nscope_by (by decide +kernel)
theorem sc_iLine : NScope ["self", "name", "rows", "ring", "__class__"] ["self", "name", "rows", "ring"] ["__class__"] (defScope s_iLine) := nscope_by (by decide +kernel)
theorem sc_iCode : NScope ["self", "told", "__class__"] ["self", "told"] ["__class__"] (defScope s_iCode) := nscope_by (by decide +kernel)
theorem dig_len {n : Int} (h : n.natAbs < 2 ^ 32) : (toString n : Str).length ≤ 1000 ∧ n.natAbs.log2 < 1920 := by
  have h2 : n.natAbs.log2 < 1920 := by
    by_cases h0 : n.natAbs = 0
    · rw [h0]; decide
    · rw [Nat.log2_lt h0]
      exact Nat.lt_trans h (by decide)
  refine ⟨?_, h2⟩
  have e := int_text_length_le10 (k := 10) (by decide) (Nat.lt_of_lt_of_le h (by decide))
  show (Str.ofString (toString n)).length ≤ 1000
  rw [PySem.ofString_length]
  omega
theorem fit2 {x y : Str} (hx : x.length ≤ 100) (hy : y.length ≤ 1000) : (Str.empty ++ x ++ y).length ≤ sizeLine := by
  rw [Str.length_append, Str.length_append]
  refine Nat.le_of_lt (Nat.lt_of_le_of_lt (show _ ≤ 2000 from ?_) (by decide))
  have e : Str.empty.length = 0 := rfl
  omega
theorem fit3 {x y z : Str} (hx : x.length ≤ 100) (hy : y.length ≤ 1000) (hz : z.length ≤ 100) : (Str.empty ++ x ++ y ++ z).length ≤ sizeLine := by
  rw [Str.length_append, Str.length_append, Str.length_append]
  refine Nat.le_of_lt (Nat.lt_of_le_of_lt (show _ ≤ 2000 from ?_) (by decide))
  have e : Str.empty.length = 0 := rfl
  omega
def sp_iInt (C : Addr) (fld : Str) : Sp := fun vs H Q _ => ∃ (a : Addr) (n : Int), vs = [.ref a, .int n] ∧ n.natAbs < 2 ^ 32 ∧ H a = some (exo a C none) ∧ ∀ H', IniP C a H H' [(fld, .int n)] → Q .non H'
theorem ok_iSource {f C : Addr} {fd : FuncData} (F : FunS P K "__init__" "NoSource.__init__" s_iSource f fd C) (T : SupC K C) (nf : PySem.W.findIn K (.ref C) "place" = some none) (ms : mg "super" = none) (htop : (P.main.scope.names.lookup ("super" : Str)).isSome = false) : FnOk P w K mg base CX0 1 f fd ["self", "place"] (sp_iInt C "place") := by
  refine F.ok T sc_iSource rfl ms htop rfl rfl rfl (fun vs H Q E h => ?_) (fun cc cda A outer s H vs Q E hr h => ?_) (fun _ => rfl) (fun _ => rfl) (fun _ => ⟨_, rfl⟩) (fun _ => rfl)
  · obtain ⟨a, n, rfl, _⟩ := h
    rfl
  obtain ⟨a, n, rfl, hn, hH, q⟩ := h
  refine ⟨_, _, a, pa_cons (pe_joined (.cons pe_str (.cons (pe_fmt (pv 1)) (.cons pe_str .nil)))) pa_nil, pss_one (ps_ost (pv 0) (pv 1)), rfl, hH, ?_⟩
  obtain ⟨hl, hg⟩ := dig_len hn
  refine ⟨_, rfl, by decide +kernel, ⟨_, rfl, .inr ⟨n, rfl, hg, ⟨_, rfl, ?_, ⟨_, rfl, ?_, ⟨by show 1 ≤ 1000; decide, hH, ?_⟩⟩⟩⟩⟩⟩
  · exact fit2 (by decide +kernel) hl
  · exact fit3 (by decide +kernel) hl (by decide +kernel)
  refine ⟨_, rfl, _, rfl, a, C, rfl, T.oex, nf, .inl ⟨hH, fun dx n0 ne => ?_⟩⟩
  exact q _ (ini1 hH (fun _ _ _ e => e) n0 ne)
theorem ok_iChange {f C : Addr} {fd : FuncData} (F : FunS P K "__init__" "NoChange.__init__" s_iChange f fd C) (T : SupC K C) (nf : PySem.W.findIn K (.ref C) "number" = some none) (ms : mg "super" = none) (htop : (P.main.scope.names.lookup ("super" : Str)).isSome = false) : FnOk P w K mg base CX0 1 f fd ["self", "number"] (sp_iInt C "number") := by
  refine F.ok T sc_iChange rfl ms htop rfl rfl rfl (fun vs H Q E h => ?_) (fun cc cda A outer s H vs Q E hr h => ?_) (fun _ => rfl) (fun _ => rfl) (fun _ => ⟨_, rfl⟩) (fun _ => rfl)
  · obtain ⟨a, n, rfl, _⟩ := h
    rfl
  obtain ⟨a, n, rfl, hn, hH, q⟩ := h
  refine ⟨_, _, a, pa_cons (pe_joined (.cons pe_str (.cons (pe_fmt (pv 1)) (.cons pe_str .nil)))) pa_nil, pss_one (ps_ost (pv 0) (pv 1)), rfl, hH, ?_⟩
  obtain ⟨hl, hg⟩ := dig_len hn
  refine ⟨_, rfl, by decide +kernel, ⟨_, rfl, .inr ⟨n, rfl, hg, ⟨_, rfl, ?_, ⟨_, rfl, ?_, ⟨by show 1 ≤ 1000; decide, hH, ?_⟩⟩⟩⟩⟩⟩
  · exact fit2 (by decide +kernel) hl
  · exact fit3 (by decide +kernel) hl (by decide +kernel)
  refine ⟨_, rfl, _, rfl, a, C, rfl, T.oex, nf, .inl ⟨hH, fun dx n0 ne => ?_⟩⟩
  exact q _ (ini1 hH (fun _ _ _ e => e) n0 ne)
/-- NoCode(told) -/
def sp_iCode (K : PySem.W.Frag) (C : Addr) : Sp := fun vs H Q _ => ∃ (a : Addr) (x : V) (d : PyData), vs = [.ref a, x] ∧ Da K [a] H x d ∧ d.depth < 4 ∧ wide d ≤ 1000 ∧ H a = some (exo a C none) ∧ ∀ y H', IniP C a H H' [("told", y)] → Fr K H H' y d → Q .non H'
theorem ok_iCode {f C : Addr} {fd : FuncData} (F : FunS P K "__init__" "NoCode.__init__" s_iCode f fd C) (T : SupC K C) (nf : PySem.W.findIn K (.ref C) "told" = some none) (ms : mg "super" = none) (htop : (P.main.scope.names.lookup ("super" : Str)).isSome = false) (c_copied : Cl P w K mg base 4 "_copied" (sp_copied K 4)) : FnOk P w K mg base CX0 5 f fd ["self", "told"] (sp_iCode K C) := by
  refine F.ok T sc_iCode rfl ms htop rfl rfl rfl (fun vs H Q E h => ?_) (fun cc cda A outer s H vs Q E hr h => ?_) (fun _ => rfl) (fun _ => rfl) (fun _ => ⟨_, rfl⟩) (fun _ => rfl)
  · obtain ⟨a, x, d, rfl, _⟩ := h
    rfl
  obtain ⟨a, x, d, rfl, hx, hd, hw, hH, q⟩ := h
  refine ⟨_, _, a, pa_cons pe_str pa_nil, pss_one (ps_ost (pv 0) (pe_cl c_copied hr (by decide) (by rfl) (pa_cons (pv 1) pa_nil))), rfl, hH, ?_⟩
  refine ⟨by show 1 ≤ 1000; decide, hH, ?_⟩
  refine ⟨_, rfl, x, d, rfl, hx.less (bv := []) (fun _ z => by cases z), hd, hw, fun y H1 sm fr => ?_⟩
  refine ⟨_, rfl, a, C, rfl, T.oex, nf, .inl ⟨sm _ _ hH, fun dx n0 ne => ?_⟩⟩
  refine q _ _ (ini1 (sm _ _ hH) (fun b o _ e => sm b o e) n0 ne) (fr.keep (ex := [a]) (fun b hb => ?_) (fun b hb => hb) fun b o hb e => ?_)
  · rw [List.mem_singleton.mp hb, hH]
    exact fun z => by cases z
  · rw [upd_ne fun z => hb (by rw [z]; exact List.mem_singleton.mpr rfl), upd_ne (ne_of_none e n0)]
    exact e
/-- NoLine(name, rows, ring) -/
def sp_iLine (K : PySem.W.Frag) (C : Addr) : Sp := fun vs H Q _ => ∃ (a : Addr) (z : Str) (x1 x2 : V) (d1 d2 : PyData), vs = [.ref a, .str z, x1, x2] ∧ z.length ≤ 1000 ∧ Da K [a] H x1 d1 ∧ d1.depth < 4 ∧ wide d1 ≤ 1000 ∧ Da K [a] H x2 d2 ∧ d2.depth < 4 ∧ wide d2 ≤ 1000 ∧ H a = some (exo a C none) ∧
  ∀ y1 y2 H', IniP C a H H' [("ring", y2), ("rows", y1), ("name", .str z)] → Fr K H H' y1 d1 → Fr K H H' y2 d2 → Q .non H'
theorem ok_iLine {f C : Addr} {fd : FuncData} (F : FunS P K "__init__" "NoLine.__init__" s_iLine f fd C) (T : SupC K C) (nf1 : PySem.W.findIn K (.ref C) "name" = some none) (nf2 : PySem.W.findIn K (.ref C) "rows" = some none) (nf3 : PySem.W.findIn K (.ref C) "ring" = some none) (ms : mg "super" = none) (htop : (P.main.scope.names.lookup ("super" : Str)).isSome = false) (c_copied : Cl P w K mg base 4 "_copied" (sp_copied K 4)) : FnOk P w K mg base CX0 5 f fd ["self", "name", "rows", "ring"] (sp_iLine K C) := by
  refine F.ok T sc_iLine rfl ms htop rfl rfl rfl (fun vs H Q E h => ?_) (fun cc cda A outer s H vs Q E hr h => ?_) (fun _ => rfl) (fun _ => rfl) (fun _ => ⟨_, rfl⟩) (fun _ => rfl)
  · obtain ⟨a, z, x1, x2, d1, d2, rfl, _⟩ := h
    rfl
  obtain ⟨a, z, x1, x2, d1, d2, rfl, hz, hx1, hd1, hw1, hx2, hd2, hw2, hH, q⟩ := h
  refine ⟨_, _, a, pa_cons (pe_joined (.cons pe_str (.cons (pe_fmt (pv 1)) .nil))) pa_nil, pss_cons (ps_ost (pv 0) (pv 1)) (pss_cons (ps_ost (pv 0) (pe_cl c_copied hr (by decide) (by rfl) (pa_cons (pv 2) pa_nil))) (pss_one (ps_ost (pv 0) (pe_cl c_copied hr (by decide) (by rfl) (pa_cons (pv 3) pa_nil))))), rfl, hH, ?_⟩
  refine ⟨_, rfl, by decide +kernel, ⟨_, rfl, .inl ⟨z, rfl, Nat.le_of_lt (small1000 hz), ⟨_, rfl, fit2 (by decide +kernel) hz, ⟨by show 1 ≤ 1000; decide, hH, ?_⟩⟩⟩⟩⟩
  refine ⟨_, rfl, _, rfl, a, C, rfl, T.oex, nf1, .inl ⟨hH, fun dx n0 ne => ?_⟩⟩
  obtain ⟨H1, eH1⟩ : ∃ H1, H1 = upd (upd H dx (exd dx [("name", .str z)])) a (exo a C (some dx)) := ⟨_, rfl⟩
  have k1 : ∀ b o, b ≠ a → H b = some o → H1 b = some o := fun b o hb e => by
    rw [eH1, upd_ne hb, upd_ne (ne_of_none e n0)]
    exact e
  have a1 : H1 a = some (exo a C (some dx)) := by rw [eH1]; exact upd_same
  have c1 : H1 dx = some (exd dx [("name", .str z)]) := by rw [eH1, upd_ne ne]; exact upd_same
  rw [← eH1]
  have D1 : ∀ x d, Da K [a] H x d → Da K [a] H1 x d := fun x d h => h.mono fun b o hb e => k1 b o (fun z => hb (by rw [z]; exact List.mem_singleton.mpr rfl)) e
  refine ⟨_, rfl, x1, d1, rfl, (D1 _ _ hx1).less (bv := []) (fun _ z => by cases z), hd1, hw1, fun y1 H2 s2 f1 => ?_⟩
  refine ⟨_, rfl, a, C, rfl, T.oex, nf2, .inr ⟨dx, _, s2 _ _ a1, s2 _ _ c1, by show 1 ≤ 900; decide, ?_⟩⟩
  obtain ⟨H3, eH3⟩ : ∃ H3, H3 = upd H2 dx (exd dx [("rows", y1), ("name", .str z)]) := ⟨_, rfl⟩
  have k3 : ∀ b o, b ≠ dx → H2 b = some o → H3 b = some o := fun b o hb e => by
    rw [eH3, upd_ne hb]
    exact e
  have c3 : H3 dx = some (exd dx [("rows", y1), ("name", .str z)]) := by rw [eH3]; exact upd_same
  have a3 : H3 a = some (exo a C (some dx)) := k3 _ _ ne.symm (s2 _ _ a1)
  rw [← eH3]
  have hk : ∀ b o, b ≠ a → H b = some o → H3 b = some o := fun b o hb e => k3 b o (ne_of_none e n0) (s2 _ _ (k1 b o hb e))
  refine ⟨_, rfl, x2, d2, rfl, (hx2.mono (fun b o hb e => hk b o (fun z => hb (by rw [z]; exact List.mem_singleton.mpr rfl)) e)).less (bv := []) (fun _ z => by cases z), hd2, hw2, fun y2 H4 s4 f2 => ?_⟩
  refine ⟨_, rfl, a, C, rfl, T.oex, nf3, .inr ⟨dx, _, s4 _ _ a3, s4 _ _ c3, by show 2 ≤ 900; decide, ?_⟩⟩
  have on1 : ∀ b, H b ≠ none → H1 b ≠ none := fun b hb => by
    by_cases e : b = a
    · rw [e, a1]
      exact fun z => by cases z
    · cases q : H b with
      | none => exact absurd q hb
      | some o =>
        rw [k1 b o e q]
        exact fun z => by cases z
  have on3 : ∀ b, H b ≠ none → H3 b ≠ none := fun b hb => by
    by_cases e : b = a
    · rw [e, a3]
      exact fun z => by cases z
    · cases q : H b with
      | none => exact absurd q hb
      | some o =>
        rw [hk b o e q]
        exact fun z => by cases z
  have last : ∀ b o, b ∉ [dx] → H4 b = some o → upd H4 dx (exd dx [("ring", y2), ("rows", y1), ("name", .str z)]) b = some o := fun b o hb e => by
    rw [upd_ne fun z => hb (by rw [z]; exact List.mem_singleton.mpr rfl)]
    exact e
  refine q y1 y2 _ ⟨dx, ?_, upd_same, n0, fun b o hb e => last b o (fun z => ?_) (s4 _ _ (hk b o hb e))⟩ (f1.keep (ex := [dx]) (fun b hb => ?_) on1 fun b o hb e => ?_) (f2.keep (ex := [dx]) (fun b hb => ?_) on3 last)
  · rw [upd_ne ne.symm]
    exact s4 _ _ a3
  · rw [List.mem_singleton.mp z, n0] at e
    cases e
  · rw [List.mem_singleton.mp hb, c1]
    exact fun z => by cases z
  · exact last b o hb (s4 _ _ (k3 b o (fun z => hb (by rw [z]; exact List.mem_singleton.mpr rfl)) e))
  · rw [List.mem_singleton.mp hb, c3]
    exact fun z => by cases z
end
end Kin
namespace Kin
open PySem PySem.Spec PyProof.Rows L2 RZ NdefX
def errNames : List Str := ["NoLine", "NoCode", "NoSource", "NoChange", "NoName", "NoKind", "NoThing", "NoDeed", "NoWord", "NoWorth", "NoSteps", "Round", "Full", "TooBig", "NoPaper"]
/-- the fifteen refusals, each by its place, and the elder of them all -/
structure Errs (K : PySem.W.Frag) (mg : Str → Option Value) (c : Nat → Addr) (cK : Addr) : Prop where
  g : ∀ i, i < 15 → mg (errNames.getD i "") = some (.ref (c i))
  gK : mg "KinError" = some (.ref cK)
  ex : ∀ i, i < 15 → ExcC K (c i)
  kit : ∀ i j, i < 15 → j < 15 → PySem.W.kitOne K (.ref (c i)) (.ref (c j)) = some (decide (i = j))
  kin : ∀ i, i < 15 → PySem.W.kitOne K (.ref (c i)) (.ref cK) = some true
  kve : ∀ i, i < 15 → PySem.W.kitOne K (.ref (c i)) (.type "ValueError") = some true
section
variable {P : Program} {w : World} {K : PySem.W.Frag} {mg : Str → Option Value} {base : Heap} {c : Nat → Addr} {cK : Addr}
theorem Errs.isv (E : Errs K mg c cK) {a : Addr} {i : Nat} {fs : List (Str × V)} {H : Hp} {Q : VK} (hi : i < 15) (ea : ExAt H a (c i) fs) (j : Nat) (hj : j < 15) (q : Q (.bl (decide (i = j))) H) : rIsV K [.ref a, .ref (c j)] H Q :=
  ⟨a, c i, fs, .ref (c j), .ref (c j), decide (i = j), rfl, ea, E.ex i hi, fun u r => r, E.kit i j hi hj, q⟩
theorem Errs.isk (E : Errs K mg c cK) {a : Addr} {i : Nat} {fs : List (Str × V)} {H : Hp} {Q : VK} (hi : i < 15) (ea : ExAt H a (c i) fs) (q : Q (.bl true) H) : rIsV K [.ref a, .ref cK] H Q :=
  ⟨a, c i, fs, .ref cK, .ref cK, true, rfl, ea, E.ex i hi, fun u r => r, E.kin i hi, q⟩
theorem Errs.isve (E : Errs K mg c cK) {a : Addr} {i : Nat} {fs : List (Str × V)} {H : Hp} {Q : VK} (hi : i < 15) (ea : ExAt H a (c i) fs) (q : Q (.bl true) H) : rIsV K [.ref a, .ty "ValueError"] H Q :=
  ⟨a, c i, fs, .ty "ValueError", .type "ValueError", true, rfl, ea, E.ex i hi, fun u r => r, E.kve i hi, q⟩
/-- some of the questions -/
def isT (K : PySem.W.Frag) (c : Nat → Addr) : List Nat → TA
  | [] => tNil
  | j :: r => tCons (tCB (rIsV K) (tCons (tVar 0) (tCons (tC (.ref (c j))) tNil))) (isT K c r)
def isB (i : Nat) (js : List Nat) : List V := js.map fun j => .bl (decide (i = j))
section
variable {a : Addr} {i : Nat} {fs : List (Str × V)} {H : Hp} {Q : VK} {σ : L2.St} {D : Ends} {u : TS}
theorem Errs.ask (E : Errs K mg c cK) (hi : i < 15) (ea : ExAt H a (c i) fs) (h0 : σ[0]? = some (some (.ref a))) : ∀ (js : List Nat) (hj : ∀ j ∈ js, j < 15) {Q : List V → Hp → Prop} (q : Q (isB i js) H), isT K c js σ H Q
  | [], _, _, q => q
  | j :: r, hj, Q, q => by
    refine ⟨_, h0, ?_⟩
    show rIsV K [.ref a, .ref (c j)] H (fun x H1 => isT K c r σ H1 fun xs H2 => Q (x :: xs) H2)
    exact E.isv hi ea j (hj j List.mem_cons_self) (Errs.ask E hi ea h0 r (fun k hk => hj k (List.mem_cons_of_mem _ hk)) q)
theorem Errs.askL (E : Errs K mg c cK) (hi : i < 15) (ea : ExAt H a (c i) fs) (h0 : σ[0]? = some (some (.ref a))) (js : List Nat) (hj : ∀ j ∈ js, j < 15) (hl : js.length ≤ 1000) (q : ∀ p, H p = none → Q (.ref p) (upd H p (.lst (isB i js)))) : tLst (isT K c js) σ H Q :=
  E.ask hi ea h0 js hj ⟨by unfold isB; rw [List.length_map]; exact Nat.le_of_lt (small1000 hl), q⟩
theorem ex_new {l : Addr} {o : HO} (ea : ExAt H a (c i) fs) (n : H l = none) : ExAt (upd H l o) a (c i) fs := ea.same (same_new n)
theorem Errs.first (E : Errs K mg c cK) (hi : i < 15) (ea : ExAt H a (c i) fs) (h0 : σ[0]? = some (some (.ref a))) (js : List Nat) (hj : ∀ j ∈ js, j < 15) (hl : js.length ≤ 1000)
    (k : ∀ l H', Same H H' → H l = none → H' l = some (.lst (isB i js)) → u D (σ.set 1 (some (.ref l))) H') : tSeq (tAsg (tLst (isT K c js)) (gName 1)) u D σ H :=
  E.askL hi ea h0 js hj hl (Q := fun x H1 => u D (σ.set 1 (some x)) H1) fun p n => k p _ (same_new n) n upd_same
theorem Errs.cat (E : Errs K mg c cK) {l : Addr} {ks : List Nat} (hi : i < 15) (ea : ExAt H a (c i) fs) (h0 : σ[0]? = some (some (.ref a))) (h1 : σ[1]? = some (some (.ref l))) (hL : H l = some (.lst (isB i ks))) (js : List Nat) (hj : ∀ j ∈ js, j < 15) (hl : ks.length + js.length ≤ 1000)
    (q : ∀ p H', Same H H' → H p = none → H' p = some (.lst (isB i (ks ++ js))) → Q (.ref p) H') : tOp rCat (tVar 1) (tLst (isT K c js)) σ H Q := by
  refine ⟨_, h1, ?_⟩
  show tLst (isT K c js) σ H (fun y H1 => rCat (.ref l) y H1 Q)
  refine E.askL hi ea h0 js hj (by omega) fun p n => ?_
  have hlp : l ≠ p := ne_of_none hL n
  refine ⟨l, p, _, _, rfl, rfl, by rw [upd_ne hlp]; exact hL, upd_same, ?_, fun z nz => ?_⟩
  · unfold isB
    rw [List.length_map, List.length_map]
    exact Nat.le_of_lt (small1000 (by omega))
  · refine q z _ ((same_new n).trans (same_new nz)) ((same_new n).free nz) ?_
    rw [upd_same]
    unfold isB
    rw [List.map_append]
end
/-! _law_kinds_of -/
abbrev s_law_kinds_of : Stmt := topS 27
theorem sc_law_kinds_of : FnScope ["caught", "found"] ["caught"] (defScope s_law_kinds_of) := ⟨rfl, rfl, rfl, by decide +kernel, rfl, by decide +kernel, by decide +kernel⟩
def kndL (i : Nat) : List Bool := (List.range 15).map fun j => decide (i = j)
def sp_kinds (K : PySem.W.Frag) (c : Nat → Addr) : Sp := fun vs H Q _ => ∃ (a : Addr) (i : Nat) (fs : List (Str × V)), vs = [.ref a] ∧ i < 15 ∧ ExAt H a (c i) fs ∧ ∀ l H', Same H H' → H l = none → H' l = some (.lst ((kndL i).map V.bl)) → Q (.ref l) H'
theorem ok_kinds (F : Def K mg "_law_kinds_of" ["caught"] s_law_kinds_of) (M : MB mg) (E : Errs K mg c cK) : Cl P w K mg base 1 "_law_kinds_of" (sp_kinds K c) := by
  refine F.cl sc_law_kinds_of (fun vs H Q E h => ?_) (fun f cdv A outer s H vs Q E' hr h => ?_)
  · obtain ⟨a, i, fs, rfl, _⟩ := h
    rfl
  obtain ⟨a, i, fs, rfl, hi, ea, q⟩ := h
  have nd := sc_law_kinds_of.nd
  have m_isinstance := M.m_isinstance
  have g_NoLine : mg "NoLine" = some (.ref (c 0)) := E.g 0 (by decide)
  have g_NoCode : mg "NoCode" = some (.ref (c 1)) := E.g 1 (by decide)
  have g_NoSource : mg "NoSource" = some (.ref (c 2)) := E.g 2 (by decide)
  have g_NoChange : mg "NoChange" = some (.ref (c 3)) := E.g 3 (by decide)
  have g_NoName : mg "NoName" = some (.ref (c 4)) := E.g 4 (by decide)
  have g_NoKind : mg "NoKind" = some (.ref (c 5)) := E.g 5 (by decide)
  have g_NoThing : mg "NoThing" = some (.ref (c 6)) := E.g 6 (by decide)
  have g_NoDeed : mg "NoDeed" = some (.ref (c 7)) := E.g 7 (by decide)
  have g_NoWord : mg "NoWord" = some (.ref (c 8)) := E.g 8 (by decide)
  have g_NoWorth : mg "NoWorth" = some (.ref (c 9)) := E.g 9 (by decide)
  have g_NoSteps : mg "NoSteps" = some (.ref (c 10)) := E.g 10 (by decide)
  have g_Round : mg "Round" = some (.ref (c 11)) := E.g 11 (by decide)
  have g_Full : mg "Full" = some (.ref (c 12)) := E.g 12 (by decide)
  have g_TooBig : mg "TooBig" = some (.ref (c 13)) := E.g 13 (by decide)
  have g_NoPaper : mg "NoPaper" = some (.ref (c 14)) := E.g 14 (by decide)
  refine ⟨_, (pss_cons (ps_set (i := 1) nd rfl (Or.inl rfl) (pe_lst (pa_cons (pe_callB (call_isVK K) (by rfl) m_isinstance (by decide +kernel) (pa_cons (pv 0) (pa_cons (pe_glob (v := .ref _) (by rfl) g_NoLine rfl) pa_nil))) (pa_cons (pe_callB (call_isVK K) (by rfl) m_isinstance (by decide +kernel) (pa_cons (pv 0) (pa_cons (pe_glob (v := .ref _) (by rfl) g_NoCode rfl) pa_nil))) (pa_cons (pe_callB (call_isVK K) (by rfl) m_isinstance (by decide +kernel) (pa_cons (pv 0) (pa_cons (pe_glob (v := .ref _) (by rfl) g_NoSource rfl) pa_nil))) pa_nil)))))
    (pss_cons (ps_set (i := 1) nd rfl (Or.inl rfl) (pe_op op_cat (pv 1) (pe_lst (pa_cons (pe_callB (call_isVK K) (by rfl) m_isinstance (by decide +kernel) (pa_cons (pv 0) (pa_cons (pe_glob (v := .ref _) (by rfl) g_NoChange rfl) pa_nil))) (pa_cons (pe_callB (call_isVK K) (by rfl) m_isinstance (by decide +kernel) (pa_cons (pv 0) (pa_cons (pe_glob (v := .ref _) (by rfl) g_NoName rfl) pa_nil))) (pa_cons (pe_callB (call_isVK K) (by rfl) m_isinstance (by decide +kernel) (pa_cons (pv 0) (pa_cons (pe_glob (v := .ref _) (by rfl) g_NoKind rfl) pa_nil))) pa_nil))))))
    (pss_cons (ps_set (i := 1) nd rfl (Or.inl rfl) (pe_op op_cat (pv 1) (pe_lst (pa_cons (pe_callB (call_isVK K) (by rfl) m_isinstance (by decide +kernel) (pa_cons (pv 0) (pa_cons (pe_glob (v := .ref _) (by rfl) g_NoThing rfl) pa_nil))) (pa_cons (pe_callB (call_isVK K) (by rfl) m_isinstance (by decide +kernel) (pa_cons (pv 0) (pa_cons (pe_glob (v := .ref _) (by rfl) g_NoDeed rfl) pa_nil))) (pa_cons (pe_callB (call_isVK K) (by rfl) m_isinstance (by decide +kernel) (pa_cons (pv 0) (pa_cons (pe_glob (v := .ref _) (by rfl) g_NoWord rfl) pa_nil))) pa_nil))))))
    (pss_cons (ps_set (i := 1) nd rfl (Or.inl rfl) (pe_op op_cat (pv 1) (pe_lst (pa_cons (pe_callB (call_isVK K) (by rfl) m_isinstance (by decide +kernel) (pa_cons (pv 0) (pa_cons (pe_glob (v := .ref _) (by rfl) g_NoWorth rfl) pa_nil))) (pa_cons (pe_callB (call_isVK K) (by rfl) m_isinstance (by decide +kernel) (pa_cons (pv 0) (pa_cons (pe_glob (v := .ref _) (by rfl) g_NoSteps rfl) pa_nil))) (pa_cons (pe_callB (call_isVK K) (by rfl) m_isinstance (by decide +kernel) (pa_cons (pv 0) (pa_cons (pe_glob (v := .ref _) (by rfl) g_Round rfl) pa_nil))) pa_nil))))))
    (pss_one (ps_ret (pe_op op_cat (pv 1) (pe_lst (pa_cons (pe_callB (call_isVK K) (by rfl) m_isinstance (by decide +kernel) (pa_cons (pv 0) (pa_cons (pe_glob (v := .ref _) (by rfl) g_Full rfl) pa_nil))) (pa_cons (pe_callB (call_isVK K) (by rfl) m_isinstance (by decide +kernel) (pa_cons (pv 0) (pa_cons (pe_glob (v := .ref _) (by rfl) g_TooBig rfl) pa_nil))) (pa_cons (pe_callB (call_isVK K) (by rfl) m_isinstance (by decide +kernel) (pa_cons (pv 0) (pa_cons (pe_glob (v := .ref _) (by rfl) g_NoPaper rfl) pa_nil))) pa_nil))))))))))), ?_⟩
  refine Errs.first (σ := [some (.ref a), none]) E hi ea rfl [0, 1, 2] (by decide) (by decide) fun l1 H1 s1 n1 h1 => ?_
  refine Errs.cat (σ := [some (.ref a), some (.ref l1)]) E (ks := [0, 1, 2]) hi (ea.same s1) rfl rfl h1 [3, 4, 5] (by decide) (by decide) fun l2 H2 s2 n2 h2 => ?_
  have e2 := s1.trans s2
  refine Errs.cat (σ := [some (.ref a), some (.ref l2)]) E (ks := [0, 1, 2, 3, 4, 5]) hi (ea.same e2) rfl rfl h2 [6, 7, 8] (by decide) (by decide) fun l3 H3 s3 n3 h3 => ?_
  have e3 := e2.trans s3
  refine Errs.cat (σ := [some (.ref a), some (.ref l3)]) E (ks := [0, 1, 2, 3, 4, 5, 6, 7, 8]) hi (ea.same e3) rfl rfl h3 [9, 10, 11] (by decide) (by decide) fun l4 H4 s4 n4 h4 => ?_
  have e4 := e3.trans s4
  refine Errs.cat (σ := [some (.ref a), some (.ref l4)]) E (ks := [0, 1, 2, 3, 4, 5, 6, 7, 8, 9, 10, 11]) hi (ea.same e4) rfl rfl h4 [12, 13, 14] (by decide) (by decide) fun l5 H5 s5 n5 h5 => ?_
  exact q l5 H5 (e4.trans s5) (e4.free n5) (by rw [h5]; unfold isB kndL; rw [List.map_map]; rfl)
end
end Kin
/-! list.count of bools, xs[1::-1] of three -/
namespace Kin
open PySem PySem.Spec PyProof.Rows L2
section
variable {X : Cx}
/-- xs[1::-1], xs of three -/
def tRev1 (K : PySem.W.Frag) (te : TE) : TE := fun σ H Q => te σ H fun x H1 => ∃ a p q r, x = .ref a ∧ SqL K H1 a [p, q, r] ∧ ∀ z, H1 z = none → Q (.ref z) (upd H1 z (.lst [q, p]))
theorem pe_rev1 {e : Expr} {te : TE} {k k2 : Nat} {p0 p1 p2 p3 pos : Pos} (he : PE X e te) : PE X (.Subscript e (.Slice (some (.Constant (.int 1) k2 p0)) none (some (.UnaryOp .USub (.Constant (.int 1) k p1) p2)) p3) pos) (tRev1 X.K te) := by
  refine ⟨fun pins s σ H Q I h => ?_⟩
  refine Subscript_ (thn (he.run pins s σ H _ I h) fun v s1 ⟨x, H1, I1, r1, q1⟩ => ?_)
  obtain ⟨a, p, q, r, ex, hx, qq⟩ := q1
  subst ex
  cases r1
  have hlo : PO X (some (.Constant (.int 1) k2 p0)) (tPart (tC (.int 1))) := po_some pe_int
  have hst : PO X (some (.UnaryOp .USub (.Constant (.int 1) k p1) p2)) (tPart (tUn (rU fun i => .int (-i)) (tC (.int 1)))) := po_some (pe_un un_neg pe_int)
  refine wpAny_Slice (thn (hlo.run pins s1 σ H1 (fun o H2 => o = some 1 ∧ H2 = H1) I1 ⟨1, rfl, rfl, rfl⟩) fun vl s2 ⟨l, H2, I2, pl, el, e2⟩ => ?_)
  subst el e2
  refine thn (po_none.run pins s2 σ H2 (fun o H3 => o = none ∧ H3 = H2) I2 ⟨rfl, rfl⟩) fun vu s3 ⟨u, H3, I3, pu, eu, e3⟩ => ?_
  subst eu e3
  refine thn (hst.run pins s3 σ H3 (fun o H4 => o = some (-1) ∧ H4 = H3) I3 ⟨1, rfl, -1, rfl, rfl, rfl⟩) fun vs s4 ⟨o, H4, I4, ps, eo, e4⟩ => ?_
  subst eo e4
  have I5 : Inv X pins σ H4 { s4 with heap := s4.heap.push { cls := .type "slice", data := .fields #[vl, vu, vs] } } := I4.kept (t' := s4.toks) fun b ob q => Heap.get?_push_of_some _ q
  obtain ⟨its, rr, ht, hz⟩ := I5.list hx
  have hlen := rr.length
  obtain ⟨u0, u1, u2, rfl, r0, r1', r2⟩ : ∃ u0 u1 u2, its = [u0, u1, u2] ∧ RelV p u0 ∧ RelV q u1 ∧ RelV r u2 := by
    cases rr with
    | cons a1 b1 => cases b1 with
      | cons a2 b2 => cases b2 with
        | cons a3 b3 => cases b3; exact ⟨_, _, _, rfl, a1, a2, a3⟩
  show wpAny (model X.prog X.w) X.A (subscriptTail e (.Slice (some (.Constant (.int 1) k2 p0)) none (some (.UnaryOp .USub (.Constant (.int 1) k p1) p2)) p3) (.ref a) (.ref s4.heap.objs.size)) (EP X pins σ Q) X.xe { s4 with heap := s4.heap.push { cls := .type "slice", data := .fields #[vl, vu, vs] } }
  refine tail_any (ops := [.ref a, .ref s4.heap.objs.size]) ht.isList.typeIs (PySem.slot_list_getitem.lookup) ?_ (by with_unfolding_all rfl)
  refine wpAny_getItem_list_slice ht.isList (Heap.IsSliceOf.new _ vl vu vs) pl pu ps (by decide) ?_ (by rw [List.size_toArray]; omega)
  rw [show slicePick [u0, u1, u2].toArray (some 1) none (some (-1)) = [u1, u0].toArray from rfl]
  refine ⟨.ref _, _, I5.laid (t' := s4.toks) (o := .lst [q, p]) (fun b ob q => Heap.get?_push_of_some _ q) (Nat.le_refl _) ?_, rfl, qq _ (I5.hok.fresh (Nat.le_refl _))⟩
  exact ⟨by show 2 ≤ sizeLine; decide, _, 0, .cons r1' (.cons r0 .nil), Heap.get?_push_size _ rfl⟩
theorem pe_rev1K {e : Expr} {te : TE} {k k2 : Nat} {p0 p1 p2 p3 pos : Pos} (K : PySem.W.Frag) (he : PE X e te) (h : X.K = K := by rfl) : PE X (.Subscript e (.Slice (some (.Constant (.int 1) k2 p0)) none (some (.UnaryOp .USub (.Constant (.int 1) k p1) p2)) p3) pos) (tRev1 K te) := by
  subst h
  exact pe_rev1 he
def eqb (b : Bool) (v : Value) : Bool := match v with
  | .bool n => n == b
  | _ => false
theorem bools_of_vals : ∀ {bs : List Bool} {us : List Value}, Vals (bs.map V.bl) us → us = bs.map Value.bool
  | [], _, .nil => rfl
  | b :: bs, _, .cons r t => by
    have e : _ = Value.bool b := r
    rw [e, bools_of_vals t] <;> rfl
theorem eqb_count {b : Bool} : ∀ bs : List Bool, (bs.map Value.bool).countP (eqb b) = bs.count b
  | [] => rfl
  | a :: r => by
    rw [List.map_cons, List.countP_cons, List.count_cons, eqb_count r] <;> rfl
/-- list.count of a list of bools -/
def rCntB (K : PySem.W.Frag) : V → List V → Hp → VK → Prop := fun x xs H Q => ∃ (p : Addr) (bs : List Bool) (b : Bool), x = .ref p ∧ xs = [.bl b] ∧ SqL K H p (bs.map V.bl) ∧ Q (.int (bs.count b : Nat)) H
theorem mt_bcount (K : PySem.W.Frag) (hK : X.K = K := by rfl) : MtR X "list.count" (rCntB K) := by
  intro pins s σ H x xs v us Q I rx rxs h
  obtain ⟨p, bs, b, rfl, rfl, hs, q⟩ := h
  cases rx
  obtain ⟨u, rfl, ru⟩ := rxs.one
  obtain rfl : u = Value.bool b := ru
  obtain ⟨its, rv, ⟨⟨cls, dd, data, sl⟩, n, ho, hc, hdn, hd⟩, hlen⟩ := I.list (by rw [hK]; exact hs)
  simp only at hc hd
  subst hc hd
  have hi := bools_of_vals rv
  refine call_meets PySem.F.slot_list_count ⟨_, ho, rfl⟩ PySem.F.entry_list_count (PySem.F.args_list_count_2 _ _)
    (SeqAt.list_countAt p its.toArray n dd sl (.bool b) (eqb b)) ⟨ho, fun y hy => ?_, ?_⟩
  · have hy2 : y ∈ its := by simpa using hy
    rw [hi] at hy2
    obtain ⟨c, _, rfl⟩ := List.mem_map.mp hy2
    have z := eqAt_V (A := X.A.in1) (s := s) (y := .bl c) (x := .bl b) (u := .bool c) (v := .bool b) rfl rfl rfl rfl
    exact z
  have ec : its.toArray.toList.countP (eqb b) = bs.count b := by
    show its.countP (eqb b) = _
    rw [hi]
    exact eqb_count bs
  refine ⟨.int (bs.count b : Nat), H, I.tok _, ⟨s.toks, ?_⟩, q⟩
  show Value.int ((its.toArray.toList.countP (eqb b) : Nat) : Int) s.toks = Value.int ((bs.count b : Nat) : Int) s.toks
  rw [ec]
end
end Kin
namespace Kin
open PySem PySem.Spec PyProof.Rows L2 RZ
/-- what was told of a code, at t -/
def TdAt (H0 H : Hp) (t : Addr) : Prop := ∃ k : Int, 0 ≤ k ∧ k < 40 ∧ (H t = some (.tup [.str "bad", .int k]) ∨ ∃ l l1 l2, (H0 l = none ∧ H0 l1 = none) ∧ H t = some (.tup [.str "wrong", .ref l]) ∧ H l = some (.lst [.ref l1, .ref l2]) ∧ H l1 = some (.lst [.int 0, .int k]) ∧ H l2 = some (.lst [.int 0]))
theorem TdAt.keep {H0 H H' : Hp} {t p c : Addr} {ns : List Int} (h : TdAt H0 H t) (hp : Pot H p c ns) (k : ∀ b o, b ≠ p → H b = some o → H' b = some o) : TdAt H0 H' t := by
  obtain ⟨a, r, z, _⟩ := hp
  obtain ⟨n, n0, n1, h⟩ := h
  refine ⟨n, n0, n1, ?_⟩
  have ne : ∀ {b o}, H b = some o → o ≠ .lst [.ref c, .int a, .int r] → b ≠ p := fun {b o} hb ho e => by
    rw [e, z] at hb
    exact ho (Option.some.inj hb).symm
  rcases h with h | ⟨l, l1, l2, hn, h, h2, h3, h4⟩
  · exact .inl (k _ _ (ne h fun e => by cases e) h)
  · exact .inr ⟨l, l1, l2, hn, k _ _ (ne h fun e => by cases e) h, k _ _ (ne h2 fun e => by cases e) h2, k _ _ (ne h3 fun e => by cases e) h3, k _ _ (ne h4 fun e => by cases e) h4⟩
/-- the parts, at T, its lists new since H0 -/
def Prt (H0 H : Hp) (T : Addr) : Prop := ∃ (x y z : Str) (R t1 t2 td W w1 w2 w3 : Addr) (i j n : Int), (H0 R = none ∧ H0 w1 = none) ∧ H T = some (.tup [.str z, .ref R, .ref td, .int n, .ref W]) ∧ H R = some (.lst [.ref t1, .ref t2]) ∧ H t1 = some (.tup [.str x, .str y, .int i]) ∧ H t2 = some (.tup [.str y, .str x, .int j]) ∧ TdAt H0 H td ∧
  (0 ≤ n ∧ n < 1000000) ∧ H W = some (.lst [.ref w1, .ref w2, .ref w3]) ∧ H w1 = some (.lst [.str x, .str y]) ∧ H w2 = some (.lst [.str x]) ∧ H w3 = some (.lst [.str y, .str x]) ∧ z.length ≤ 1000
section
variable {P : Program} {w : World} {K : PySem.W.Frag} {mg : Str → Option Value} {base : Heap}
/-! _law_parts -/
abbrev s_law_parts : Stmt := topS 28
theorem sc_law_parts : FnScope ["pot", "names", "ring", "told"] ["pot"] (defScope s_law_parts) := ⟨rfl, rfl, rfl, by decide +kernel, rfl, by decide +kernel, by decide +kernel⟩
def sp_parts : Sp := fun vs H Q _ => ∃ (p c : Addr) (ns : List Int), vs = [.ref p] ∧ Pot H p c ns ∧ ∀ T H', Go p c ns H H' → Prt H H' T → Q (.ref T) H'
theorem ok_parts (F : Def K mg "_law_parts" ["pot"] s_law_parts) (c_law_pick : Cl P w K mg base 2 "_law_pick" sp_law_pick) (c_law_names : Cl P w K mg base 4 "_law_names" sp_law_names) : Cl P w K mg base 5 "_law_parts" sp_parts := by
  refine F.cl sc_law_parts (fun vs H Q E h => ?_) (fun f cdv A outer s H vs Q E' hr h => ?_)
  · obtain ⟨p, c, ns, rfl, _⟩ := h
    rfl
  obtain ⟨p, c, ns, rfl, hP, q⟩ := h
  have nd := sc_law_parts.nd
  refine ⟨_, (pss_cons (ps_set (i := 1) nd rfl (Or.inl rfl) (pe_cl c_law_names hr (by decide) (by rfl) (pa_cons (pv 0) (pa_cons pe_int pa_nil))))
    (pss_cons (ps_set (i := 2) nd rfl (Or.inl rfl) (pe_lst (pa_cons (pe_tup (pa_cons (pe_ix (ix_listK K) (pv 1) pe_int (fun _ _ => rfl)) (pa_cons (pe_ix (ix_listK K) (pv 1) pe_int (fun _ _ => rfl)) (pa_cons (pe_cl c_law_pick hr (by decide) (by rfl) (pa_cons (pv 0) (pa_cons pe_int pa_nil))) pa_nil)))) (pa_cons (pe_tup (pa_cons (pe_ix (ix_listK K) (pv 1) pe_int (fun _ _ => rfl)) (pa_cons (pe_ix (ix_listK K) (pv 1) pe_int (fun _ _ => rfl)) (pa_cons (pe_cl c_law_pick hr (by decide) (by rfl) (pa_cons (pv 0) (pa_cons pe_int pa_nil))) pa_nil)))) pa_nil))))
    (pss_cons (ps_set (i := 3) nd rfl (Or.inl rfl) (pe_ix (ix_listK K) (pe_lst (pa_cons (pe_tup (pa_cons pe_str (pa_cons (pe_cl c_law_pick hr (by decide) (by rfl) (pa_cons (pv 0) (pa_cons pe_int pa_nil))) pa_nil))) (pa_cons (pe_tup (pa_cons pe_str (pa_cons (pe_lst (pa_cons (pe_lst (pa_cons pe_int (pa_cons (pe_cl c_law_pick hr (by decide) (by rfl) (pa_cons (pv 0) (pa_cons pe_int pa_nil))) pa_nil))) (pa_cons (pe_lst (pa_cons pe_int pa_nil)) pa_nil))) pa_nil))) pa_nil))) (pe_cl c_law_pick hr (by decide) (by rfl) (pa_cons (pv 0) (pa_cons pe_int pa_nil))) (fun _ _ => rfl)))
    (pss_one (ps_ret (pe_tup (pa_cons (pe_ix (ix_listK K) (pv 1) pe_int (fun _ _ => rfl)) (pa_cons (pv 2) (pa_cons (pv 3) (pa_cons (pe_cl c_law_pick hr (by decide) (by rfl) (pa_cons (pv 0) (pa_cons (pe_op op_pow pe_int pe_int) pa_nil))) (pa_cons (pe_lst (pa_cons (pe_slice (sl_listK K) (pv 1) po_none (po_some pe_int)) (pa_cons (pe_slice (sl_listK K) (pv 1) po_none (po_some pe_int)) (pa_cons (pe_rev1K K (pv 1)) pa_nil)))) pa_nil))))))))))), ?_⟩
  refine ⟨_, rfl, p, c, ns, 3, rfl, hP, by decide, fun nl xs H1 G1 n0 hl hlen _ hnm => ?_⟩
  obtain ⟨x, y, z, rfl⟩ : ∃ x y z, xs = [x, y, z] := match xs, hlen with
    | [x, y, z], _ => ⟨x, y, z, rfl⟩
  have hz : z.length ≤ 1000 := by
    obtain ⟨cs, rfl, _, h8, _⟩ := hnm z (by simp)
    rw [mk_len]
    omega
  have np := hP.nep n0
  -- ring
  refine ⟨_, rfl, nl, _, _, _, rfl, rfl, SqL.of hl, at_of (j := 0) rfl rfl, _, rfl, nl, _, _, _, rfl, rfl, SqL.of hl, at_of (j := 1) rfl rfl, _, rfl, p, c, ns, _, rfl, G1.pot, mny (by decide) (by decide), fun i H2 i0 i1 G2 => ?_⟩
  have g2 := G1.trans G2
  have hl2 := G2.get np hl
  refine ⟨by show 3 ≤ sizeLine; decide, fun t1 nt1 => ?_⟩
  have g3 := g2.new (o := .tup [.str x, .str y, .int i]) nt1
  have hl3 := same_new (o := .tup [.str x, .str y, .int i]) nt1 _ _ hl2
  have pt1 := g2.pot.nep nt1
  refine ⟨_, rfl, nl, _, _, _, rfl, rfl, SqL.of hl3, at_of (j := 1) rfl rfl, _, rfl, nl, _, _, _, rfl, rfl, SqL.of hl3, at_of (j := 0) rfl rfl, _, rfl, p, c, ns, _, rfl, g3.pot, mny (by decide) (by decide), fun j H4 j0 j1 G4 => ?_⟩
  have g4 := g3.trans G4
  have hl4 := G4.get np hl3
  have ht1 := G4.get pt1 (upd_same (H := H2) (a := t1) (o := .tup [.str x, .str y, .int i]))
  refine ⟨by show 3 ≤ sizeLine; decide, fun t2 nt2 => ?_⟩
  have g5 := g4.new (o := .tup [.str y, .str x, .int j]) nt2
  have pt2 := g4.pot.nep nt2
  refine ⟨by show 2 ≤ sizeLine; decide, fun R nR => ?_⟩
  have pR := g5.pot.nep nR
  have g6 := g5.new (o := .lst [.ref t1, .ref t2]) nR
  obtain ⟨H6, e6⟩ : ∃ H6, H6 = upd (upd H4 t2 (.tup [.str y, .str x, .int j])) R (.lst [.ref t1, .ref t2]) := ⟨_, rfl⟩
  have k6 : Same H4 H6 := by rw [e6]; exact (same_new nt2).trans (same_new nR)
  have hR : H6 R = some (.lst [.ref t1, .ref t2]) := by rw [e6]; exact upd_same
  have ht2 : H6 t2 = some (.tup [.str y, .str x, .int j]) := by rw [e6]; exact same_new nR _ _ upd_same
  rw [← e6] at g6
  show tSeq _ _ _ _ (upd (upd H4 t2 (.tup [.str y, .str x, .int j])) R (.lst [.ref t1, .ref t2]))
  rw [← e6]
  -- told
  refine ⟨_, rfl, p, c, ns, _, rfl, g6.pot, mny (by decide) (by decide), fun k1 H7 k10 k11 G7 => ?_⟩
  have g7 := g6.trans G7
  refine ⟨by show 2 ≤ sizeLine; decide, fun tb ntb => ?_⟩
  have ptb := g7.pot.nep ntb
  have g8 := g7.new (o := .tup [.str "bad", .int k1]) ntb
  refine ⟨_, rfl, p, c, ns, _, rfl, g8.pot, mny (by decide) (by decide), fun k2 H9 k20 k21 G9 => ?_⟩
  have g9 := g8.trans G9
  have htb := G9.get ptb (upd_same (H := H7) (a := tb) (o := .tup [.str "bad", .int k1]))
  refine ⟨by show 2 ≤ sizeLine; decide, fun l1 nl1 => ?_⟩
  have pl1 := g9.pot.nep nl1
  have g10 := g9.new (o := .lst [.int 0, .int k2]) nl1
  refine ⟨by show 1 ≤ sizeLine; decide, fun l2 nl2 => ?_⟩
  have pl2 := g10.pot.nep nl2
  have g11 := g10.new (o := .lst [.int 0]) nl2
  refine ⟨by show 2 ≤ sizeLine; decide, fun l nl' => ?_⟩
  have pl := g11.pot.nep nl'
  have g12 := g11.new (o := .lst [.ref l1, .ref l2]) nl'
  refine ⟨by show 2 ≤ sizeLine; decide, fun tw ntw => ?_⟩
  have ptw := g12.pot.nep ntw
  have g13 := g12.new (o := .tup [.str "wrong", .ref l]) ntw
  refine ⟨by show 2 ≤ sizeLine; decide, fun L nL => ?_⟩
  have pL := g13.pot.nep nL
  have g14 := g13.new (o := .lst [.ref tb, .ref tw]) nL
  obtain ⟨HA, eA⟩ : ∃ HA, HA = upd (upd (upd (upd (upd H9 l1 (.lst [.int 0, .int k2])) l2 (.lst [.int 0])) l (.lst [.ref l1, .ref l2])) tw (.tup [.str "wrong", .ref l])) L (.lst [.ref tb, .ref tw]) := ⟨_, rfl⟩
  have s9 : Same H9 HA := by rw [eA]; exact (((((same_new nl1).trans (same_new nl2)).trans (same_new nl')).trans (same_new ntw)).trans (same_new nL))
  have hl1 : HA l1 = some (.lst [.int 0, .int k2]) := by rw [eA]; exact ((((same_new nl2).trans (same_new nl')).trans (same_new ntw)).trans (same_new nL)) _ _ upd_same
  have hl2' : HA l2 = some (.lst [.int 0]) := by rw [eA]; exact (((same_new nl').trans (same_new ntw)).trans (same_new nL)) _ _ upd_same
  have hll : HA l = some (.lst [.ref l1, .ref l2]) := by rw [eA]; exact ((same_new ntw).trans (same_new nL)) _ _ upd_same
  have htw : HA tw = some (.tup [.str "wrong", .ref l]) := by rw [eA]; exact same_new nL _ _ upd_same
  have hL : HA L = some (.lst [.ref tb, .ref tw]) := by rw [eA]; exact upd_same
  have htbA := s9 _ _ htb
  rw [← eA] at g14
  rw [← eA]
  refine ⟨_, rfl, p, c, ns, _, rfl, g14.pot, mny (by decide) (by decide), fun r HB r0 r1 GB => ?_⟩
  have gB := g14.trans GB
  obtain ⟨td, etd, htd⟩ : ∃ td, atI [V.ref tb, V.ref tw] r = some (.ref td) ∧ TdAt H HB td := by
    have hr2 : r = 0 ∨ r = 1 := by omega
    rcases hr2 with rfl | rfl
    · exact ⟨tb, rfl, k1, k10, k11, .inl (GB.get ptb htbA)⟩
    · exact ⟨tw, rfl, k2, k20, k21, .inr ⟨l, l1, l2, ⟨g11.free nl', g9.free nl1⟩, GB.get ptw htw, GB.get pl hll, GB.get pl1 hl1, GB.get pl2 hl2'⟩⟩
  refine ⟨L, _, _, _, rfl, rfl, SqL.of (GB.get pL hL), etd, ?_⟩
  -- from H6 on
  have kB : ∀ b o, b ≠ p → H6 b = some o → HB b = some o := fun b o nb e => GB.get nb (s9 _ _ (G9.get nb (same_new ntb _ _ (G7.get nb e))))
  have hlB := kB _ _ np (k6 _ _ hl4)
  refine ⟨_, rfl, nl, _, _, _, rfl, rfl, SqL.of hlB, at_of (j := 2) rfl rfl, _, rfl, _, rfl, _, rfl, _, _, rfl, rfl, ⟨by decide, by decide, by decide⟩, p, c, ns, _, rfl, gB.pot, ⟨by decide, by decide⟩, fun n HC n0' n1 GC => ?_⟩
  have gC := gB.trans GC
  have hlC := GC.get np hlB
  refine ⟨_, rfl, 2, rfl, nl, _, rfl, SqL.of hlC, fun w1 nw1 => ?_⟩
  rw [show cutV (List.map V.str [x, y, z]) none (some 2) = [.str x, .str y] from cut_to _ 2]
  have gD := gC.new (o := .lst [.str x, .str y]) nw1
  have hlD := same_new (o := .lst [.str x, .str y]) nw1 _ _ hlC
  refine ⟨_, rfl, 1, rfl, nl, _, rfl, SqL.of hlD, fun w2 nw2 => ?_⟩
  rw [show cutV (List.map V.str [x, y, z]) none (some 1) = [.str x] from cut_to _ 1]
  have gE := gD.new (o := .lst [.str x]) nw2
  have hlE := same_new (o := .lst [.str x]) nw2 _ _ hlD
  refine ⟨_, rfl, nl, _, _, _, rfl, SqL.of hlE, fun w3 nw3 => ?_⟩
  have gF := gE.new (o := .lst [.str y, .str x]) nw3
  refine ⟨by show 3 ≤ sizeLine; decide, fun W nW => ?_⟩
  have gG := gF.new (o := .lst [.ref w1, .ref w2, .ref w3]) nW
  refine ⟨by show 5 ≤ sizeLine; decide, fun T nT => ?_⟩
  have gH := gG.new (o := .tup [.str z, .ref R, .ref td, .int n, .ref W]) nT
  refine q T _ gH ?_
  have sw1 := (((same_new (o := .lst [.str x]) nw2).trans (same_new (o := .lst [.str y, .str x]) nw3)).trans (same_new (o := .lst [.ref w1, .ref w2, .ref w3]) nW)).trans (same_new (o := .tup [.str z, .ref R, .ref td, .int n, .ref W]) nT)
  have sC := (same_new (o := .lst [.str x, .str y]) nw1).trans sw1
  have kF : ∀ b o, b ≠ p → H6 b = some o → _ := fun b o nb e => sC _ _ (GC.get nb (kB b o nb e))
  refine ⟨x, y, z, R, t1, t2, td, W, w1, w2, w3, i, j, n, ⟨g5.free nR, gC.free nw1⟩, upd_same, kF _ _ pR hR, kF _ _ pt1 (k6 _ _ ht1), kF _ _ pt2 ht2, ?_, ⟨n0', n1⟩, same_new nT _ _ upd_same, sw1 _ _ upd_same, (((same_new nw3).trans (same_new nW)).trans (same_new nT)) _ _ upd_same, ((same_new nW).trans (same_new nT)) _ _ upd_same, hz⟩
  exact htd.keep gB.pot fun b o nb e => sC _ _ (GC.get nb e)
end
end Kin
/-! defs that are only called where no repr is under way -/
namespace Kin
open PySem PySem.Spec PyProof.Rows L2 RZ
section
variable {P : Program} {w : World} {K : PySem.W.Frag} {mg : Str → Option Value} {base : Heap}
/-- a def's promise, kept where no repr is under way -/
structure FnG (P : Program) (w : World) (K : PySem.W.Frag) (mg : Str → Option Value) (base : Heap) (k : Nat) (f : Addr) (fd : FuncData) (ps : List Str) (sp : Sp) : Prop where
  many : ∀ xs H Q E, sp xs H Q E → xs.length = ps.length
  go : ∀ (A : Around) (fr : List Env) (s : Shared) (H : Hp) (ar : Args) (us : List Value) (xs : List V) (Q : VK) (E : XK),
    A.guards = some [] → Room k A → Env0 P w K mg base A fr s H →
    BindsTo s fd ar (ps.zip us) → Vals xs us → sp xs H Q E →
    codeAny (model P w) A (.call (.ref f) ar) (CR CX0 fr P w H s Q E) s
theorem FnG.mono {j k : Nat} {f : Addr} {fd : FuncData} {ps : List Str} {sp : Sp} (F : FnG P w K mg base j f fd ps sp) (h : j ≤ k) : FnG P w K mg base k f fd ps sp :=
  ⟨F.many, fun A fr s H ar us xs Q E hg hr => F.go A fr s H ar us xs Q E hg (hr.mono h)⟩
/-- a def of the text by its body, where no repr is under way -/
theorem fnG_of {k : Nat} {x qual : Str} {st : Stmt} {f : Addr} {fd : FuncData} {N ps : List Str} {sp : Sp} (F : Fun K x qual st f fd) (S : FnScope N ps (defScope st)) (many : ∀ xs H Q E, sp xs H Q E → xs.length = ps.length)
    (hb : ∀ (cdv : Value) (A : Around) (fr : List Env) (s : Shared) (H : Hp) (xs : List V) (Q : VK) (E : XK), A.guards = some [] → Room k (A.deeper (envOfC qual (defScope st) s.heap.objs.size f cdv)) → sp xs H Q E →
      ∃ t, PSs (cxOf CX0 P w K mg base N qual (defScope st) f cdv A fr s H E).nox (defBody st) t ∧ t { nx := fun _ H' => Q .non H', rt := Q } (start N xs) H) : FnG P w K mg base (k + 1) f fd ps sp := by
  obtain ⟨oc, od, kV, doc, pm, an, cdv, ct, osl, rfl, lk, cd⟩ := F.ex
  refine ⟨many, fun A fr s H ar us xs Q E hg hr e0 bd rv hsp => ?_⟩
  have kept := fun b o e => (e0.bs b o e).1
  have KX := e0.mod.kin.keeps kept
  have lim := e0.mod.nolimit.keeps kept
  refine codeAny_call_function hr.depth
    (KX _ _ lk) rfl S.co S.gen rfl
    (PySem.W.codeRec_of KX cd) (bd _ _ _ _ ?_)
  refine wpAny_newFunctionEnv_cells S.kind (fun z hz => ?_)
    fun env he s1 ic => ?_
  · obtain ⟨y, v⟩ := z
    rcases S.par y (List.of_mem_zip hz).1 with c | c
    · exact Or.inl c
    · exact Or.inr ⟨c,
        PySem.W.cellsFrom_some _ _ _ (.inl c)⟩
  subst he
  refine ⟨lim.keeps ic.toInCall.keep,
    codeAny_func ?_⟩
  obtain ⟨t, ht, hq⟩ := hb cdv A fr s H xs Q E hg (hr.deeper _) hsp
  have I := inv_start (CX := CX0) (P := P) (w := w) (K := K) (mg := mg) (base := base) (E := E) S hr.hd e0 (many _ _ _ _ hsp) rv ic
  refine wpAny_mono (ht.nox.run [] s1 (start N xs) H _ I hq)
    (fun fl s' hs => ?_) (fun e s' hs => hs)
  cases fl with
  | ret u =>
    obtain ⟨v, σ', H', J, r, q⟩ := hs
    exact ⟨v, H', J.os, J.bare, J.base, J.hok, r, q⟩
  | next =>
    obtain ⟨σ', H', J, q⟩ := hs
    exact ⟨V.non, H', J.os, J.bare, J.base, J.hok, rfl, q⟩
  | brk => exact (hs.choose_spec.choose_spec.2).elim
  | cont => exact (hs.choose_spec.choose_spec.2).elim
/-- such a def by its name -/
structure ClG (P : Program) (w : World) (K : PySem.W.Frag) (mg : Str → Option Value) (base : Heap) (k : Nat) (x : Str) (sp : Sp) : Prop where
  ex : ∃ (f : Addr) (fd : FuncData) (ps : List Str), FnG P w K mg base k f fd ps sp ∧ mg x = some (.ref f) ∧ PySem.W.keepIn K (.ref f) = true ∧ Binds K fd ps []
theorem Def.clG {x : Str} {st : Stmt} {N ps : List Str} {k : Nat} {sp : Sp} (F : Def K mg x ps st) (S : FnScope N ps (defScope st)) (many : ∀ xs H Q E, sp xs H Q E → xs.length = ps.length)
    (hb : ∀ (f : Addr) (cdv : Value) (A : Around) (fr : List Env) (s : Shared) (H : Hp) (xs : List V) (Q : VK) (E : XK), A.guards = some [] → Room k (A.deeper (envOfC x (defScope st) s.heap.objs.size f cdv)) → sp xs H Q E →
      ∃ t, PSs (cxOf CX0 P w K mg base N x (defScope st) f cdv A fr s H E).nox (defBody st) t ∧ t { nx := fun _ H' => Q .non H', rt := Q } (start N xs) H) : ClG P w K mg base (k + 1) x sp := by
  obtain ⟨f, fd, G, hm, b⟩ := F.ex
  exact ⟨f, fd, ps, fnG_of G S many fun cdv A fr s H xs Q E hg hr h => hb f cdv A fr s H xs Q E hg hr h, hm, G.kp, b⟩
end
section
variable {X : Cx} {k j : Nat} {x : Str} {sp : Sp} {p pos : Pos} {e : Expr} {es : List Expr} {t : TA}
/-- the call of such a def -/
theorem pe_clG (c : ClG X.prog X.w X.K X.mg X.base k x sp) (hg : X.A.guards = some []) (hr : Room j X.A) (hk : k ≤ j) (gl : Gl X x) (ha : PA X (e :: es) t)
    (db : (x == ("__debug__" : Str)) = false := by decide) (st : starEach (e :: es) X.env = (false, eval e X.env) :: starEach es X.env := by rfl) (pl : (backTo pos (starEach es X.env)).any (·.1) = false := by rfl) :
    PE X (.Call (.Name x p) (e :: es) [] pos) (tCall sp [] E0 t) := by
  obtain ⟨f, fd, ps, F, hm, kp, b⟩ := c.ex
  refine PE.mk fun pins s σ H Q I h => wpAny_Call_Name_kw (ld_glob I gl hm ?_ db)
  refine PySem.W.callWith_K (h₀ := X.base) I.ok.mod.kin kp
    (thn (ha.run pos pins s σ H _ I h) fun us s1 z => ?_) st pl
  obtain ⟨xs, H1, J, rv, q⟩ := z
  refine ⟨J.kIn, ?_⟩
  rw [List.append_nil] at q
  have n1 : us.length = ps.length := rv.length ▸ F.many _ _ _ _ q
  have bd := b s1 us J.kIn (by rw [List.append_nil]; exact n1)
  rw [List.append_nil] at bd
  refine wpAny_call (codeAny_mono (F.go X.A X.stack s1 H1 ⟨us, []⟩ us xs Q E0 hg (hr.mono hk) J.env0 bd rv q)
    fun r s' hq => ?_)
  match r, hq with
  | .ok (.ret u), hq => exact J.after hq
  | .error _, hq => exact hq.elim
end
end Kin
namespace Kin
open PySem PySem.Spec PyProof.Rows L2 RZ
/-! ### repr of data, where no repr is under way -/
def rRepr (K : PySem.W.Frag) : List V → Hp → VK → Prop := fun vs H Q => ∃ (x : V) (d : PyData), vs = [x] ∧ Dp K H x d ∧ d.showable = true ∧ d.hasDict = false ∧ d.depth ≤ 60 ∧ d.shown.length ≤ sizeLine ∧ Q (.str d.shown) H
theorem call_reprD {X : Cx} (K : PySem.W.Frag) (hg : X.A.guards = some []) (hu : X.A.units + 64 < cLine) (hK : X.K = K := by rfl) : CallR X (.builtin "repr") (rRepr K) := by
  subst hK
  intro pins s σ H xs us Q I r h
  obtain ⟨x, d, rfl, hd, hs, hn, h60, hz, q⟩ := h
  cases d with
  | none =>
    cases hd
    obtain ⟨u, rfl, rfl⟩ := vals1 r
    exact PySem.P.repr_of_none ⟨.str _, H, I.tok _, ⟨_, rfl⟩, q⟩
  | bool b =>
    cases hd
    obtain ⟨u, rfl, rfl⟩ := vals1 r
    refine PySem.P.repr_of_bool ⟨.str _, H, I.tok _, ⟨_, rfl⟩, ?_⟩
    exact q
  | int i =>
    cases hd
    obtain ⟨u, rfl, t, rfl⟩ := vals1 r
    exact PySem.P.repr_of_int (of_decide_eq_true hs) ⟨.str _, H, I.tok _, ⟨_, rfl⟩, q⟩
  | str z =>
    cases hd
    obtain ⟨u, rfl, t, rfl⟩ := vals1 r
    exact PySem.P.repr_of_str (hsz := hz) ⟨.str _, H, I.tok _, ⟨_, rfl⟩, q⟩
  | dict kvs => cases hn
  | _ =>
    cases hd
    obtain rfl := Vals.ref1 r
    obtain ⟨as, rd⟩ := Dp.reads I _ (.ref _) (.ref _) (by first | exact .lst ‹_› ‹_› | exact .tup ‹_› ‹_›) rfl
    refine repr_of_reads' rd hs (fun h => by rw [hn] at h; cases h) ?_ ?_ (fun _ _ h => h) (fun h' u tk hk => ⟨.str _, H, I.kept hk, ⟨_, rfl⟩, q⟩) hz
    · exact hg
    · show _ + (_ + 1) < cLine
      omega
end Kin
namespace Kin
open PySem PySem.Spec PyProof.Rows L2 RZ
def badD (k : Int) : PyData := .tuple [.str "bad", .int k]
def wrgD (k : Int) : PyData := .tuple [.str "wrong", .list [.list [.int 0, .int k], .list [.int 0]]]
/-- what was told, its data, the lists in it that may change -/
def TdX (H : Hp) (t : Addr) (mv : List Addr) (d : PyData) : Prop := ∃ k : Int, 0 ≤ k ∧ k < 40 ∧ ((H t = some (.tup [.str "bad", .int k]) ∧ mv = [] ∧ d = badD k) ∨ ∃ l l1 l2, (H t = some (.tup [.str "wrong", .ref l]) ∧ H l = some (.lst [.ref l1, .ref l2]) ∧ H l1 = some (.lst [.int 0, .int k]) ∧ H l2 = some (.lst [.int 0])) ∧ mv = [l, l1] ∧ d = wrgD k)
theorem TdAt.x {H0 H : Hp} {t : Addr} (h : TdAt H0 H t) : ∃ mv d, TdX H t mv d ∧ ∀ b ∈ mv, H0 b = none := by
  obtain ⟨k, k0, k1, h | ⟨l, l1, l2, hn, h⟩⟩ := h
  · exact ⟨_, _, ⟨k, k0, k1, .inl ⟨h, rfl, rfl⟩⟩, fun b hb => by cases hb⟩
  · refine ⟨_, _, ⟨k, k0, k1, .inr ⟨l, l1, l2, h, rfl, rfl⟩⟩, fun b hb => ?_⟩
    rcases List.mem_cons.mp hb with e | hb
    · rw [e]; exact hn.1
    · rw [List.mem_singleton.mp hb]; exact hn.2
theorem TdX.da {K : PySem.W.Frag} {H : Hp} {t : Addr} {mv : List Addr} {d : PyData} (h : TdX H t mv d) : Da K [] H (.ref t) d := by
  have nn : ∀ b : Addr, b ∉ ([] : List Addr) := fun b z => by cases z
  obtain ⟨k, k0, k1, ⟨h, rfl, rfl⟩ | ⟨l, l1, l2, ⟨h1, h2, h3, h4⟩, rfl, rfl⟩⟩ := h
  · exact .tup (nn _) h (.cons (.str _) (.cons (.int _) .nil))
  · exact .tup (nn _) h1 (.cons (.str _) (.cons (.lst (nn _) h2 (.cons (.lst (nn _) h3 (.cons (.int _) (.cons (.int _) .nil))) (.cons (.lst (nn _) h4 (.cons (.int _) .nil)) .nil))) .nil))
def shB (d : PyData) : Bool := d.showable && !d.hasDict && decide (d.depth ≤ 3) && decide (d.shown.length ≤ 1000) && decide (wide d ≤ 1000)
theorem sh_all : ∀ n : Fin 40, shB (badD (n.val : Int)) = true ∧ shB (wrgD (n.val : Int)) = true := by decide +kernel
theorem sh_of {d : PyData} (h : shB d = true) : d.showable = true ∧ d.hasDict = false ∧ d.depth ≤ 3 ∧ d.shown.length ≤ 1000 ∧ wide d ≤ 1000 := by
  unfold shB at h
  simp only [Bool.and_eq_true, decide_eq_true_eq, Bool.not_eq_true'] at h
  exact ⟨h.1.1.1.1, h.1.1.1.2, h.1.1.2, h.1.2, h.2⟩
theorem TdX.sh {H : Hp} {t : Addr} {mv : List Addr} {d : PyData} (h : TdX H t mv d) : d.showable = true ∧ d.hasDict = false ∧ d.depth ≤ 3 ∧ d.shown.length ≤ 1000 ∧ wide d ≤ 1000 := by
  obtain ⟨k, k0, k1, h⟩ := h
  obtain ⟨n, rfl⟩ : ∃ n : Nat, k = (n : Int) := ⟨k.toNat, by omega⟩
  have hn : n < 40 := by omega
  rcases h with ⟨_, _, rfl⟩ | ⟨_, _, _, _, _, rfl⟩
  · exact sh_of (sh_all ⟨n, hn⟩).1
  · exact sh_of (sh_all ⟨n, hn⟩).2
section
variable {P : Program} {w : World} {K : PySem.W.Frag} {mg : Str → Option Value} {base : Heap}
/-! _law_code_right -/
abbrev s_law_code_right : Stmt := topS 29
theorem sc_law_code_right : FnScope ["code", "told", "due"] ["code", "told"] (defScope s_law_code_right) := ⟨rfl, rfl, rfl, by decide +kernel, rfl, by decide +kernel, by decide +kernel⟩
def sp_cright (K : PySem.W.Frag) (C : Addr) : Sp := fun vs H Q _ => ∃ (a dx td : Addr) (y : V) (mv : List Addr) (d : PyData), vs = [.ref a, .ref td] ∧ TdX H td mv d ∧ H a = some (exo a C (some dx)) ∧ H dx = some (exd dx [("told", y)]) ∧ Da K mv H y d ∧ ∀ H', (∀ b o, b ∉ mv → H b = some o → H' b = some o) → Q (.bl true) H'
theorem ok_cright {C : Addr} (F : Def K mg "_law_code_right" ["code", "told"] s_law_code_right) (m_repr : mg "repr" = none) (T : XfC K C) (nf : PySem.W.findIn K (.ref C) "told" = some none) : ClG P w K mg base 1 "_law_code_right" (sp_cright K C) := by
  refine F.clG sc_law_code_right (fun vs H Q E h => ?_) (fun f cdv A outer s H vs Q E' hg hr h => ?_)
  · obtain ⟨a, dx, td, y, mv, d, rfl, _⟩ := h
    rfl
  obtain ⟨a, dx, td, y, mv, d, rfl, hT, hA, hX, hy, q⟩ := h
  have nd := sc_law_code_right.nd
  have rg : (cxOf CX0 P w K mg base ["code", "told", "due"] "_law_code_right" (defScope s_law_code_right) f cdv A outer s H E').nox.A.guards = some [] := hg
  refine ⟨_, (pss_cons (ps_set (i := 2) nd rfl (Or.inl rfl) (pe_callB (call_reprD K rg hr.units) (by rfl) m_repr (by decide +kernel) (pa_cons (pv 1) pa_nil)))
    (pss_cons (ps_if (pt_cmpR op_eq (pe_ix (ix_tupK K) (pv 1) pe_int (fun _ _ => rfl)) pe_str (by rfl)) (pss_cons (ps_expr (pe_bmK K PySem.F.plainAttrs_list PySem.F.slot_list_append PySem.F.type_list_append mt_append (pe_ix (ix_listK K) (pe_ix (ix_tupK K) (pv 1) pe_int (fun _ _ => rfl)) pe_int (fun _ _ => rfl)) (pa_cons pe_int pa_nil)))
    (pss_one (ps_expr (pe_bmK K PySem.F.plainAttrs_list PySem.F.slot_list_append PySem.F.type_list_append mt_append (pe_ix (ix_tupK K) (pv 1) pe_int (fun _ _ => rfl)) (pa_cons (pe_lst (pa_cons pe_int pa_nil)) pa_nil))))) pss_nil)
    (pss_one (ps_ret (pe_cmpR op_eq (pe_callB (call_reprD K rg hr.units) (by rfl) m_repr (by decide +kernel) (pa_cons (pe_exfK K (pv 0)) pa_nil)) (pv 2) (by rfl)))))), ?_⟩
  obtain ⟨s1, s2, s3, s4, s5⟩ := hT.sh
  have hl : d.shown.length ≤ sizeLine := Nat.le_of_lt (small1000 s4)
  refine ⟨_, rfl, .ref td, d, rfl, hT.da.dp, s1, s2, by omega, hl, ?_⟩
  have fin : ∀ H1, (∀ b o, b ∉ mv → H b = some o → H1 b = some o) → H1 a = some (exo a C (some dx)) → H1 dx = some (exd dx [("told", y)]) → (tRet (tOp rEq (tCB (rRepr K) (tCons (tExf K "told" (tVar 0)) tNil)) (tVar 2))) { nx := fun _ H' => Q .non H', rt := Q } [some (.ref a), some (.ref td), some (.str d.shown)] H1 := fun H1 k hA1 hX1 => by
    refine ⟨_, rfl, a, C, dx, _, y, rfl, T, nf, hA1, hX1, lk_here, ?_⟩
    refine ⟨y, d, rfl, (hy.mono fun b o hb e => k b o hb e).dp, s1, s2, by omega, hl, _, rfl, ?_⟩
    refine ⟨rfl, ?_⟩
    show Q (.bl (decide (V.str d.shown = V.str d.shown))) H1
    rw [decide_eq_true rfl]
    exact q H1 k
  obtain ⟨k, k0, k1, ⟨h, rfl, rfl⟩ | ⟨l, l1, l2, ⟨h1, h2, h3, h4⟩, rfl, rfl⟩⟩ := hT
  · refine ⟨_, rfl, td, _, _, _, rfl, rfl, SqT.of h, at_of (j := 0) rfl rfl, rfl, _, rfl, ?_⟩
    refine no (by decide) ?_
    exact fin H (fun _ _ _ e => e) hA hX
  · refine ⟨_, rfl, td, _, _, _, rfl, rfl, SqT.of h1, at_of (j := 0) rfl rfl, rfl, _, rfl, ?_⟩
    refine yes (by decide) ?_
    have n1 : td ≠ l1 := fun e => by rw [e, h3] at h1; cases h1
    have n2 : l ≠ l1 := fun e => by rw [e, h3] at h2; cases h2
    refine ⟨_, rfl, td, _, _, _, rfl, rfl, SqT.of h1, at_of (j := 1) rfl rfl, l, _, _, _, rfl, rfl, SqL.of h2, at_of (j := 0) rfl rfl, .inl ⟨rfl, _, SqL.of h3⟩, l1, _, _, rfl, rfl, h3, by show 2 < sizeLine; decide, ?_⟩
    obtain ⟨H1, e1⟩ : ∃ H1, H1 = upd H l1 (.lst ([.int 0, .int k] ++ [.int 0])) := ⟨_, rfl⟩
    have k1' : ∀ b o, b ≠ l1 → H b = some o → H1 b = some o := fun b o hb e => by
      rw [e1, upd_ne hb]
      exact e
    rw [← e1]
    have g1 := k1' _ _ n1 h1
    have g2 := k1' _ _ n2 h2
    refine ⟨_, rfl, td, _, _, _, rfl, rfl, SqT.of g1, at_of (j := 1) rfl rfl, .inl ⟨rfl, _, SqL.of g2⟩, by show 1 ≤ sizeLine; decide, fun z nz => ?_⟩
    have nzl : l ≠ z := ne_of_none g2 nz
    refine ⟨l, _, _, rfl, rfl, same_new nz _ _ g2, by show 2 < sizeLine; decide, ?_⟩
    have kk : ∀ b o, b ∉ [l, l1] → H b = some o → upd (upd H1 z (.lst [.int 0])) l (.lst ([.ref l1, .ref l2] ++ [.ref z])) b = some o := fun b o hb e => by
      have b1 : b ≠ l := fun q => hb (by rw [q]; exact List.mem_cons_self)
      have b2 : b ≠ l1 := fun q => hb (by rw [q]; exact List.mem_cons_of_mem _ List.mem_cons_self)
      rw [upd_ne b1]
      exact same_new nz _ _ (k1' b o b2 e)
    have na : ∀ {b : Addr} {o : HO}, H b = some o → (∀ xs, o ≠ .lst xs) → b ∉ [l, l1] := fun {b o} hb ho z => by
      rcases List.mem_cons.mp z with z | z
      · rw [z, h2] at hb
        exact ho _ (Option.some.inj hb).symm
      · rw [List.mem_singleton.mp z, h3] at hb
        exact ho _ (Option.some.inj hb).symm
    exact fin _ kk (kk _ _ (na hA fun xs e => by cases e) hA) (kk _ _ (na hX fun xs e => by cases e) hX)
end
end Kin
namespace Kin
open PySem PySem.Spec PyProof.Rows L2 RZ
/-- exceptions of these kinds stand at these places -/
def EAs (c : Nat → Addr) (H : Hp) (as : List Addr) (is : List Nat) : Prop := as.length = is.length ∧ ∀ (k : Nat) (a : Addr), as[k]? = some a → ∃ (i : Nat) (fs : List (Str × V)), is[k]? = some i ∧ i < 15 ∧ ExAt H a (c i) fs
theorem EAs.same {c : Nat → Addr} {H H' : Hp} {as : List Addr} {is : List Nat} (h : EAs c H as is) (s : Same H H') : EAs c H' as is := ⟨h.1, fun k a e => by
  obtain ⟨i, fs, e1, e2, e3⟩ := h.2 k a e
  exact ⟨i, fs, e1, e2, e3.same s⟩⟩
theorem eas_nil {c : Nat → Addr} {H : Hp} : EAs c H [] [] := ⟨rfl, fun k a e => by simp at e⟩
theorem eas_cons {c : Nat → Addr} {H : Hp} {a : Addr} {i : Nat} {fs : List (Str × V)} {as : List Addr} {is : List Nat} (h : ExAt H a (c i) fs) (hi : i < 15) (t : EAs c H as is) : EAs c H (a :: as) (i :: is) := by
  refine ⟨by rw [List.length_cons, List.length_cons, t.1], fun k b e => ?_⟩
  cases k with
  | zero =>
    obtain rfl : a = b := Option.some.inj e
    exact ⟨i, fs, rfl, hi, h⟩
  | succ k => exact t.2 k b e
theorem eas_app {c : Nat → Addr} {H : Hp} {as bs : List Addr} {is js : List Nat} (h : EAs c H as is) (t : EAs c H bs js) : EAs c H (as ++ bs) (is ++ js) := by
  refine ⟨by rw [List.length_append, List.length_append, h.1, t.1], fun k b e => ?_⟩
  by_cases hk : k < as.length
  · rw [List.getElem?_append_left hk] at e
    rw [List.getElem?_append_left (by rw [← h.1]; exact hk)]
    exact h.2 k b e
  · rw [List.getElem?_append_right (by omega)] at e
    rw [List.getElem?_append_right (by rw [← h.1]; omega), ← h.1]
    exact t.2 _ b e
section
variable {K : PySem.W.Frag} {c : Nat → Addr} {te te' : TE} {tt : TT} {σ : L2.St} {H : Hp} {Q : VK} {as : List Addr} {is : List Nat} {r : Nat → V}
theorem lc_ex (hw : ∀ x : V, L2.wipe ((L2.wipe σ [7]).set 7 (some x)) [7] = L2.wipe σ [7]) (h7 : ∀ x : V, ((L2.wipe σ [7]).set 7 (some x))[7]? = some (some x))
    (hte : ∀ Q' : VK, (∀ l H1, Same H H1 → H1 l = some (.lst (as.map V.ref)) → Q' (.ref l) H1) → te σ H Q') (ea : EAs c H as is) (hl : as.length ≤ 900)
    (hb : ∀ (σ' : L2.St) (H' : Hp) (a : Addr) (i : Nat) (fs : List (Str × V)) (Q' : VK), σ'[7]? = some (some (.ref a)) → i < 15 → ExAt H' a (c i) fs → (∀ H2, Same H' H2 → Q' (r i) H2) → te' σ' H' Q')
    (q : ∀ D H', Same H H' → H' D = some (.lst (is.map r)) → Q (.ref D) H') : tLc (iList K te) (gName 7) tYes te' [7] σ H Q := by
  refine hte _ fun l H1 s1 hl1 => ⟨l, rfl, ⟨_, SqL.of hl1⟩, fun D nD => lc_list (xs := as.map V.ref) (fun i H' => Same H1 H' ∧ H' D = some (.lst ((is.take i).map r))) ⟨same_new nD, upd_same⟩ ?_ ?_ ?_⟩
  · rintro i H' _ ⟨sm, _⟩
    exact SqL.of (sm _ _ hl1)
  · rintro i x H' hx ⟨sm, hD⟩
    obtain ⟨a, ha, rfl⟩ : ∃ a, as[i]? = some a ∧ x = .ref a := by
      rw [List.getElem?_map] at hx
      cases e : as[i]? with
      | none => rw [e] at hx; cases hx
      | some z => rw [e] at hx; exact ⟨z, rfl, (Option.some.inj hx).symm⟩
    obtain ⟨k, fs, e1, e2, e3⟩ := ea.2 i a ha
    refine ⟨hw _, ?_⟩
    show te' _ H' _
    refine hb _ H' a k fs _ (h7 _) e2 (e3.same (s1.trans sm)) fun H2 s2 => ⟨_, s2 _ _ hD, ?_, same_mut (sm.trans s2) nD, ?_⟩
    · rw [List.length_map, List.length_take]
      exact small1000 (by have := (List.getElem?_eq_some_iff.mp ha).1; omega)
    · rw [upd_same, List.take_add_one, e1, List.map_append]
      rfl
  · rintro H' ⟨sm, hD⟩
    rw [List.length_map, ea.1, List.take_length] at hD
    exact q D H' (s1.trans sm) hD
theorem lc_exno (hw : ∀ x : V, L2.wipe ((L2.wipe σ [7]).set 7 (some x)) [7] = L2.wipe σ [7]) (h7 : ∀ x : V, ((L2.wipe σ [7]).set 7 (some x))[7]? = some (some x))
    (hte : ∀ Q' : VK, (∀ l H1, Same H H1 → H1 l = some (.lst (as.map V.ref)) → Q' (.ref l) H1) → te σ H Q') (ea : EAs c H as is)
    (hb : ∀ (σ' : L2.St) (H' : Hp) (a : Addr) (i : Nat) (fs : List (Str × V)) (Q' : Bool → Hp → Prop), σ'[7]? = some (some (.ref a)) → i < 15 → ExAt H' a (c i) fs → Q' false H' → tt σ' H' Q')
    (q : ∀ D H', Same H H' → H' D = some (.lst []) → Q (.ref D) H') : tLc (iList K te) (gName 7) tt te' [7] σ H Q := by
  refine hte _ fun l H1 s1 hl1 => ⟨l, rfl, ⟨_, SqL.of hl1⟩, fun D nD => lc_list (xs := as.map V.ref) (fun i H' => Same H1 H' ∧ H' D = some (.lst [])) ⟨same_new nD, upd_same⟩ ?_ ?_ ?_⟩
  · rintro i H' _ ⟨sm, _⟩
    exact SqL.of (sm _ _ hl1)
  · rintro i x H' hx ⟨sm, hD⟩
    obtain ⟨a, ha, rfl⟩ : ∃ a, as[i]? = some a ∧ x = .ref a := by
      rw [List.getElem?_map] at hx
      cases e : as[i]? with
      | none => rw [e] at hx; cases hx
      | some z => rw [e] at hx; exact ⟨z, rfl, (Option.some.inj hx).symm⟩
    obtain ⟨k, fs, e1, e2, e3⟩ := ea.2 i a ha
    refine ⟨hw _, ?_⟩
    show tt _ H' _
    refine hb _ H' a k fs _ (h7 _) e2 (e3.same (s1.trans sm)) ?_
    rw [if_neg Bool.false_ne_true]
    exact ⟨sm, hD⟩
  · rintro H' ⟨sm, hD⟩
    exact q D H' (s1.trans sm) hD
theorem knd_flat (i : Nat) : ((kndL i).map V.bl).all flatV = true := List.all_eq_true.mpr fun z hz => by
  obtain ⟨b, _, rfl⟩ := List.mem_map.mp hz
  rfl
theorem knd_get {i j : Nat} (hj : j < 15) : ((kndL i).map V.bl)[j]? = some (.bl (decide (i = j))) := by
  unfold kndL
  rw [List.getElem?_map, List.getElem?_map, List.getElem?_range hj]
  rfl
theorem knd_cnt : ∀ i : Fin 15, (kndL i.val).count true = 1 := by decide
theorem body_idx (σ' : L2.St) (H' : Hp) (a : Addr) (i : Nat) (fs : List (Str × V)) (Q' : VK) (h : σ'[7]? = some (some (.ref a))) (hi : i < 15) (ea : ExAt H' a (c i) fs) (q : ∀ H2, Same H' H2 → Q' (nV i) H2) :
    tBM K "list" (rIndex K) (tCall (sp_kinds K c) [] E0 (tCons (tVar 7) tNil)) (tCons (tC (V.bl true)) tNil) σ' H' Q' := by
  refine ⟨_, h, a, i, fs, rfl, hi, ea, fun l H2 sm nl hl => ⟨.inl ⟨rfl, _, SqL.of hl⟩, l, _, .bl true, i, _, rfl, rfl, SqL.of hl, rfl, knd_flat i, knd_get hi, by rw [decide_eq_true rfl]; rfl, fun m z hm hz => ?_, q H2 sm⟩⟩
  rw [knd_get (by omega)] at hz
  rw [← Option.some.inj hz, decide_eq_false (by omega)]
  rfl
theorem body_cnt (σ' : L2.St) (H' : Hp) (a : Addr) (i : Nat) (fs : List (Str × V)) (Q' : VK) (h : σ'[7]? = some (some (.ref a))) (hi : i < 15) (ea : ExAt H' a (c i) fs) (q : ∀ H2, Same H' H2 → Q' (.int 1) H2) :
    tBM K "list" (rCntB K) (tCall (sp_kinds K c) [] E0 (tCons (tVar 7) tNil)) (tCons (tC (V.bl true)) tNil) σ' H' Q' := by
  refine ⟨_, h, a, i, fs, rfl, hi, ea, fun l H2 sm nl hl => ⟨.inl ⟨rfl, _, SqL.of hl⟩, l, _, true, rfl, rfl, SqL.of hl, ?_⟩⟩
  rw [show (kndL i).count true = 1 from knd_cnt ⟨i, hi⟩]
  exact q H2 sm
variable {mg : Str → Option Value} {cK : Addr}
theorem body_is (E : Errs K mg c cK) (σ' : L2.St) (H' : Hp) (a : Addr) (i : Nat) (fs : List (Str × V)) (Q' : Bool → Hp → Prop) (h : σ'[7]? = some (some (.ref a))) (hi : i < 15) (ea : ExAt H' a (c i) fs) (q : Q' false H') :
    tOr (tNot (tB (tCB (rIsV K) (tCons (tVar 7) (tCons (tC (V.ref cK)) tNil))))) (tNot (tB (tCB (rIsV K) (tCons (tVar 7) (tCons (tC (V.ty "ValueError")) tNil))))) σ' H' Q' := by
  refine ⟨_, h, ?_⟩
  dsimp only [tCons, tC, tNil]
  refine E.isk hi ea ?_
  refine ⟨true, rfl, ?_⟩
  refine no (by decide) ?_
  refine ⟨_, h, ?_⟩
  dsimp only [tCons, tC, tNil]
  refine E.isve hi ea ?_
  exact ⟨true, rfl, q⟩
end
end Kin
namespace Kin
open PySem PySem.Spec PyProof.Rows L2 RZ
section
variable {P : Program} {w : World} {K : PySem.W.Frag} {mg : Str → Option Value} {base : Heap}
/-! _law_same -/
abbrev s_law_same : Stmt := topS 22
theorem sc_law_same : FnScope ["found", "due", "one", "other"] ["found", "due"] (defScope s_law_same) := ⟨rfl, rfl, rfl, by decide +kernel, rfl, by decide +kernel, by decide +kernel⟩
def sp_law_same (K : PySem.W.Frag) (n : Nat) : Sp := fun vs H Q _ => ∃ (x y : V) (d : PyData), vs = [x, y] ∧ Dp K H x d ∧ Dp K H y d ∧ d.depth < n ∧ wide d ≤ 1000 ∧ ∀ H', Same H H' → Q (.bl true) H'
theorem ok_law_same_step {n : Nat} (F : Def K mg "_law_same" ["found", "due"] s_law_same) (M : MB mg) (c_law_same : Cl P w K mg base n "_law_same" (sp_law_same K n)) : Cl P w K mg base (n + 1) "_law_same" (sp_law_same K (n + 1)) := by
  refine F.cl sc_law_same (fun vs H Q E h => ?_) (fun f cdv A outer s H vs Q E hr h => ?_)
  · obtain ⟨x, y, d, rfl, _⟩ := h
    rfl
  obtain ⟨x, y, d, rfl, hx, hy, hdep, hwd, q⟩ := h
  have nd := sc_law_same.nd
  obtain ⟨m_isinstance, m_bool, m_str, m_int, m_tuple, m_list, m_len, m_all, m_zip, _⟩ := M
  refine ⟨_, (pss_cons (ps_if (PW.pt (pw_or (pt_cmpR op_isN (pv 1) pe_non (by rfl)) (pw_or1 (pt_val (pe_callB (call_isiK' K) (by rfl) m_isinstance (by decide +kernel) (pa_cons (pv 1) (pa_cons (pe_bltn (v := .ty "bool") (u := .type "bool") (by rfl) m_bool (by decide +kernel) rfl) pa_nil))))))) (pss_one (ps_ret (pe_and (pe_cmpR op_eq (pe_callB (call_isiK' K) (by rfl) m_isinstance (by decide +kernel) (pa_cons (pv 0) (pa_cons (pe_bltn (v := .ty "bool") (u := .type "bool") (by rfl) m_bool (by decide +kernel) rfl) pa_nil))) (pe_callB (call_isiK' K) (by rfl) m_isinstance (by decide +kernel) (pa_cons (pv 1) (pa_cons (pe_bltn (v := .ty "bool") (u := .type "bool") (by rfl) m_bool (by decide +kernel) rfl) pa_nil))) (by rfl)) (pe_one (pe_cmpR op_eq (pv 0) (pv 1) (by rfl)))))) pss_nil)
    (pss_cons (ps_if (pt_val (pe_callB (call_isiK' K) (by rfl) m_isinstance (by decide +kernel) (pa_cons (pv 1) (pa_cons (pe_bltn (v := .ty "str") (u := .type "str") (by rfl) m_str (by decide +kernel) rfl) pa_nil)))) (pss_one (ps_ret (pe_and (pe_callB (call_isiK' K) (by rfl) m_isinstance (by decide +kernel) (pa_cons (pv 0) (pa_cons (pe_bltn (v := .ty "str") (u := .type "str") (by rfl) m_str (by decide +kernel) rfl) pa_nil))) (pe_one (pe_cmpR op_eq (pv 0) (pv 1) (by rfl)))))) pss_nil)
    (pss_cons (ps_if (pt_val (pe_callB (call_isiK' K) (by rfl) m_isinstance (by decide +kernel) (pa_cons (pv 1) (pa_cons (pe_bltn (v := .ty "int") (u := .type "int") (by rfl) m_int (by decide +kernel) rfl) pa_nil)))) (pss_one (ps_ret (pe_and (pe_callB (call_isiK' K) (by rfl) m_isinstance (by decide +kernel) (pa_cons (pv 0) (pa_cons (pe_bltn (v := .ty "int") (u := .type "int") (by rfl) m_int (by decide +kernel) rfl) pa_nil))) (pe_and (pe_not (pe_callB (call_isiK' K) (by rfl) m_isinstance (by decide +kernel) (pa_cons (pv 0) (pa_cons (pe_bltn (v := .ty "bool") (u := .type "bool") (by rfl) m_bool (by decide +kernel) rfl) pa_nil)))) (pe_one (pe_cmpR op_eq (pv 0) (pv 1) (by rfl))))))) pss_nil)
    (pss_cons (ps_if (PW.pt (pw_or (pt_cmpR op_ne (pe_callB (call_isiK' K) (by rfl) m_isinstance (by decide +kernel) (pa_cons (pv 1) (pa_cons (pe_bltn (v := .ty "tuple") (u := .type "tuple") (by rfl) m_tuple (by decide +kernel) rfl) pa_nil))) (pe_callB (call_isiK' K) (by rfl) m_isinstance (by decide +kernel) (pa_cons (pv 0) (pa_cons (pe_bltn (v := .ty "tuple") (u := .type "tuple") (by rfl) m_tuple (by decide +kernel) rfl) pa_nil))) (by rfl)) (pw_or1 (pt_cmpR op_ne (pe_callB (call_isiK' K) (by rfl) m_isinstance (by decide +kernel) (pa_cons (pv 1) (pa_cons (pe_bltn (v := .ty "list") (u := .type "list") (by rfl) m_list (by decide +kernel) rfl) pa_nil))) (pe_callB (call_isiK' K) (by rfl) m_isinstance (by decide +kernel) (pa_cons (pv 0) (pa_cons (pe_bltn (v := .ty "list") (u := .type "list") (by rfl) m_list (by decide +kernel) rfl) pa_nil))) (by rfl))))) (pss_one (ps_ret pe_bl)) pss_nil)
    (pss_one (ps_ret (pe_and (pe_cmpR op_eq (pe_callB (call_lenK K) (by rfl) m_len PySem.boot_len (pa_cons (pv 0) pa_nil)) (pe_callB (call_lenK K) (by rfl) m_len PySem.boot_len (pa_cons (pv 1) pa_nil)) (by rfl)) (pe_one (pe_callB (cr_allK K) (by rfl) m_all (by decide +kernel) (pa_cons (pe_lc (own := [("one", 2), ("other", 3)]) (tt := tYes) (by rfl) nd (pi_zipK K (by rfl) m_zip (pa_cons (pv 0) (pa_cons (pv 1) pa_nil))) (blkOk_by (own := [("one", 2), ("other", 3)]) (N := ["found", "due", "one", "other"]) (sc := defScope s_law_same) (by decide +kernel)) (fun _ _ _ _ _ => (pg_tupK K 2 rfl (pgs_cons (pg_name (i := 2) nd rfl (Or.inl rfl)) (pgs_cons (pg_name (i := 3) nd rfl (Or.inl rfl)) pgs_nil)))) (fun _ _ _ _ _ => pts_nil) (fun _ _ _ _ _ => (pe_cl c_law_same hr (Nat.le_refl n) (by rfl) (pa_cons (pv 2) (pa_cons (pv 3) pa_nil))))) pa_nil)))))))))), ?_⟩
  have nn : ∀ v : V, v ≠ .non → ¬ decide (v = .non) = true := fun v h => by
    rw [decide_eq_false h]
    decide
  have qt : ∀ {H'} (v : V), Same H H' → Q (.bl (decide (v = v))) H' := fun v sm => by
    rw [decide_eq_true rfl]
    exact q _ sm
  cases d with
  | none =>
    cases hx
    cases hy
    refine ⟨_, rfl, rfl, _, rfl, ?_⟩
    refine yes (decide_eq_true rfl) ?_
    refine yes rfl ?_
    refine ⟨_, rfl, _, _, _, _, false, rfl, .ty _, (.base .non), kit_ty (by decide +kernel), ⟨_, rfl, _, _, _, _, false, rfl, .ty _, (.base .non), kit_ty (by decide +kernel), ⟨rfl, _, rfl, yes (decide_eq_true rfl) ⟨_, rfl, _, rfl, rfl, qt _ (Same.refl H)⟩⟩⟩⟩
  | bool b =>
    cases hx
    cases hy
    refine ⟨_, rfl, rfl, _, rfl, ?_⟩
    refine no (nn _ fun h => nomatch h) ?_
    refine ⟨_, rfl, _, _, _, _, true, rfl, .ty _, (.base (.bl b)), kit_ty (by decide +kernel), ⟨_, rfl, ?_⟩⟩
    refine yes rfl ?_
    refine ⟨_, rfl, _, _, _, _, true, rfl, .ty _, (.base (.bl b)), kit_ty (by decide +kernel), ⟨_, rfl, _, _, _, _, true, rfl, .ty _, (.base (.bl b)), kit_ty (by decide +kernel), ⟨rfl, _, rfl, yes (decide_eq_true rfl) ⟨_, rfl, _, rfl, rfl, qt _ (Same.refl H)⟩⟩⟩⟩
  | int i =>
    cases hx
    cases hy
    refine ⟨_, rfl, rfl, _, rfl, ?_⟩
    refine no (nn _ fun h => nomatch h) ?_
    refine ⟨_, rfl, _, _, _, _, false, rfl, .ty _, (.base (.int i)), kit_ty (by decide +kernel), ⟨_, rfl, ?_⟩⟩
    refine no (by decide) ?_
    refine ⟨_, rfl, _, _, _, _, false, rfl, .ty _, (.base (.int i)), kit_ty (by decide +kernel), ⟨_, rfl, ?_⟩⟩
    refine no (by decide) ?_
    refine ⟨_, rfl, _, _, _, _, true, rfl, .ty _, (.base (.int i)), kit_ty (by decide +kernel), ⟨_, rfl, ?_⟩⟩
    refine yes rfl ?_
    refine ⟨_, rfl, _, _, _, _, true, rfl, .ty _, (.base (.int i)), kit_ty (by decide +kernel), ⟨_, rfl, ?_⟩⟩
    refine yes rfl ?_
    refine ⟨_, rfl, _, _, _, _, false, rfl, .ty _, (.base (.int i)), kit_ty (by decide +kernel), ⟨_, rfl, _, rfl, ?_⟩⟩
    refine yes rfl ?_
    exact ⟨_, rfl, _, rfl, rfl, qt _ (Same.refl H)⟩
  | str z =>
    cases hx
    cases hy
    refine ⟨_, rfl, rfl, _, rfl, ?_⟩
    refine no (nn _ fun h => nomatch h) ?_
    refine ⟨_, rfl, _, _, _, _, false, rfl, .ty _, (.base (.str z)), kit_ty (by decide +kernel), ⟨_, rfl, ?_⟩⟩
    refine no (by decide) ?_
    refine ⟨_, rfl, _, _, _, _, true, rfl, .ty _, (.base (.str z)), kit_ty (by decide +kernel), ⟨_, rfl, ?_⟩⟩
    refine yes rfl ?_
    refine ⟨_, rfl, _, _, _, _, true, rfl, .ty _, (.base (.str z)), kit_ty (by decide +kernel), ⟨_, rfl, ?_⟩⟩
    refine yes rfl ?_
    exact ⟨_, rfl, _, rfl, rfl, qt _ (Same.refl H)⟩
  | list ds =>
    cases hx with
    | @lst a xs _ ha hxs =>
    cases hy with
    | @lst b ys _ hb hys =>
    refine ⟨_, rfl, rfl, _, rfl, ?_⟩
    refine no (nn _ fun h => nomatch h) ?_
    refine ⟨_, rfl, _, _, _, _, false, rfl, .ty _, (sq_ty hb), kit_ty (by decide +kernel), ⟨_, rfl, ?_⟩⟩
    refine no (by decide) ?_
    refine ⟨_, rfl, _, _, _, _, false, rfl, .ty _, (sq_ty hb), kit_ty (by decide +kernel), ⟨_, rfl, ?_⟩⟩
    refine no (by decide) ?_
    refine ⟨_, rfl, _, _, _, _, false, rfl, .ty _, (sq_ty hb), kit_ty (by decide +kernel), ⟨_, rfl, ?_⟩⟩
    refine no (by decide) ?_
    refine ⟨_, rfl, _, _, _, _, false, rfl, .ty _, (sq_ty hb), kit_ty (by decide +kernel), ⟨_, rfl, _, _, _, _, false, rfl, .ty _, (sq_ty ha), kit_ty (by decide +kernel), ⟨rfl, _, rfl, ?_⟩⟩⟩
    refine no (by decide) ?_
    refine ⟨_, rfl, _, _, _, _, true, rfl, .ty _, (sq_ty hb), kit_ty (by decide +kernel), ⟨_, rfl, _, _, _, _, true, rfl, .ty _, (sq_ty ha), kit_ty (by decide +kernel), ⟨rfl, _, rfl, ?_⟩⟩⟩
    refine no (by decide) ?_
    have el : xs.length = ys.length := (dpAll_len hxs).trans (dpAll_len hys).symm
    have hw2 : max ds.length (wideAll ds) ≤ 1000 := hwd
    have hwa : wideAll ds ≤ 1000 := by omega
    have hwl : ds.length ≤ 1000 := by omega
    refine ⟨_, rfl, a, xs, rfl, .inl ha, _, rfl, b, ys, rfl, .inl hb, rfl, _, rfl, ?_⟩
    refine yes (decide_eq_true (by rw [el])) ?_
    refine ⟨_, rfl, _, rfl, a, b, xs, ys, rfl, .inl ⟨ha, hb, fun D nD => lc_zipL el (fun i H' => Same H H' ∧ H' D = some (.lst ((List.replicate i true).map V.bl))) ?_ ?_ ?_ ?_⟩⟩
    · exact ⟨same_new nD, upd_same⟩
    · rintro i H' _ ⟨sm, _⟩
      exact ⟨sm.seq ha, sm.seq hb⟩
    · rintro i u v H' T hu hv ⟨sm, hD⟩ nT
      have s2 := sm.trans (same_new (o := .tup [u, v]) nT)
      obtain ⟨d1, e1, k1⟩ := dpAll_get hxs hu
      obtain ⟨d2, e2, k2⟩ := dpAll_get hys hv
      have e3 : d2 = d1 := Option.some.inj (e2.symm.trans e1)
      subst e3
      have hTD : D ≠ T := ne_of_none hD nT
      refine ⟨T, _, rfl, SqT.of upd_same, rfl, _, _, rfl, _, _, rfl, rfl, rfl, ?_⟩
      refine ⟨_, rfl, _, rfl, u, v, d2, rfl, dp_same s2 _ _ k1, dp_same s2 _ _ k2, ?_, Nat.le_trans (wide_get e1) hwa, fun H2 s3 => ?_⟩
      · have := depth_get e1
        have e0 : (PyData.list ds).depth = PyData.depthAll ds + 1 := rfl
        omega
      · refine ⟨_, s3 _ _ (by rw [upd_ne hTD]; exact hD), ?_, same_mut (s2.trans s3) nD, ?_⟩
        · rw [List.length_map, List.length_replicate]
          have := (List.getElem?_eq_some_iff.mp hu).1
          rw [dpAll_len hxs] at this
          exact small1000 (by omega)
        · rw [upd_same, List.replicate_succ', List.map_append]
          rfl
    · rintro H' ⟨sm, hD⟩
      refine ⟨D, _, rfl, SqL.of hD, ?_⟩
      have e : (List.replicate xs.length true).all id = true := List.all_eq_true.mpr fun z hz => by
        rw [(List.mem_replicate.mp hz).2]
        rfl
      show Q (.bl ((List.replicate xs.length true).all id)) H'
      rw [e]
      exact q _ sm
  | tuple ds =>
    cases hx with
    | @tup a xs _ ha hxs =>
    cases hy with
    | @tup b ys _ hb hys =>
    refine ⟨_, rfl, rfl, _, rfl, ?_⟩
    refine no (nn _ fun h => nomatch h) ?_
    refine ⟨_, rfl, _, _, _, _, false, rfl, .ty _, (st_ty hb), kit_ty (by decide +kernel), ⟨_, rfl, ?_⟩⟩
    refine no (by decide) ?_
    refine ⟨_, rfl, _, _, _, _, false, rfl, .ty _, (st_ty hb), kit_ty (by decide +kernel), ⟨_, rfl, ?_⟩⟩
    refine no (by decide) ?_
    refine ⟨_, rfl, _, _, _, _, false, rfl, .ty _, (st_ty hb), kit_ty (by decide +kernel), ⟨_, rfl, ?_⟩⟩
    refine no (by decide) ?_
    refine ⟨_, rfl, _, _, _, _, true, rfl, .ty _, (st_ty hb), kit_ty (by decide +kernel), ⟨_, rfl, _, _, _, _, true, rfl, .ty _, (st_ty ha), kit_ty (by decide +kernel), ⟨rfl, _, rfl, ?_⟩⟩⟩
    refine no (by decide) ?_
    refine ⟨_, rfl, _, _, _, _, false, rfl, .ty _, (st_ty hb), kit_ty (by decide +kernel), ⟨_, rfl, _, _, _, _, false, rfl, .ty _, (st_ty ha), kit_ty (by decide +kernel), ⟨rfl, _, rfl, ?_⟩⟩⟩
    refine no (by decide) ?_
    have el : xs.length = ys.length := (dpAll_len hxs).trans (dpAll_len hys).symm
    have hw2 : max ds.length (wideAll ds) ≤ 1000 := hwd
    have hwa : wideAll ds ≤ 1000 := by omega
    have hwl : ds.length ≤ 1000 := by omega
    refine ⟨_, rfl, a, xs, rfl, .inr ha, _, rfl, b, ys, rfl, .inr hb, rfl, _, rfl, ?_⟩
    refine yes (decide_eq_true (by rw [el])) ?_
    refine ⟨_, rfl, _, rfl, a, b, xs, ys, rfl, .inr ⟨ha, hb, fun D nD => lc_zipT el (fun i H' => Same H H' ∧ H' D = some (.lst ((List.replicate i true).map V.bl))) ?_ ?_ ?_ ?_⟩⟩
    · exact ⟨same_new nD, upd_same⟩
    · rintro i H' _ ⟨sm, _⟩
      exact ⟨st_same sm ha, st_same sm hb⟩
    · rintro i u v H' T hu hv ⟨sm, hD⟩ nT
      have s2 := sm.trans (same_new (o := .tup [u, v]) nT)
      obtain ⟨d1, e1, k1⟩ := dpAll_get hxs hu
      obtain ⟨d2, e2, k2⟩ := dpAll_get hys hv
      have e3 : d2 = d1 := Option.some.inj (e2.symm.trans e1)
      subst e3
      have hTD : D ≠ T := ne_of_none hD nT
      refine ⟨T, _, rfl, SqT.of upd_same, rfl, _, _, rfl, _, _, rfl, rfl, rfl, ?_⟩
      refine ⟨_, rfl, _, rfl, u, v, d2, rfl, dp_same s2 _ _ k1, dp_same s2 _ _ k2, ?_, Nat.le_trans (wide_get e1) hwa, fun H2 s3 => ?_⟩
      · have := depth_get e1
        have e0 : (PyData.tuple ds).depth = PyData.depthAll ds + 1 := rfl
        omega
      · refine ⟨_, s3 _ _ (by rw [upd_ne hTD]; exact hD), ?_, same_mut (s2.trans s3) nD, ?_⟩
        · rw [List.length_map, List.length_replicate]
          have := (List.getElem?_eq_some_iff.mp hu).1
          rw [dpAll_len hxs] at this
          exact small1000 (by omega)
        · rw [upd_same, List.replicate_succ', List.map_append]
          rfl
    · rintro H' ⟨sm, hD⟩
      refine ⟨D, _, rfl, SqL.of hD, ?_⟩
      have e : (List.replicate xs.length true).all id = true := List.all_eq_true.mpr fun z hz => by
        rw [(List.mem_replicate.mp hz).2]
        rfl
      show Q (.bl ((List.replicate xs.length true).all id)) H'
      rw [e]
      exact q _ sm
  | dict ds => cases hx
theorem ok_law_same (F : Def K mg "_law_same" ["found", "due"] s_law_same) (M : MB mg) : ∀ n : Nat, Cl P w K mg base n "_law_same" (sp_law_same K n)
  | 0 => by
    obtain ⟨f, fd, F1, hm, b⟩ := F.ex
    have no : ∀ vs H Q E, ¬ sp_law_same K 0 vs H Q E := fun vs H Q E h => by
      obtain ⟨x, y, d, _, _, _, h, _⟩ := h
      omega
    exact ⟨f, fd, _, ⟨fun vs H Q E h => absurd h (no vs H Q E), fun A outer s H args us vs Q E _ _ _ _ h => absurd h (no vs H Q E)⟩, hm, F1.kp, b⟩
  | n + 1 => ok_law_same_step F M (ok_law_same F M n)
end
end Kin
namespace Kin
open PySem PySem.Spec PyProof.Rows L2 RZ
section
variable {P : Program} {w : World} {K : PySem.W.Frag} {mg : Str → Option Value} {base : Heap} {c : Nat → Addr} {cK : Addr}
/-- the four that tell something: their makers, how their fields are read -/
structure Mks (P : Program) (w : World) (K : PySem.W.Frag) (mg : Str → Option Value) (base : Heap) (c : Nat → Addr) : Prop where
  x0 : ExI P w K mg base 5 "NoLine" (c 0) (sp_iLine K (c 0))
  x1 : ExI P w K mg base 5 "NoCode" (c 1) (sp_iCode K (c 1))
  x2 : ExI P w K mg base 1 "NoSource" (c 2) (sp_iInt (c 2) "place")
  x3 : ExI P w K mg base 1 "NoChange" (c 3) (sp_iInt (c 3) "number")
  f : ∀ i, i < 4 → XfC K (c i)
  n0 : PySem.W.findIn K (.ref (c 0)) "name" = some none ∧ PySem.W.findIn K (.ref (c 0)) "rows" = some none ∧ PySem.W.findIn K (.ref (c 0)) "ring" = some none
  n1 : PySem.W.findIn K (.ref (c 1)) "told" = some none
  n2 : PySem.W.findIn K (.ref (c 2)) "place" = some none
  n3 : PySem.W.findIn K (.ref (c 3)) "number" = some none
section
variable {C : Addr} {H : Hp} {Q : Addr → Hp → Prop}
theorem da_on {x : V} {d : PyData} {a : Addr} {o : HO} (h : Da K [] H x d) (n : H a = none) : Da K [a] (upd H a o) x d :=
  (show Da K [a] H x d from h.off n).mono fun b u hb e => by
    rw [upd_ne fun z => hb (by rw [z]; exact List.mem_singleton.mpr rfl)]
    exact e
theorem ini_same {a : Addr} {H2 : Hp} {fs : List (Str × V)} {o : HO} (n : H a = none) (h : IniP C a (upd H a o) H2 fs) : Same H H2 ∧ ∃ dx, H2 a = some (exo a C (some dx)) ∧ H2 dx = some (exd dx fs) := by
  obtain ⟨dx, e1, e2, _, k⟩ := h
  refine ⟨fun b u e => k b u (ne_of_none e n) ?_, dx, e1, e2⟩
  rw [upd_ne (ne_of_none e n)]
  exact e
theorem mk_line {z : Str} {x1 x2 : V} {d1 d2 : PyData} (hz : z.length ≤ 1000) (h1 : Da K [] H x1 d1) (e1 : d1.depth < 4) (w1 : wide d1 ≤ 1000) (h2 : Da K [] H x2 d2) (e2 : d2.depth < 4) (w2 : wide d2 ≤ 1000)
    (k : ∀ a dx y1 y2 H2, Same H H2 → H2 a = some (exo a C (some dx)) → H2 dx = some (exd dx [("ring", y2), ("rows", y1), ("name", .str z)]) → Fr K H H2 y1 d1 → Fr K H H2 y2 d2 → Q a H2) :
    [V.str z, x1, x2].length ≤ 1000 ∧ ∀ a, H a = none → sp_iLine K C [.ref a, .str z, x1, x2] (upd H a (exo a C none)) (fun v H2 => v = .non ∧ Q a H2) (fun _ _ _ => False) := by
  refine ⟨by show 3 ≤ 1000; decide, fun a na => ⟨a, z, x1, x2, d1, d2, rfl, hz, da_on h1 na, e1, w1, da_on h2 na, e2, w2, upd_same, fun y1 y2 H2 ini f1 f2 => ⟨rfl, ?_⟩⟩⟩
  obtain ⟨s, dx, g1, g2⟩ := ini_same na ini
  exact k a dx y1 y2 H2 s g1 g2 (f1.from (same_new na)) (f2.from (same_new na))
theorem mk_code {x : V} {d : PyData} (h : Da K [] H x d) (e : d.depth < 4) (w : wide d ≤ 1000)
    (k : ∀ a dx y H2, Same H H2 → H2 a = some (exo a C (some dx)) → H2 dx = some (exd dx [("told", y)]) → Fr K H H2 y d → Q a H2) :
    [x].length ≤ 1000 ∧ ∀ a, H a = none → sp_iCode K C [.ref a, x] (upd H a (exo a C none)) (fun v H2 => v = .non ∧ Q a H2) (fun _ _ _ => False) := by
  refine ⟨by show 1 ≤ 1000; decide, fun a na => ⟨a, x, d, rfl, da_on h na, e, w, upd_same, fun y H2 ini f => ⟨rfl, ?_⟩⟩⟩
  obtain ⟨s, dx, g1, g2⟩ := ini_same na ini
  exact k a dx y H2 s g1 g2 (f.from (same_new na))
theorem mk_int {n : Int} {fld : Str} (hn : n.natAbs < 2 ^ 32) (k : ∀ a dx H2, Same H H2 → H2 a = some (exo a C (some dx)) → H2 dx = some (exd dx [(fld, .int n)]) → Q a H2) :
    [V.int n].length ≤ 1000 ∧ ∀ a, H a = none → sp_iInt C fld [.ref a, .int n] (upd H a (exo a C none)) (fun v H2 => v = .non ∧ Q a H2) (fun _ _ _ => False) := by
  refine ⟨by show 1 ≤ 1000; decide, fun a na => ⟨a, n, rfl, hn, upd_same, fun H2 ini => ⟨rfl, ?_⟩⟩⟩
  obtain ⟨s, dx, g1, g2⟩ := ini_same na ini
  exact k a dx H2 s g1 g2
end
theorem TdX.same {H H' : Hp} {t : Addr} {mv : List Addr} {d : PyData} (h : TdX H t mv d) (s : ∀ b o, b ∉ mv → H b = some o → H' b = some o) (s2 : ∀ b ∈ mv, ∀ o, H b = some o → H' b = some o) : TdX H' t mv d := by
  have k : ∀ b o, H b = some o → H' b = some o := fun b o e => by
    by_cases z : b ∈ mv
    · exact s2 b z o e
    · exact s b o z e
  obtain ⟨n, n0, n1, ⟨h, e⟩ | ⟨l, l1, l2, ⟨h1, h2, h3, h4⟩, e⟩⟩ := h
  · exact ⟨n, n0, n1, .inl ⟨k _ _ h, e⟩⟩
  · exact ⟨n, n0, n1, .inr ⟨l, l1, l2, ⟨k _ _ h1, k _ _ h2, k _ _ h3, k _ _ h4⟩, e⟩⟩
theorem TdX.lsts {H : Hp} {t : Addr} {mv : List Addr} {d : PyData} (h : TdX H t mv d) : ∀ b ∈ mv, ∃ xs, H b = some (.lst xs) := by
  obtain ⟨n, n0, n1, ⟨h, rfl, _⟩ | ⟨l, l1, l2, ⟨h1, h2, h3, h4⟩, rfl, _⟩⟩ := h
  · intro b hb; cases hb
  · intro b hb
    rcases List.mem_cons.mp hb with rfl | hb
    · exact ⟨_, h2⟩
    · rw [List.mem_singleton.mp hb]; exact ⟨_, h3⟩
theorem TdX.two {H H' : Hp} {t R w1 t1 : Addr} {xs ys : List V} {s : Str} {mv : List Addr} {d : PyData} (h : TdX H t mv d) (hR : H R = some (.lst (.ref t1 :: xs))) (ht : ∀ zs, H t1 ≠ some (.lst zs)) (hw : H w1 = some (.lst (.str s :: ys))) (k : ∀ b o, b ≠ R → b ≠ w1 → H b = some o → H' b = some o) : TdX H' t mv d := by
  have go : ∀ b o, H b = some o → o ≠ .lst (.ref t1 :: xs) → o ≠ .lst (.str s :: ys) → H' b = some o := fun b o e n1 n2 => k b o (fun z => by rw [z, hR] at e; exact n1 (Option.some.inj e).symm) (fun z => by rw [z, hw] at e; exact n2 (Option.some.inj e).symm) e
  obtain ⟨n, n0, n1, ⟨h, e⟩ | ⟨l, l1, l2, ⟨h1, h2, h3, h4⟩, e⟩⟩ := h
  · exact ⟨n, n0, n1, .inl ⟨go _ _ h (fun z => by cases z) (fun z => by cases z), e⟩⟩
  · refine ⟨n, n0, n1, .inr ⟨l, l1, l2, ⟨go _ _ h1 (fun z => by cases z) (fun z => by cases z), go _ _ h2 (fun z => ?_) (fun z => by cases z), go _ _ h3 (fun z => by cases z) (fun z => by cases z), go _ _ h4 (fun z => by cases z) (fun z => by cases z)⟩, e⟩⟩
    have e2 := V.ref.inj (List.cons.inj (HO.lst.inj z)).1
    rw [e2] at h3
    exact ht _ h3
def rowsD (x y : Str) : PyData := .list [.list [.str x, .str y], .list [.str x], .list [.str y, .str x]]
def ringD (x y : Str) (i j : Int) : PyData := .list [.tuple [.str x, .str y, .int i], .tuple [.str y, .str x, .int j]]
theorem if_go {r : R2} {ta tb : TE} {ts tn : TS} {u : TS} {D : Ends} {σ : L2.St} {H : Hp} (h : ta σ H fun x H1 => tb σ H1 fun y H2 => r x y H2 fun v H3 => ∃ c, v = .bl c ∧ if c = true then ts { D with nx := u D } σ H3 else tn { D with nx := u D } σ H3) : tSeq (tIfS (tTest (tOp r ta tb)) ts tn) u D σ H := h
theorem next_go {D : Ends} {σ : L2.St} {H : Hp} (h : D.nx σ H) : tNext D σ H := h
theorem asg_go {i : Nat} {x : V} {σ : L2.St} {H : Hp} {Q : L2.St → Hp → Prop} (h : Q (σ.set i (some x)) H) : gName i x σ H Q := h
/-! _law_fields_right -/
abbrev s_law_fields_right : Stmt := topS 30
theorem sc_law_fields_right : FnScope ["parts", "line", "code", "source", "change", "others", "due", "one", "row"] ["parts"] (defScope s_law_fields_right) := ⟨rfl, rfl, rfl, by decide +kernel, rfl, by decide +kernel, by decide +kernel⟩
def sp_fields (K : PySem.W.Frag) : Sp := fun vs H Q _ => ∃ (T : Addr) (H0 : Hp), vs = [.ref T] ∧ Prt H0 H T ∧ ∀ H', (∀ b o, H0 b ≠ none → H b = some o → H' b = some o) → Q (.bl true) H'
theorem ok_fields (F : Def K mg "_law_fields_right" ["parts"] s_law_fields_right) (M : MB mg) (m_ve : mg "ValueError" = none) (E : Errs K mg c cK) (X : Mks P w K mg base c) (c_law_kinds_of : Cl P w K mg base 1 "_law_kinds_of" (sp_kinds K c)) (c_law_same : Cl P w K mg base 5 "_law_same" (sp_law_same K 5)) (c_law_code_right : ClG P w K mg base 1 "_law_code_right" (sp_cright K (c 1))) : ClG P w K mg base 8 "_law_fields_right" (sp_fields K) := by
  refine F.clG sc_law_fields_right (fun vs H Q E h => ?_) (fun f cdv A outer s H vs Q E' hg hr h => ?_)
  · obtain ⟨T, H0, rfl, _⟩ := h
    rfl
  have nd := sc_law_fields_right.nd
  have m_isinstance := M.m_isinstance
  have m_list := M.m_list
  have m_ValueError := m_ve
  have g_KinError := E.gK
  have x_NoLine := X.x0
  have x_NoCode := X.x1
  have x_NoSource := X.x2
  have x_NoChange := X.x3
  have rg : (cxOf CX0 P w K mg base ["parts", "line", "code", "source", "change", "others", "due", "one", "row"] "_law_fields_right" (defScope s_law_fields_right) f cdv A outer s H E').nox.A.guards = some [] := hg
  refine ⟨_, (pss_cons (ps_set (i := 1) nd rfl (Or.inl rfl) (pe_exi x_NoLine hr (by decide) (by rfl) (pa_cons (pe_ix (ix_tupK K) (pv 0) pe_int (fun _ _ => rfl)) (pa_cons (pe_ix (ix_tupK K) (pv 0) pe_int (fun _ _ => rfl)) (pa_cons (pe_ix (ix_tupK K) (pv 0) pe_int (fun _ _ => rfl)) pa_nil)))))
    (pss_cons (ps_set (i := 2) nd rfl (Or.inl rfl) (pe_exi x_NoCode hr (by decide) (by rfl) (pa_cons (pe_ix (ix_tupK K) (pv 0) pe_int (fun _ _ => rfl)) pa_nil)))
    (pss_cons (ps_set (i := 3) nd rfl (Or.inl rfl) (pe_exi x_NoSource hr (by decide) (by rfl) (pa_cons (pe_ix (ix_tupK K) (pv 0) pe_int (fun _ _ => rfl)) pa_nil)))
    (pss_cons (ps_set (i := 4) nd rfl (Or.inl rfl) (pe_exi x_NoChange hr (by decide) (by rfl) (pa_cons (pe_op op_add (pe_ix (ix_tupK K) (pv 0) pe_int (fun _ _ => rfl)) pe_int) pa_nil)))
    (pss_cons (ps_set (i := 5) nd rfl (Or.inl rfl) (pe_lst (pa_cons (pe_exi x_NoLine hr (by decide) (by rfl) (pa_cons pe_str (pa_cons (pe_lst (pa_cons (pe_lst (pa_cons pe_str (pa_cons pe_str pa_nil))) pa_nil)) (pa_cons (pe_lst (pa_cons (pe_tup (pa_cons pe_str (pa_cons pe_str (pa_cons pe_int pa_nil)))) pa_nil)) pa_nil)))) (pa_cons (pe_exi x_NoCode hr (by decide) (by rfl) (pa_cons (pe_tup (pa_cons pe_str (pa_cons pe_int pa_nil))) pa_nil)) (pa_cons (pe_exi x_NoSource hr (by decide) (by rfl) (pa_cons pe_int pa_nil)) (pa_cons (pe_exi x_NoChange hr (by decide) (by rfl) (pa_cons pe_int pa_nil)) pa_nil))))))
    (pss_cons (ps_if (pt_cmpR (op_neK K hr.units) (pe_lc (own := [("one", 7)]) (g := gName 7) (tt := tYes) (by rfl) nd (pi_listK K (pe_lst (pa_cons (pv 1) (pa_cons (pv 2) (pa_cons (pv 3) (pa_cons (pv 4) pa_nil)))))) (blkOk_by (own := [("one", 7)]) (N := ["parts", "line", "code", "source", "change", "others", "due", "one", "row"]) (sc := defScope s_law_fields_right) (by decide +kernel)) (fun _ _ _ _ _ => (pg_name (i := 7) nd rfl (Or.inl rfl))) (fun _ _ _ _ _ => pts_nil) (fun _ _ _ _ _ => (pe_bmK K PySem.F.plainAttrs_list PySem.F.slot_list_index PySem.F.type_list_index (mt_indexK K) (pe_cl c_law_kinds_of hr (by decide) (by rfl) (pa_cons (pv 7) pa_nil)) (pa_cons pe_bl pa_nil)))) (pe_lst (pa_cons pe_int (pa_cons pe_int (pa_cons pe_int (pa_cons pe_int pa_nil))))) (by rfl)) (pss_one (ps_ret pe_bl)) pss_nil)
    (pss_cons (ps_if (pt_cmpR (op_neK K hr.units) (pe_lc (own := [("one", 7)]) (g := gName 7) (tt := tYes) (by rfl) nd (pi_listK K (pe_op op_cat (pe_lst (pa_cons (pv 1) (pa_cons (pv 2) (pa_cons (pv 3) (pa_cons (pv 4) pa_nil))))) (pv 5))) (blkOk_by (own := [("one", 7)]) (N := ["parts", "line", "code", "source", "change", "others", "due", "one", "row"]) (sc := defScope s_law_fields_right) (by decide +kernel)) (fun _ _ _ _ _ => (pg_name (i := 7) nd rfl (Or.inl rfl))) (fun _ _ _ _ _ => pts_nil) (fun _ _ _ _ _ => (pe_bmK K PySem.F.plainAttrs_list PySem.F.slot_list_count PySem.F.type_list_count (mt_bcount K) (pe_cl c_law_kinds_of hr (by decide) (by rfl) (pa_cons (pv 7) pa_nil)) (pa_cons pe_bl pa_nil)))) (pe_op op_rep (pe_lst (pa_cons pe_int pa_nil)) pe_int) (by rfl)) (pss_one (ps_ret pe_bl)) pss_nil)
    (pss_cons (ps_if (pt_cmpR (op_neK K hr.units) (pe_lc (own := [("one", 7)]) (g := gName 7) (by rfl) nd (pi_listK K (pv 5)) (blkOk_by (own := [("one", 7)]) (N := ["parts", "line", "code", "source", "change", "others", "due", "one", "row"]) (sc := defScope s_law_fields_right) (by decide +kernel)) (fun _ _ _ _ _ => (pg_name (i := 7) nd rfl (Or.inl rfl))) (fun _ _ _ _ _ => (pts_one (PW.pt (pw_or (pt_not (pt_val (pe_callB (call_isVK K) (by rfl) m_isinstance (by decide +kernel) (pa_cons (pv 7) (pa_cons (pe_glob (v := .ref _) (by rfl) g_KinError rfl) pa_nil))))) (pw_or1 (pt_not (pt_val (pe_callB (call_isVK K) (by rfl) m_isinstance (by decide +kernel) (pa_cons (pv 7) (pa_cons (pe_bltn (v := .ty "ValueError") (u := .type "ValueError") (by rfl) m_ValueError (by decide +kernel) rfl) pa_nil)))))))))) (fun _ _ _ _ _ => (pv 7))) (pe_lst pa_nil) (by rfl)) (pss_one (ps_ret pe_bl)) pss_nil)
    (pss_cons (ps_set (i := 6) nd rfl (Or.inl rfl) (pe_lst (pa_cons (pe_ix (ix_tupK K) (pv 0) pe_int (fun _ _ => rfl)) (pa_cons (pe_lc (own := [("row", 8)]) (g := gName 8) (tt := tYes) (by rfl) nd (pi_listK K (pe_ix (ix_tupK K) (pv 0) pe_int (fun _ _ => rfl))) (blkOk_by (own := [("row", 8)]) (N := ["parts", "line", "code", "source", "change", "others", "due", "one", "row"]) (sc := defScope s_law_fields_right) (by decide +kernel)) (fun _ _ _ _ _ => (pg_name (i := 8) nd rfl (Or.inl rfl))) (fun _ _ _ _ _ => pts_nil) (fun _ _ _ _ _ => (pe_callTy (call_listK K) (by rfl) m_list (by decide +kernel) (pa_cons (pv 8) pa_nil)))) (pa_cons (pe_callTy (call_listK K) (by rfl) m_list (by decide +kernel) (pa_cons (pe_ix (ix_tupK K) (pv 0) pe_int (fun _ _ => rfl)) pa_nil)) pa_nil)))))
    (pss_cons (ps_expr (pe_bmK K PySem.F.plainAttrs_list PySem.F.slot_list_append PySem.F.type_list_append mt_append (pe_ix (ix_tupK K) (pv 0) pe_int (fun _ _ => rfl)) (pa_cons (pe_tup (pa_cons pe_str (pa_cons pe_str (pa_cons pe_int pa_nil)))) pa_nil)))
    (pss_cons (ps_expr (pe_bmK K PySem.F.plainAttrs_list PySem.F.slot_list_append PySem.F.type_list_append mt_append (pe_ix (ix_listK K) (pe_ix (ix_tupK K) (pv 0) pe_int (fun _ _ => rfl)) pe_int (fun _ _ => rfl)) (pa_cons pe_str pa_nil)))
    (pss_cons (ps_if (PW.pt (pw_or (pt_not (pt_val (pe_cl c_law_same hr (by decide) (by rfl) (pa_cons (pe_exfK K (pv 2)) (pa_cons (pe_ix (ix_tupK K) (pv 0) pe_int (fun _ _ => rfl)) pa_nil))))) (pw_or1 (pt_not (pt_val (pe_clG c_law_code_right rg hr (by decide) (by rfl) (pa_cons (pv 2) (pa_cons (pe_ix (ix_tupK K) (pv 0) pe_int (fun _ _ => rfl)) pa_nil)))))))) (pss_one (ps_ret pe_bl)) pss_nil)
    (pss_cons (ps_if (pt_not (pt_val (pe_cl c_law_same hr (by decide) (by rfl) (pa_cons (pe_lst (pa_cons (pe_exfK K (pv 1)) (pa_cons (pe_exfK K (pv 1)) (pa_cons (pe_exfK K (pv 1)) pa_nil)))) (pa_cons (pv 6) pa_nil))))) (pss_one (ps_ret pe_bl)) pss_nil)
    (pss_one (ps_ret (pe_and (pe_cl c_law_same hr (by decide) (by rfl) (pa_cons (pe_exfK K (pv 3)) (pa_cons (pe_ix (ix_tupK K) (pv 0) pe_int (fun _ _ => rfl)) pa_nil))) (pe_one (pe_cl c_law_same hr (by decide) (by rfl) (pa_cons (pe_exfK K (pv 4)) (pa_cons (pe_op op_add (pe_ix (ix_tupK K) (pv 0) pe_int (fun _ _ => rfl)) pe_int) pa_nil)))))))))))))))))))), ?_⟩
  obtain ⟨T, H0, rfl, ⟨x, y, z, R, t1, t2, td, W, w1, w2, w3, i, j, n, ⟨nR, nw1⟩, hT, hR, ht1, ht2, htd, hn, hW, hw1, hw2, hw3, hz⟩, q⟩ := h
  obtain ⟨mv, d, hX, nmv⟩ := htd.x
  have nn : ∀ b : Addr, b ∉ ([] : List Addr) := fun b z => by cases z
  have dW : Da K [] H (.ref W) (rowsD x y) := .lst (nn _) hW (.cons (.lst (nn _) hw1 (.cons (.str _) (.cons (.str _) .nil))) (.cons (.lst (nn _) hw2 (.cons (.str _) .nil)) (.cons (.lst (nn _) hw3 (.cons (.str _) (.cons (.str _) .nil))) .nil)))
  have dR : Da K [] H (.ref R) (ringD x y i j) := .lst (nn _) hR (.cons (.tup (nn _) ht1 (.cons (.str _) (.cons (.str _) (.cons (.int _) .nil)))) (.cons (.tup (nn _) ht2 (.cons (.str _) (.cons (.str _) (.cons (.int _) .nil)))) .nil))
  obtain ⟨s1, s2, s3, s4, s5⟩ := hX.sh
  refine ⟨_, rfl, T, _, _, _, rfl, rfl, SqT.of hT, at_of (j := 0) rfl rfl, _, rfl, T, _, _, _, rfl, rfl, SqT.of hT, at_of (j := 4) rfl rfl, _, rfl, T, _, _, _, rfl, rfl, SqT.of hT, at_of (j := 1) rfl rfl, ?_⟩
  dsimp only [tNil]
  refine mk_line hz dW (by show 2 < 4; decide) (by show 3 ≤ 1000; decide) dR (by show 2 < 4; decide) (by show 3 ≤ 1000; decide) fun a1 x1 y1 y2 H1 s1 g1 g2 f1 f2 => ?_
  -- code, source, change
  obtain ⟨MV, eMV⟩ : ∃ MV, MV = R :: w1 :: mv := ⟨_, rfl⟩
  have lMV : ∀ b ∈ MV, ∃ xs, H b = some (.lst xs) := fun b hb => by
    rw [eMV] at hb
    rcases List.mem_cons.mp hb with rfl | hb
    · exact ⟨_, hR⟩
    rcases List.mem_cons.mp hb with rfl | hb
    · exact ⟨_, hw1⟩
    exact hX.lsts b hb
  have onMV : ∀ b ∈ MV, H b ≠ none := fun b hb e => by
    obtain ⟨xs, q⟩ := lMV b hb
    rw [q] at e
    cases e
  have offMV : ∀ {H' : Hp} {b : Addr} {o : HO}, Same H H' → H' b = some o → (∀ xs, o ≠ .lst xs) → b ∉ MV := fun {H' b o} s e ho z => by
    obtain ⟨xs, q⟩ := lMV b z
    rw [s _ _ q] at e
    exact ho xs (Option.some.inj e).symm
  have newMV : ∀ {H' : Hp} {b : Addr}, Same H H' → H' b = none → b ∉ MV := fun {H' b} s e z => by
    obtain ⟨xs, q⟩ := lMV b z
    rw [s _ _ q] at e
    cases e
  have Y1 := f1 MV onMV
  have Y2 := f2 MV onMV
  refine asg_go ?_
  refine ⟨_, rfl, T, _, _, _, rfl, rfl, SqT.of (s1 _ _ hT), at_of (j := 2) rfl rfl, ?_⟩
  dsimp only [tNil]
  refine mk_code (hX.same (fun b o _ e => s1 _ _ e) fun b _ o e => s1 _ _ e).da (by omega) s5 fun a2 x2 y3 H2 s2 g3 g4 f3 => ?_
  have Y3 := (f3.from s1) MV onMV
  have S2 := s1.trans s2
  refine asg_go ?_
  refine ⟨_, rfl, T, _, _, _, rfl, rfl, SqT.of (S2 _ _ hT), at_of (j := 3) rfl rfl, ?_⟩
  dsimp only [tNil]
  refine mk_int (n := n) (by omega) fun a3 x3 H3 s3 g5 g6 => ?_
  have S3 := S2.trans s3
  refine asg_go ?_
  refine ⟨_, rfl, T, _, _, _, rfl, rfl, SqT.of (S3 _ _ hT), at_of (j := 3) rfl rfl, _, _, rfl, rfl, ?_⟩
  dsimp only [tNil]
  refine mk_int (n := n + 1) (by omega) fun a4 x4 H4 s4 g7 g8 => ?_
  have S4 := S3.trans s4
  refine asg_go ?_
  -- others
  refine ⟨by show 2 ≤ sizeLine; decide, fun p1 np1 => ⟨by show 1 ≤ sizeLine; decide, fun p2 np2 => ⟨by show 3 ≤ sizeLine; decide, fun p3 np3 => ⟨by show 1 ≤ sizeLine; decide, fun p4 np4 => ?_⟩⟩⟩⟩
  dsimp only [tNil]
  have nb : ∀ b : Addr, b ∉ ([] : List Addr) := fun b z => by cases z
  refine mk_line (d1 := .list [.list [.str "a", .str "b"]]) (d2 := .list [.tuple [.str "a", .str "b", .int 0]]) (by decide +kernel) ?_ (by show 2 < 4; decide) (by show 2 ≤ 1000; decide) ?_ (by show 2 < 4; decide) (by show 3 ≤ 1000; decide) fun b0 _ _ _ H5 s5' o1 o2 _ _ => ?_
  · refine .lst (nb _) (((same_new np3).trans (same_new np4)) _ _ upd_same) (.cons (.lst (nb _) ((((same_new np2).trans (same_new np3)).trans (same_new np4)) _ _ upd_same) (.cons (.str _) (.cons (.str _) .nil))) .nil)
  · exact .lst (nb _) upd_same (.cons (.tup (nb _) (same_new np4 _ _ upd_same) (.cons (.str _) (.cons (.str _) (.cons (.int _) .nil)))) .nil)
  have S5 := S4.trans (((((same_new np1).trans (same_new np2)).trans (same_new np3)).trans (same_new np4)).trans s5')
  have S45 := ((((same_new np1).trans (same_new np2)).trans (same_new np3)).trans (same_new np4)).trans s5'
  refine ⟨by show 2 ≤ sizeLine; decide, fun p5 np5 => ?_⟩
  dsimp only [tNil]
  refine mk_code (d := badD 0) (.tup (nb _) upd_same (.cons (.str _) (.cons (.int _) .nil))) (by show 1 < 4; decide) (by show 2 ≤ 1000; decide) fun b1 _ _ H6 s6 o3 o4 _ => ?_
  refine mk_int (n := 0) (by decide) fun b2 _ H7 s7 o5 o6 => ?_
  refine mk_int (n := 0) (by decide) fun b3 _ H8 s8 o7 o8 => ?_
  refine ⟨by show 4 ≤ sizeLine; decide, fun lo nlo => ?_⟩
  refine asg_go ?_
  obtain ⟨H9, e9⟩ : ∃ H9, H9 = upd H8 lo (.lst [.ref b0, .ref b1, .ref b2, .ref b3]) := ⟨_, rfl⟩
  have s9 : Same H8 H9 := by rw [e9]; exact same_new nlo
  have hlo : H9 lo = some (.lst ([b0, b1, b2, b3].map V.ref)) := by rw [e9]; exact upd_same
  have T89 := s8.trans s9
  have T79 := s7.trans T89
  have T69 := ((same_new np5).trans s6).trans T79
  have T49 := S45.trans T69
  have S9 := S4.trans T49
  have A1 := (s2.trans s3).trans (s4.trans T49)
  have A2 := s3.trans (s4.trans T49)
  have ea : EAs c H9 [a1, a2, a3, a4] [0, 1, 2, 3] := eas_cons (.inr ⟨_, A1 _ _ g1, A1 _ _ g2⟩) (by decide) (eas_cons (.inr ⟨_, A2 _ _ g3, A2 _ _ g4⟩) (by decide) (eas_cons (.inr ⟨_, (s4.trans T49) _ _ g5, (s4.trans T49) _ _ g6⟩) (by decide) (eas_cons (.inr ⟨_, T49 _ _ g7, T49 _ _ g8⟩) (by decide) eas_nil)))
  have eb : EAs c H9 [b0, b1, b2, b3] [0, 1, 2, 3] := eas_cons (.inr ⟨_, T69 _ _ o1, T69 _ _ o2⟩) (by decide) (eas_cons (.inr ⟨_, T79 _ _ o3, T79 _ _ o4⟩) (by decide) (eas_cons (.inr ⟨_, T89 _ _ o5, T89 _ _ o6⟩) (by decide) (eas_cons (.inr ⟨_, s9 _ _ o7, s9 _ _ o8⟩) (by decide) eas_nil)))
  rw [← e9]
  clear e9
  refine if_go (σ := [some (.ref T), some (.ref a1), some (.ref a2), some (.ref a3), some (.ref a4), some (.ref lo), none, none, none]) ?_
  -- which kinds
  refine lc_ex (as := [a1, a2, a3, a4]) (is := [0, 1, 2, 3]) (r := nV) (fun _ => rfl) (fun _ => rfl) (fun Q' k => ⟨_, rfl, _, rfl, _, rfl, _, rfl, by show 4 ≤ sizeLine; decide, fun p np => k p _ (same_new np) upd_same⟩) ea (by show 4 ≤ 900; decide) body_idx fun D1 H10 s10 hD1 => ?_
  refine ⟨by show 4 ≤ sizeLine; decide, fun q1 nq1 => ⟨.list [.int 0, .int 1, .int 2, .int 3], .list [.int 0, .int 1, .int 2, .int 3], .lst (SqL.of (same_new nq1 _ _ hD1)) (dp_ints [0, 1, 2, 3]), .lst (SqL.of upd_same) (dp_ints [0, 1, 2, 3]), by decide, by decide, _, rfl, ?_⟩⟩
  refine no (by decide) ?_
  refine next_go ?_
  dsimp only
  -- each of one kind
  obtain ⟨HB, eB⟩ : ∃ HB, HB = upd H10 q1 (.lst [.int 0, .int 1, .int 2, .int 3]) := ⟨_, rfl⟩
  have sB : Same H9 HB := by rw [eB]; exact s10.trans (same_new nq1)
  rw [← eB]
  clear eB
  refine if_go (σ := [some (.ref T), some (.ref a1), some (.ref a2), some (.ref a3), some (.ref a4), some (.ref lo), none, none, none]) ?_
  refine lc_ex (as := [a1, a2, a3, a4, b0, b1, b2, b3]) (is := [0, 1, 2, 3, 0, 1, 2, 3]) (r := fun _ => .int 1) (fun _ => rfl) (fun _ => rfl) (fun Q' k => ⟨_, rfl, _, rfl, _, rfl, _, rfl, by show 4 ≤ sizeLine; decide, fun p np => ⟨_, rfl, p, lo, _, _, rfl, rfl, upd_same, same_new np _ _ (sB _ _ hlo), by show 4 + 4 ≤ sizeLine; decide, fun z nz => k z _ ((same_new np).trans (same_new nz)) upd_same⟩⟩) ((eas_app ea eb).same sB) (by show 8 ≤ 900; decide) body_cnt fun D2 HC sC hD2 => ?_
  refine ⟨by show 1 ≤ sizeLine; decide, fun r1 nr1 => ⟨r1, 8, _, rfl, rfl, upd_same, by decide, by decide, by show 8 ≤ sizeLine; decide, fun r2 nr2 => ?_⟩⟩
  refine ⟨.list ([1, 1, 1, 1, 1, 1, 1, 1].map PyData.int), .list ([1, 1, 1, 1, 1, 1, 1, 1].map PyData.int), .lst (SqL.of (((same_new nr1).trans (same_new nr2)) _ _ hD2)) (dp_ints [1, 1, 1, 1, 1, 1, 1, 1]), .lst (SqL.of upd_same) (dp_ints [1, 1, 1, 1, 1, 1, 1, 1]), by decide, by decide, _, rfl, ?_⟩
  refine no (by decide) ?_
  refine next_go ?_
  dsimp only
  have sCC := sC.trans ((same_new (o := .lst [.int 1]) nr1).trans (same_new (o := .lst (List.replicate (8 : Int).toNat [V.int 1]).flatten) nr2))
  obtain ⟨HE, eE⟩ : ∃ HE, HE = upd (upd HC r1 (.lst [.int 1])) r2 (.lst (List.replicate (8 : Int).toNat [V.int 1]).flatten) := ⟨_, rfl⟩
  have sE : Same H9 HE := by rw [eE]; exact sB.trans sCC
  try dsimp only
  show tSeq _ _ _ _ (upd (upd HC r1 (.lst [.int 1])) r2 (.lst (List.replicate (8 : Int).toNat [V.int 1]).flatten))
  rw [← eE]
  clear eE
  -- all of them refusals and ValueErrors
  refine if_go (σ := [some (.ref T), some (.ref a1), some (.ref a2), some (.ref a3), some (.ref a4), some (.ref lo), none, none, none]) ?_
  refine lc_exno (as := [b0, b1, b2, b3]) (is := [0, 1, 2, 3]) (fun _ => rfl) (fun _ => rfl) (fun Q' k => ⟨_, rfl, k lo _ (Same.refl _) (sE _ _ hlo)⟩) (eb.same sE) (body_is E) fun D3 HF sF hD3 => ?_
  refine ⟨by show 0 ≤ sizeLine; decide, fun z1 nz1 => ⟨.list [], .list [], .lst (SqL.of (same_new nz1 _ _ hD3)) .nil, .lst (SqL.of upd_same) .nil, by decide, by decide, _, rfl, ?_⟩⟩
  refine no (by decide) ?_
  refine next_go ?_
  dsimp only
  obtain ⟨HG, eG⟩ : ∃ HG, HG = upd HF z1 (.lst []) := ⟨_, rfl⟩
  have sG : Same H9 HG := by rw [eG]; exact sE.trans (sF.trans (same_new nz1))
  rw [← eG]
  clear eG
  have SG := S9.trans sG
  -- due
  refine ⟨_, rfl, T, _, _, _, rfl, rfl, SqT.of (SG _ _ hT), at_of (j := 0) rfl rfl, _, rfl, T, _, _, _, rfl, rfl, SqT.of (SG _ _ hT), at_of (j := 4) rfl rfl, W, rfl, ⟨_, SqL.of (SG _ _ hW)⟩, fun DD nD => lc_list (xs := [.ref w1, .ref w2, .ref w3]) (fun i H' => Cpy K HG DD [.list [.str x, .str y], .list [.str x], .list [.str y, .str x]] i H') (cpy0 nD) ?_ ?_ ?_⟩
  · rintro i' H' _ ⟨ys, sm, _⟩
    exact SqL.of (sm _ _ (SG _ _ hW))
  · rintro i' u H' hu ⟨ys, sm, hD, hy⟩
    refine ⟨rfl, ?_⟩
    have SH := SG.trans sm
    obtain ⟨b, zs, rfl, hb, ed⟩ : ∃ (b : Addr) (zs : List Str), u = .ref b ∧ H' b = some (.lst (zs.map V.str)) ∧ [PyData.list [.str x, .str y], .list [.str x], .list [.str y, .str x]][i']? = some (.list (zs.map PyData.str)) := by
      match i', hu with
      | 0, hu => exact ⟨w1, [x, y], (Option.some.inj hu).symm, SH _ _ hw1, rfl⟩
      | 1, hu => exact ⟨w2, [x], (Option.some.inj hu).symm, SH _ _ hw2, rfl⟩
      | 2, hu => exact ⟨w3, [y, x], (Option.some.inj hu).symm, SH _ _ hw3, rfl⟩
      | k + 3, hu => cases hu
    refine ⟨_, rfl, b, _, rfl, .inl (SqL.of hb), fun pn npn => ?_⟩
    have fr : Fr K H' (upd H' pn (.lst (zs.map V.str))) (.ref pn) (.list (zs.map PyData.str)) := fun rs hr => .lst (fun z => hr _ z npn) upd_same (da_strs zs)
    refine ⟨_, same_new npn _ _ hD, ?_, Cpy.step nD sm hD hy ed (same_new npn) fr⟩
    have hlen := DaAll.len (hy [] fun _ z => by cases z)
    rw [hlen, List.length_take]
    have : i' < 3 := (List.getElem?_eq_some_iff.mp hu).1
    exact small1000 (by omega)
  intro HH hc
  obtain ⟨ys, sH, hDD, frD⟩ := hc.list nD
  have SHH := SG.trans sH
  refine ⟨_, rfl, T, _, _, _, rfl, rfl, SqT.of (SHH _ _ hT), at_of (j := 1) rfl rfl, R, _, rfl, .inl (SqL.of (SHH _ _ hR)), fun rn nrn => ?_⟩
  dsimp only [tNil]
  refine ⟨by show 3 ≤ sizeLine; decide, fun pd npd => ?_⟩
  refine asg_go ?_
  have sJ := (same_new (o := .lst [.ref t1, .ref t2]) nrn).trans (same_new (o := .lst [.str z, .ref DD, .ref rn]) npd)
  obtain ⟨HJ, eJ⟩ : ∃ HJ, HJ = upd (upd HH rn (.lst [.ref t1, .ref t2])) pd (.lst [.str z, .ref DD, .ref rn]) := ⟨_, rfl⟩
  have sJJ : Same HH HJ := by rw [eJ]; exact sJ
  have hpd : HJ pd = some (.lst [.str z, .ref DD, .ref rn]) := by rw [eJ]; exact upd_same
  have hrn : HJ rn = some (.lst [.ref t1, .ref t2]) := by rw [eJ]; exact same_new npd _ _ upd_same
  have SJ := SHH.trans sJJ
  have rnMV : rn ∉ MV := newMV SHH nrn
  have pdMV : pd ∉ MV := newMV (SHH.trans (same_new nrn)) npd
  have offL : ∀ {b : Addr} {o : HO}, H b = some o → (∀ xs, o ≠ .lst xs) → b ∉ MV := fun e ho => offMV (Same.refl H) e ho
  have dRn : Da K MV HJ (.ref rn) (ringD x y i j) := .lst rnMV hrn (.cons (.tup (offL ht1 fun xs e => by cases e) (SJ _ _ ht1) (.cons (.str _) (.cons (.str _) (.cons (.int _) .nil)))) (.cons (.tup (offL ht2 fun xs e => by cases e) (SJ _ _ ht2) (.cons (.str _) (.cons (.str _) (.cons (.int _) .nil)))) .nil))
  have dDD : Da K MV HJ (.ref DD) (rowsD x y) := ((frD.from SG).same sJJ) MV onMV
  have dDue : Da K MV HJ (.ref pd) (.list [.str z, rowsD x y, ringD x y i j]) := .lst pdMV hpd (.cons (.str _) (.cons dDD (.cons dRn .nil)))
  try dsimp only
  show tSeq _ _ _ _ (upd (upd HH rn (.lst [.ref t1, .ref t2])) pd (.lst [.str z, .ref DD, .ref rn]))
  rw [← eJ]
  clear eJ
  -- what the exceptions hold, at HJ
  have G9 := sG.trans (sH.trans sJJ)
  have E1 := A1.trans G9
  have E2 := A2.trans G9
  have E3 := (s4.trans T49).trans G9
  have E4 := T49.trans G9
  have E0 := (s2.trans s3).trans ((s4.trans T49).trans G9)
  -- the parts are changed
  have hTJ := SJ _ _ hT
  have RW : R ≠ w1 := fun e => by rw [e, hw1] at hR; cases hR
  refine ⟨_, rfl, T, _, _, _, rfl, rfl, SqT.of hTJ, at_of (j := 1) rfl rfl, .inl ⟨rfl, _, SqL.of (SJ _ _ hR)⟩, by show 3 ≤ sizeLine; decide, fun tn ntn => ?_⟩
  refine ⟨R, _, _, rfl, rfl, same_new ntn _ _ (SJ _ _ hR), by show 2 < sizeLine; decide, ?_⟩
  obtain ⟨HL, eL⟩ : ∃ HL, HL = upd (upd HJ tn (.tup [.str "a", .str "b", .int 0])) R (.lst ([.ref t1, .ref t2] ++ [.ref tn])) := ⟨_, rfl⟩
  have kL : ∀ b o, b ≠ R → HJ b = some o → HL b = some o := fun b o hb e => by
    rw [eL, upd_ne hb]
    exact same_new ntn _ _ e
  try dsimp only
  show tSeq _ _ _ _ (upd (upd HJ tn (.tup [.str "a", .str "b", .int 0])) R (.lst ([.ref t1, .ref t2] ++ [.ref tn])))
  rw [← eL]
  clear eL
  have TR : T ≠ R := fun e => by rw [e, hR] at hT; cases hT
  have WR : W ≠ R := fun e => by
    rw [e, hR] at hW
    cases hW
  have hTL := kL _ _ TR hTJ
  have hWL := kL _ _ WR (SJ _ _ hW)
  have hwL := kL _ _ RW.symm (SJ _ _ hw1)
  refine ⟨_, rfl, T, _, _, _, rfl, rfl, SqT.of hTL, at_of (j := 4) rfl rfl, W, _, _, _, rfl, rfl, SqL.of hWL, at_of (j := 0) rfl rfl, .inl ⟨rfl, _, SqL.of hwL⟩, w1, _, _, rfl, rfl, hwL, by show 2 < sizeLine; decide, ?_⟩
  obtain ⟨HM, eM⟩ : ∃ HM, HM = upd HL w1 (.lst ([.str x, .str y] ++ [.str "a"])) := ⟨_, rfl⟩
  have kM : ∀ b o, b ≠ R → b ≠ w1 → HJ b = some o → HM b = some o := fun b o h1 h2 e => by
    rw [eM, upd_ne h2]
    exact kL b o h1 e
  try dsimp only
  show tSeq _ _ _ _ (upd HL w1 (.lst ([.str x, .str y] ++ [.str "a"])))
  rw [← eM]
  clear eM
  have kMV : ∀ b o, b ∉ MV → HJ b = some o → HM b = some o := fun b o hb e => kM b o (fun z => hb (by rw [eMV, z]; exact List.mem_cons_self)) (fun z => hb (by rw [eMV, z]; exact List.mem_cons_of_mem _ List.mem_cons_self)) e
  have hXM : TdX HM td mv d := (hX.same (fun b o _ e => SJ _ _ e) fun b _ o e => SJ _ _ e).two (SJ _ _ hR) (fun zs e => by rw [SJ _ _ ht1] at e; cases e) (SJ _ _ hw1) kM
  have sub : ∀ b ∈ mv, b ∈ MV := fun b hb => by rw [eMV]; exact List.mem_cons_of_mem _ (List.mem_cons_of_mem _ hb)
  have offT : T ∉ MV := offL hT fun xs e => by cases e
  have f1' : ∀ {H' : Hp} {b : Addr} {o : HO}, Same H H' → H' b = some o → (∀ xs, o ≠ .lst xs) → Same H' HJ → HM b = some o := fun s e ho sj => kMV _ _ (offMV s e ho) (sj _ _ e)
  have gA1 : HM a1 = some (exo a1 (c 0) (some x1)) := f1' s1 g1 (fun xs z => by have z' : HO.ext _ = HO.lst xs := z; cases z') E0
  have gX1 : HM x1 = some (exd x1 [("ring", y2), ("rows", y1), ("name", .str z)]) := f1' s1 g2 (fun xs z => by have z' : HO.ext _ = HO.lst xs := z; cases z') E0
  have gA2 : HM a2 = some (exo a2 (c 1) (some x2)) := f1' S2 g3 (fun xs z => by have z' : HO.ext _ = HO.lst xs := z; cases z') E2
  have gX2 : HM x2 = some (exd x2 [("told", y3)]) := f1' S2 g4 (fun xs z => by have z' : HO.ext _ = HO.lst xs := z; cases z') E2
  have gA3 : HM a3 = some (exo a3 (c 2) (some x3)) := f1' S3 g5 (fun xs z => by have z' : HO.ext _ = HO.lst xs := z; cases z') E3
  have gX3 : HM x3 = some (exd x3 [("place", .int n)]) := f1' S3 g6 (fun xs z => by have z' : HO.ext _ = HO.lst xs := z; cases z') E3
  have gA4 : HM a4 = some (exo a4 (c 3) (some x4)) := f1' S4 g7 (fun xs z => by have z' : HO.ext _ = HO.lst xs := z; cases z') E4
  have gX4 : HM x4 = some (exd x4 [("number", .int (n + 1))]) := f1' S4 g8 (fun xs z => by have z' : HO.ext _ = HO.lst xs := z; cases z') E4
  have oA1 : a1 ∉ MV := offMV s1 g1 fun xs z => by have z' : HO.ext _ = HO.lst xs := z; cases z'
  have oX1 : x1 ∉ MV := offMV s1 g2 fun xs z => by have z' : HO.ext _ = HO.lst xs := z; cases z'
  have oA3 : a3 ∉ MV := offMV S3 g5 fun xs z => by have z' : HO.ext _ = HO.lst xs := z; cases z'
  have oX3 : x3 ∉ MV := offMV S3 g6 fun xs z => by have z' : HO.ext _ = HO.lst xs := z; cases z'
  have oA4 : a4 ∉ MV := offMV S4 g7 fun xs z => by have z' : HO.ext _ = HO.lst xs := z; cases z'
  have oX4 : x4 ∉ MV := offMV S4 g8 fun xs z => by have z' : HO.ext _ = HO.lst xs := z; cases z'
  have hTM := kMV _ _ offT hTJ
  have Z1 : Da K MV HM (.ref pd) (.list [.str z, rowsD x y, ringD x y i j]) := dDue.mono kMV
  have W1 : Da K MV HM y1 (rowsD x y) := (Y1.mono fun b o _ e => E0 _ _ e).mono kMV
  have W2 : Da K MV HM y2 (ringD x y i j) := (Y2.mono fun b o _ e => E0 _ _ e).mono kMV
  have W3 : Da K MV HM y3 d := (Y3.mono fun b o _ e => E2 _ _ e).mono kMV
  refine ⟨_, rfl, a2, c 1, x2, _, y3, rfl, X.f 1 (by decide), X.n1, gA2, gX2, lk_here, _, rfl, T, _, _, _, rfl, rfl, SqT.of hTM, at_of (j := 2) rfl rfl, y3, .ref td, d, rfl, W3.dp, hXM.da.dp, by omega, s5, fun HN sN => ⟨true, rfl, ?_⟩⟩
  refine no (by decide) ?_
  refine ⟨_, rfl, _, rfl, T, _, _, _, rfl, rfl, SqT.of (sN _ _ hTM), at_of (j := 2) rfl rfl, a2, x2, td, y3, mv, d, rfl, hXM.same (fun b o _ e => sN _ _ e) (fun b _ o e => sN _ _ e), sN _ _ gA2, sN _ _ gX2, (W3.mono fun b o _ e => sN _ _ e).less sub, fun HP kP => ⟨true, rfl, ?_⟩⟩
  refine no (by decide) ?_
  refine next_go ?_
  dsimp only
  have kN : ∀ b o, b ∉ MV → HM b = some o → HP b = some o := fun b o hb e => kP b o (fun z => hb (sub b z)) (sN _ _ e)
  refine ⟨_, rfl, a1, c 0, x1, _, _, rfl, X.f 0 (by decide), X.n0.1, kN _ _ oA1 gA1, kN _ _ oX1 gX1, (lk_past (by decide +kernel)).trans ((lk_past (by decide +kernel)).trans lk_here), _, rfl, a1, c 0, x1, _, _, rfl, X.f 0 (by decide), X.n0.2.1, kN _ _ oA1 gA1, kN _ _ oX1 gX1, (lk_past (by decide +kernel)).trans lk_here, _, rfl, a1, c 0, x1, _, _, rfl, X.f 0 (by decide), X.n0.2.2, kN _ _ oA1 gA1, kN _ _ oX1 gX1, lk_here, by show 3 ≤ sizeLine; decide, fun un nun => ?_⟩
  have dU : Da K [] (upd HP un (.lst [.str z, y1, y2])) (.ref un) (.list [.str z, rowsD x y, ringD x y i j]) := by
    have v1 : Da K [] (upd HP un (.lst [.str z, y1, y2])) y1 (rowsD x y) := ((W1.mono kN).less (bv := []) (fun b hb => by cases hb)).mono fun b o _ e => same_new nun _ _ e
    have v2 : Da K [] (upd HP un (.lst [.str z, y1, y2])) y2 (ringD x y i j) := ((W2.mono kN).less (bv := []) (fun b hb => by cases hb)).mono fun b o _ e => same_new nun _ _ e
    exact .lst (nn _) upd_same (.cons (.str _) (.cons v1 (.cons v2 .nil)))
  refine ⟨_, rfl, .ref un, .ref pd, _, rfl, dU.dp, ((Z1.mono kN).mono fun b o _ e => same_new nun _ _ e).dp, by show 3 < 5; decide, by show 3 ≤ 1000; decide, fun HR sR => ⟨true, rfl, ?_⟩⟩
  refine no (by decide) ?_
  refine next_go ?_
  dsimp only
  have kR : ∀ b o, b ∉ MV → HM b = some o → HR b = some o := fun b o hb e => sR _ _ (same_new nun _ _ (kN b o hb e))
  have fin : ∀ H', (∀ b o, b ∉ MV → HM b = some o → H' b = some o) → Q (.bl true) H' := fun H' k => q H' fun b o h0 e => by
    have hb : b ∉ MV := fun z => by
      rw [eMV] at z
      rcases List.mem_cons.mp z with z | z
      · exact h0 (by rw [z]; exact nR)
      rcases List.mem_cons.mp z with z | z
      · exact h0 (by rw [z]; exact nw1)
      exact h0 (nmv b z)
    exact k b o hb (kMV b o hb (SJ _ _ e))
  refine ⟨_, rfl, a3, c 2, x3, _, _, rfl, X.f 2 (by decide), X.n2, kR _ _ oA3 gA3, kR _ _ oX3 gX3, lk_here, _, rfl, T, _, _, _, rfl, rfl, SqT.of (kR _ _ offT hTM), at_of (j := 3) rfl rfl, .int n, .int n, .int n, rfl, .int n, .int n, by show 0 < 5; decide, by show 0 ≤ 1000; decide, fun HS sS => ⟨true, rfl, ?_⟩⟩
  refine yes rfl ?_
  have kS : ∀ b o, b ∉ MV → HM b = some o → HS b = some o := fun b o hb e => sS _ _ (kR b o hb e)
  refine ⟨_, rfl, a4, c 3, x4, _, _, rfl, X.f 3 (by decide), X.n3, kS _ _ oA4 gA4, kS _ _ oX4 gX4, lk_here, _, rfl, T, _, _, _, rfl, rfl, SqT.of (kS _ _ offT hTM), at_of (j := 3) rfl rfl, _, _, rfl, rfl, .int (n + 1), .int (n + 1), .int (n + 1), rfl, .int (n + 1), .int (n + 1), by show 0 < 5; decide, by show 0 ≤ 1000; decide, fun HT sT => ?_⟩
  exact fin HT fun b o hb e => sT _ _ (kS b o hb e)
end
end Kin
namespace Kin
open PySem PySem.Spec PyProof.Rows L2 RZ
/-! law -/
abbrev s_law : Stmt := topS 31
theorem sc_law : FnScope ["script", "pot", "text", "some", "at", "one", "k"] ["script"] (defScope s_law) := ⟨rfl, rfl, rfl, by decide +kernel, rfl, by decide +kernel, by decide +kernel⟩
def sp_law (K : PySem.W.Frag) : Sp := fun vs H Q _ => ∃ (a : Addr) (ns : List Int), vs = [.ref a] ∧ SqL K H a (ns.map V.int) ∧ ns.length ≤ 63 ∧ ∀ H', Q (.bl true) H'
section
variable {P : Program} {w : World} {K : PySem.W.Frag} {mg : Str → Option Value} {base : Heap} {c : Nat → Addr} {cK : Addr}
/-- refusals made of the text in slot 2 -/
def mkT (c : Nat → Addr) : List Nat → TA
  | [] => tNil
  | j :: r => tCons (fun σ H Q => tVar 2 σ H fun _ H1 => ∀ a : Addr, H1 a = none → Q (V.ref a) (upd H1 a (ExO (Value.ref (c j)) a))) (mkT c r)
theorem mk_all {σ : L2.St} {v : V} (h2 : σ[2]? = some (some v)) : ∀ {js : List Nat} {H : Hp} {Q : List V → Hp → Prop} (hj : ∀ j ∈ js, j < 15) (k : ∀ as H', Same H H' → EAs c H' as js → Q (as.map V.ref) H'), mkT c js σ H Q
  | [], H, Q, _, k => k [] H (Same.refl H) eas_nil
  | j :: r, H, Q, hj, k => ⟨v, h2, fun a na => mk_all h2 (fun i hi => hj i (List.mem_cons_of_mem _ hi)) fun as H' s e => k (a :: as) H' ((same_new na).trans s) (eas_cons (fs := []) (.inl (s _ _ upd_same)) (hj j List.mem_cons_self) e)⟩
theorem som1 {σ : L2.St} {v : V} {u : TS} {D : Ends} {H : Hp} {js : List Nat} (h2 : σ[2]? = some (some v)) (hj : ∀ j ∈ js, j < 15) (hl : js.length ≤ 1000)
    (k : ∀ l as H', Same H H' → EAs c H' as js → H' l = some (.lst (as.map V.ref)) → u D (σ.set 3 (some (.ref l))) H') : tSeq (tAsg (tLst (mkT c js)) (gName 3)) u D σ H :=
  mk_all h2 hj fun as H' s e => ⟨by rw [List.length_map, e.1]; exact Nat.le_of_lt (small1000 hl), fun p np => k p as _ (s.trans (same_new np)) (e.same (same_new np)) upd_same⟩
theorem som2 {σ : L2.St} {v : V} {u : TS} {D : Ends} {H : Hp} {js : List Nat} {l : Addr} {xs : List Addr} (h2 : σ[2]? = some (some v)) (h3 : σ[3]? = some (some (.ref l))) (hL : H l = some (.lst (xs.map V.ref))) (hj : ∀ j ∈ js, j < 15) (hl : xs.length + js.length ≤ 1000)
    (k : ∀ l' as H', Same H H' → EAs c H' as js → H' l' = some (.lst ((xs ++ as).map V.ref)) → u D (σ.set 3 (some (.ref l'))) H') : tSeq (tAsg (tOp rCat (tVar 3) (tLst (mkT c js))) (gName 3)) u D σ H := by
  refine ⟨_, h3, ?_⟩
  refine mk_all h2 hj fun as H' s e => ⟨by rw [List.length_map, e.1]; exact Nat.le_of_lt (small1000 (by omega)), fun p np => ?_⟩
  refine ⟨l, p, _, _, rfl, rfl, same_new np _ _ (s _ _ hL), upd_same, ?_, fun z nz => ?_⟩
  · rw [List.length_map, List.length_map, e.1]
    exact Nat.le_of_lt (small1000 hl)
  · have s2 := s.trans ((same_new (o := .lst (as.map V.ref)) np).trans (same_new (o := .lst (xs.map V.ref ++ as.map V.ref)) nz))
    refine k z as _ s2 (e.same ((same_new np).trans (same_new nz))) ?_
    rw [upd_same, List.map_append]
theorem knd_eqv : ∀ k : Fin 15, PyData.eqv (.list ((kndL k.val).map PyData.bool)) (.list ((kndL k.val).map PyData.bool)) = true ∧ SeqAt.shaped (.list ((kndL k.val).map PyData.bool)) = true := by decide +kernel
theorem da_kb {av : List Addr} {H : Hp} (bs : List Bool) : DaAll K av H (bs.map V.bl) (bs.map PyData.bool) := da_bools bs
theorem knd_is (i : Nat) : (List.range 15).map (fun m : Nat => decide (V.int (0 + (m : Int)) = V.int ((i : Int) + 4))) = kndL (i + 4) := by
  unfold kndL
  refine List.map_congr_left fun m _ => ?_
  rw [Bool.eq_iff_iff, decide_eq_true_iff, decide_eq_true_iff]
  constructor
  · intro e
    have := V.int.inj e
    omega
  · intro e
    congr 1
    omega
theorem ok_law {f : Addr} {fd : FuncData} (F : Fun K "law" "law" s_law f fd) (M : MB mg) (m_ve : mg "ValueError" = none) (E : Errs K mg c cK) (XS : ∀ i, 4 ≤ i → i < 15 → ExS K mg (errNames.getD i "") (c i)) (c_law_pot : Cl P w K mg base 1 "_law_pot" (sp_law_pot K)) (c_law_text : Cl P w K mg base 3 "_law_text" sp_ltext) (c_law_kinds_of : Cl P w K mg base 1 "_law_kinds_of" (sp_kinds K c)) (c_law_parts : Cl P w K mg base 5 "_law_parts" sp_parts) (c_law_fields_right : ClG P w K mg base 8 "_law_fields_right" (sp_fields K)) :
    FnG P w K mg base 9 f fd ["script"] (sp_law K) := by
  refine fnG_of F sc_law (fun vs H Q E h => ?_) (fun cdv A outer s H vs Q E' hg hr h => ?_)
  · obtain ⟨a, ns, rfl, _⟩ := h
    rfl
  obtain ⟨a, ns, rfl, hS, hl, q⟩ := h
  have nd := sc_law.nd
  have m_len := M.m_len
  have m_range := M.m_range
  have m_enumerate := M.m_enumerate
  have m_isinstance := M.m_isinstance
  have m_ValueError := m_ve
  have g_KinError := E.gK
  have x_NoName : ExS K mg "NoName" (c 4) := XS 4 (by decide) (by decide)
  have x_NoKind : ExS K mg "NoKind" (c 5) := XS 5 (by decide) (by decide)
  have x_NoThing : ExS K mg "NoThing" (c 6) := XS 6 (by decide) (by decide)
  have x_NoDeed : ExS K mg "NoDeed" (c 7) := XS 7 (by decide) (by decide)
  have x_NoWord : ExS K mg "NoWord" (c 8) := XS 8 (by decide) (by decide)
  have x_NoWorth : ExS K mg "NoWorth" (c 9) := XS 9 (by decide) (by decide)
  have x_NoSteps : ExS K mg "NoSteps" (c 10) := XS 10 (by decide) (by decide)
  have x_Round : ExS K mg "Round" (c 11) := XS 11 (by decide) (by decide)
  have x_Full : ExS K mg "Full" (c 12) := XS 12 (by decide) (by decide)
  have x_TooBig : ExS K mg "TooBig" (c 13) := XS 13 (by decide) (by decide)
  have x_NoPaper : ExS K mg "NoPaper" (c 14) := XS 14 (by decide) (by decide)
  have rg : (cxOf CX0 P w K mg base ["script", "pot", "text", "some", "at", "one", "k"] "law" (defScope s_law) f cdv A outer s H E').nox.A.guards = some [] := hg
  refine ⟨_, (pss_cons (ps_set (i := 1) nd rfl (Or.inl rfl) (pe_cl c_law_pot hr (by decide) (by rfl) (pa_cons (pv 0) pa_nil)))
    (pss_cons (ps_set (i := 2) nd rfl (Or.inl rfl) (pe_cl c_law_text hr (by decide) (by rfl) (pa_cons (pv 1) (pa_cons pe_int pa_nil))))
    (pss_cons (ps_set (i := 3) nd rfl (Or.inl rfl) (pe_lst (pa_cons (pe_exs x_NoName (by rfl) (pv 2)) (pa_cons (pe_exs x_NoKind (by rfl) (pv 2)) (pa_cons (pe_exs x_NoThing (by rfl) (pv 2)) (pa_cons (pe_exs x_NoDeed (by rfl) (pv 2)) (pa_cons (pe_exs x_NoWord (by rfl) (pv 2)) (pa_cons (pe_exs x_NoWorth (by rfl) (pv 2)) (pa_cons (pe_exs x_NoSteps (by rfl) (pv 2)) pa_nil)))))))))
    (pss_cons (ps_set (i := 3) nd rfl (Or.inl rfl) (pe_op op_cat (pv 3) (pe_lst (pa_cons (pe_exs x_Round (by rfl) (pv 2)) (pa_cons (pe_exs x_Full (by rfl) (pv 2)) (pa_cons (pe_exs x_TooBig (by rfl) (pv 2)) (pa_cons (pe_exs x_NoPaper (by rfl) (pv 2)) pa_nil)))))))
    (pss_cons (ps_for PassesOwn.never rfl (pi_enumK K (by rfl) m_enumerate (pa_cons (pv 3) pa_nil)) (pg_tupK K 2 rfl (pgs_cons (pg_name (i := 4) nd rfl (Or.inr rfl)) (pgs_cons (pg_name (i := 5) nd rfl (Or.inl rfl)) pgs_nil))) (pss_cons (ps_if (pt_cmpR (op_neK K hr.units) (pe_cl c_law_kinds_of hr (by decide) (by rfl) (pa_cons (pv 5) pa_nil)) (pe_lc (own := [("k", 6)]) (g := gName 6) (tt := tYes) (by rfl) nd (pi_range1 (by rfl) m_range (pa_cons pe_int pa_nil)) (blkOk_by (own := [("k", 6)]) (N := ["script", "pot", "text", "some", "at", "one", "k"]) (sc := defScope s_law) (by decide +kernel)) (fun _ _ _ _ _ => (pg_name (i := 6) nd rfl (Or.inl rfl))) (fun _ _ _ _ _ => pts_nil) (fun _ _ _ _ _ => (pe_cmpR op_eq (pv 6) (pe_op op_add (pv 4) pe_int) (by rfl)))) (by rfl)) (pss_one (ps_ret pe_bl)) pss_nil)
    (pss_one (ps_if (PW.pt (pw_or (pt_not (pt_val (pe_callB (call_isVK K) (by rfl) m_isinstance (by decide +kernel) (pa_cons (pv 5) (pa_cons (pe_glob (v := .ref _) (by rfl) g_KinError rfl) pa_nil))))) (pw_or1 (pt_not (pt_val (pe_callB (call_isVK K) (by rfl) m_isinstance (by decide +kernel) (pa_cons (pv 5) (pa_cons (pe_bltn (v := .ty "ValueError") (u := .type "ValueError") (by rfl) m_ValueError (by decide +kernel) rfl) pa_nil)))))))) (pss_one (ps_ret pe_bl)) pss_nil))))
    (pss_one (ps_ret (pe_and (pe_clG c_law_fields_right rg hr (by decide) (by rfl) (pa_cons (pe_cl c_law_parts hr (by decide) (by rfl) (pa_cons (pv 1) pa_nil)) pa_nil)) (pe_one (pe_clG c_law_fields_right rg hr (by decide) (by rfl) (pa_cons (pe_cl c_law_parts hr (by decide) (by rfl) (pa_cons (pv 1) pa_nil)) pa_nil))))))))))), ?_⟩
  refine ⟨_, rfl, a, ns, rfl, hS, hl, fun p cc ms H1 s1 np nc hpot => ?_⟩
  refine asg_go ?_
  refine ⟨_, rfl, p, cc, ms, 12, rfl, hpot, by decide, fun text H2 G2 htx => ?_⟩
  refine asg_go ?_
  refine som1 (σ := [some (.ref a), some (.ref p), some (.str text), none, none, none, none]) (c := c) (js := [4, 5, 6, 7, 8, 9, 10]) rfl (by decide) (by decide) fun l1 as H3 s3 e3 hl1 => ?_
  refine som2 (σ := [some (.ref a), some (.ref p), some (.str text), some (.ref l1), none, none, none]) (c := c) (js := [11, 12, 13, 14]) rfl rfl hl1 (by decide) (by rw [e3.1]; decide) fun l2 bs H4 s4 e4 hl2 => ?_
  have ea : EAs c H4 (as ++ bs) [4, 5, 6, 7, 8, 9, 10, 11, 12, 13, 14] := eas_app (e3.same s4) e4
  have hp4 := G2.pot.same (s3.trans s4)
  generalize as ++ bs = cs at ea hl2
  have elen : cs.length = 11 := ea.1
  have kat : ∀ (i k : Nat), [4, 5, 6, 7, 8, 9, 10, 11, 12, 13, 14][i]? = some k → k = i + 4 ∧ i < 11 := fun i k e => by
    have e2 : ((List.range 11).map (· + 4))[i]? = some k := e
    rw [List.getElem?_map] at e2
    by_cases hi : i < 11
    · rw [List.getElem?_range hi] at e2
      exact ⟨(Option.some.inj e2).symm, hi⟩
    · rw [List.getElem?_eq_none (by rw [List.length_range]; omega)] at e2
      cases e2
  refine ⟨_, rfl, l2, _, rfl, SqL.of hl2, for_enum (xs := cs.map V.ref) (fun i σ H' => ∃ (y4 y5 : Option V), σ = [some (.ref a), some (.ref p), some (.str text), some (.ref l2), y4, y5, none] ∧ Same H4 H') ?_ ?_ ?_ ?_⟩
  · exact ⟨none, none, rfl, Same.refl H4⟩
  · rintro i σ H' _ ⟨y4, y5, rfl, sm⟩
    exact SqL.of (sm _ _ hl2)
  · rintro i x σ H' T hx ⟨y4, y5, rfl, sm⟩ nT
    obtain ⟨b, hb, rfl⟩ : ∃ b, cs[i]? = some b ∧ x = .ref b := by
      rw [List.getElem?_map] at hx
      cases e : cs[i]? with
      | none => rw [e] at hx; cases hx
      | some z => rw [e] at hx; exact ⟨z, rfl, (Option.some.inj hx).symm⟩
    obtain ⟨k, fs, ek, hk, eb⟩ := ea.2 i b hb
    obtain ⟨rfl, hi⟩ := kat i k ek
    have sT := sm.trans (same_new (o := .tup [.int (i : Nat), .ref b]) nT)
    refine ⟨T, _, rfl, SqT.of upd_same, rfl, _, _, rfl, _, _, rfl, rfl, ?_⟩
    refine if_go (σ := [some (.ref a), some (.ref p), some (.str text), some (.ref l2), some (.int (i : Nat)), some (.ref b), none]) ?_
    refine ⟨_, rfl, b, i + 4, fs, rfl, hk, eb.same sT, fun kl H5 s5 n5 hkl => ?_⟩
    refine ⟨15, rfl, by decide, by decide, fun D nD => lc_range (lo := 0) (n := 15) (fun j H6 => Same H5 H6 ∧ H6 D = some (.lst (((List.range j).map fun m : Nat => decide (V.int (0 + (m : Int)) = V.int ((i : Int) + 4))).map V.bl))) ?_ ?_ ?_⟩
    · exact ⟨same_new nD, upd_same⟩
    · rintro j H6 hj ⟨s6, hD⟩
      refine ⟨rfl, ?_⟩
      refine ⟨_, rfl, _, rfl, _, _, rfl, rfl, rfl, ?_⟩
      refine ⟨_, hD, ?_, same_mut s6 nD, ?_⟩
      · rw [List.length_map, List.length_map, List.length_range]
        exact small1000 (by omega)
      · rw [upd_same, List.range_succ, List.map_append, List.map_append]
        rfl
    · rintro H6 ⟨s6, hD⟩
      rw [knd_is] at hD
      have q1 := knd_eqv ⟨i + 4, hk⟩
      refine ⟨.list ((kndL (i + 4)).map PyData.bool), .list ((kndL (i + 4)).map PyData.bool), .lst (SqL.of (s6 _ _ hkl)) (DaAll.dp (da_kb (av := []) _)), .lst (SqL.of hD) (DaAll.dp (da_kb (av := []) _)), q1.2, q1.2, _, rfl, ?_⟩
      refine no (by rw [show PyData.eqv (.list ((kndL (i + 4)).map PyData.bool)) (.list ((kndL (i + 4)).map PyData.bool)) = true from q1.1]; decide) ?_
      refine next_go ?_
      dsimp only
      have s46 := sT.trans (s5.trans s6)
      refine ⟨_, rfl, ?_⟩
      dsimp only [tCons, tC, tNil]
      refine E.isk hk (eb.same s46) ?_
      refine ⟨true, rfl, ?_⟩
      refine no (by decide) ?_
      refine ⟨_, rfl, ?_⟩
      dsimp only [tCons, tC, tNil]
      refine E.isve hk (eb.same s46) ?_
      refine ⟨true, rfl, ?_⟩
      refine no (by decide) ?_
      exact ⟨_, _, rfl, s46⟩
  · rintro σ H' ⟨y4, y5, rfl, sm⟩
    have hp5 := hp4.same sm
    refine ⟨_, rfl, p, cc, ms, rfl, hp5, fun T HT G prt => ⟨T, _, rfl, prt, fun H6 k6 => ⟨true, rfl, ?_⟩⟩⟩
    refine yes rfl ?_
    have hp6 : Pot H6 p cc ms := by
      obtain ⟨a5, r5, z5⟩ := hp5
      obtain ⟨a6, r6, z6⟩ := G.pot
      exact ⟨a6, r6, k6 _ _ (by rw [z5.hp]; exact fun z => by cases z) z6.hp, k6 _ _ (by rw [z5.hc]; exact fun z => by cases z) z6.hc, z6.ha, z6.hr⟩
    exact ⟨_, rfl, p, cc, ms, rfl, hp6, fun T2 HT2 G2 prt2 => ⟨T2, _, rfl, prt2, fun H7 _ => q H7⟩⟩
end
end Kin
/-! a law's end, its def kept where no repr is under way -/
namespace Kin
open PySem PySem.Spec PyProof.Rows L2 RZ
section
variable {P : Program} {w : World} {K : PySem.W.Frag} {mg mb : Str → Option Value} {k : Nat} {fa a : Addr} {fd : FuncData} {x : Str} {sp : Sp} {s : Shared} {vs : List Value} {ns : List Int}
/-- what a law's call tells: True, and all as it stood -/
def Told (s : Shared) (r : Result) (s' : Shared) : Prop := r = .ok (.ret (.bool true)) ∧ OldK s.heap s'.heap ∧ s'.os = s.os ∧ AllBare s'.gens
theorem noneH {H : Hp} {b c : Addr} (only : ∀ b, H b ≠ none → b = c) (n : b ≠ c) : H b = none := by
  by_cases e : H b = none
  · exact e
  · exact absurd (only b e) n
/-- from an abstract heap that tracks the script alone, or nothing -/
theorem toldH (KX : K.In s.heap) (g : s.heap.Ns mainGlobals mg) (b : s.heap.Ns builtinsNs mb) (boot : ∀ x : Str, x ≠ "__name__" → mb x = bootBuiltins x) (lim : s.heap.NoLimit) (gens : s.gens = #[])
    (ha : s.heap.get? a = some { cls := .type "list", data := .seq vs.toArray }) (rv : Vals (ns.map V.int) vs) (room : Room k callerA)
    (F : ∀ base : Heap, K.In base → base.Ns mainGlobals mg → FnG P w K mg base k fa fd [x] sp) (bd : ∀ (s : Shared) (u : Value), BindsTo s fd ⟨[u], []⟩ [(x, u)])
    (H : Hp) (only : ∀ b, H b ≠ none → b = a) (off : H a ≠ none → K.lookup a = none) (frz : H a = none ∨ ∃ o xs, H a = some (.frz o (.lst xs))) (hk : HOk P w H s.heap)
    (want : sp [.ref a] H (fun v _ => v = .bl true) fun _ _ _ => False) :
    codeAny (model P w) callerA (.call (.ref fa) ⟨[.ref a], []⟩) (Told s) s := by
  have lays : ∀ {c : Addr} {o : Obj} {es : Array DictEntry} {ep : Nat}, s.heap.get? c = some o → o.data = .dict es ep → H c = none := fun {c o es ep} h d => by
    refine noneH only fun e => ?_
    rw [e, ha] at h
    rw [← Option.some.inj h] at d
    exact Data.noConfusion d
  have spaces : ∀ {c : Addr} {m : Str → Option Value}, s.heap.Ns c m → (hidT s.heap H).Ns c m := fun {c m} z => by
    obtain ⟨o, es, ep, h, d, r⟩ := z
    exact ⟨o, es, ep, hidT_get h (lays h d), d, r⟩
  have written : K.In (hidT s.heap H) := fun c o h => by
    refine hidT_get (KX c o h) ?_
    by_cases n : H c = none
    · exact n
    · have e := only c n
      subst e
      rw [off n] at h
      exact nomatch h
  obtain ⟨mc, c1, c2⟩ := lim
  have md : Mod K mg (hidT s.heap H) := ⟨written, spaces g, ⟨mb, spaces b, boot⟩, ⟨mc, spaces c1, c2⟩⟩
  have e0 : Env0 P w K mg (hidT s.heap H) callerA [] s H := {
    frames := rfl
    mod := md
    bs := fun _ _ h => of_hidT h
    bsz := Nat.le_of_eq (hidT_size _ _)
    funs := trivial
    frf := fun _ h => nomatch h
    hok := hk
    bare := .of_eq gens }
  have run := (F _ written (spaces g)).go callerA [] s H ⟨[.ref a], []⟩
    [.ref a] [.ref a] _ _ rfl room e0 (bd s (.ref a)) (.cons rfl .nil) want
  refine codeAny_mono run fun r s' z => ?_
  match r, z with
  | .error _, z => exact z.elim
  | .ok (.ret u), z =>
    obtain ⟨v, H', os, bare, un, hok', r', q⟩ := z
    rw [show v = .bl true from q] at r'
    rw [show u = Value.bool true from r']
    refine ⟨rfl, OldK.of_keep fun c o h => ?_, os, bare⟩
    by_cases n : H c = none
    · exact un.keep c o h n (fun m => nomatch m) (by simp)
    · have e := only c n
      subst e
      rcases frz with z | ⟨ob, xs, z⟩
      · exact absurd z n
      · have e1 := (hk c _ z).1
        have e2 := (hok' c _ (un.frzs c ob _ z)).1
        rw [e1] at h
        rw [← h]
        exact e2
/-- the same from the script as it lies -/
theorem toldG (KX : K.In s.heap) (g : s.heap.Ns mainGlobals mg) (b : s.heap.Ns builtinsNs mb) (boot : ∀ x : Str, x ≠ "__name__" → mb x = bootBuiltins x) (lim : s.heap.NoLimit) (gens : s.gens = #[])
    (ha : s.heap.get? a = some { cls := .type "list", data := .seq vs.toArray }) (is : IntsAre vs ns) (few : ns.length ≤ sizeLine) (room : Room k callerA)
    (F : ∀ base : Heap, K.In base → base.Ns mainGlobals mg → FnG P w K mg base k fa fd [x] sp) (bd : ∀ (s : Shared) (u : Value), BindsTo s fd ⟨[u], []⟩ [(x, u)])
    (want : ∀ H : Hp, SqL K H a (ns.map V.int) → sp [.ref a] H (fun v _ => v = .bl true) fun _ _ _ => False) :
    codeAny (model P w) callerA (.call (.ref fa) ⟨[.ref a], []⟩) (Told s) s := by
  have rv := vals_ints is
  cases lk : K.lookup a with
  | some o =>
    have e := KX a o lk
    rw [ha] at e
    rw [← Option.some.inj e] at lk
    refine toldH KX g b boot lim gens ha rv room F bd (fun _ => none) (fun c n => absurd rfl n)
      (fun n => absurd rfl n) (.inl rfl) (fun c u z => nomatch z)
      (want _ (.inr ⟨_, vs.toArray, _, lk, rfl, rfl, rfl, ?_, rv⟩))
    rw [List.size_toArray, is.length]
    exact few
  | none =>
    have big : (ns.map V.int).length ≤ sizeLine := by rw [List.length_map]; exact few
    refine toldH KX g b boot lim gens ha rv room F bd
      (upd (fun _ => none) a (.frz { cls := .type "list", data := .seq vs.toArray } (.lst (ns.map V.int))))
      (fun c n => ?_) (fun _ => lk) (.inr ⟨_, _, upd_same⟩) (fun c u z => ?_)
      (want _ (.inl (.inr ⟨_, upd_same⟩)))
    · by_cases e : c = a
      · exact e
      · rw [upd_ne e] at n
        exact absurd rfl n
    · by_cases e : c = a
      · subst e
        rw [upd_same] at z
        rw [← Option.some.inj z]
        exact ⟨ha, big, vs, _, rv, ha⟩
      · rw [upd_ne e] at z
        exact nomatch z
end
/-- the goal that k_head leaves -/
theorem walk_ofG {l : PySem.W.OpenLaw} {n k : Nat} {q : Program} {loose : List Str} {XP : (Str → Option Value) → Heap → Prop} {YP : World → Heap → Prop} {d : DefRec} {K : Params → PySem.W.Frag} {sp : World → Sp} {x : Str}
    (hn : l.most = some n) (hn2 : n ≤ sizeLine) (hdf : d.params.defaults = []) (room : Room k callerA)
    (hY : ∀ (w : World) (h : Heap), YP w h → (K w.params).In h)
    (F : ∀ (w : World) (mg : Str → Option Value) (fa : Addr) (h : Heap), (K w.params).In h → h.Ns mainGlobals mg → mg d.name = some (.ref fa) →
      ∃ fd : FuncData, (∀ (s : Shared) (u : Value), BindsTo s fd ⟨[u], []⟩ [(x, u)]) ∧
        ∀ base : Heap, (K w.params).In base → base.Ns mainGlobals mg → FnG l.prog w (K w.params) mg base k fa fd [x] (sp w))
    (want : ∀ (w : World) (H : Hp) (a : Addr) (ns : List Int), ns.length ≤ n → SqL (K w.params) H a (ns.map V.int) → sp w [.ref a] H (fun v _ => v = .bl true) fun _ _ _ => False) :
    PySem.W.WalkO q loose XP YP l.row.toRowW d [] (fun f vs => PySem.call f vs) :=
  Att.attach_call hn hdf fun w s₀ s₁ mg mb fa o pm cd doc a vs ns G Y ho hd hcd hmg hobj is few gens => by
    obtain ⟨fd, bd, go⟩ := F w mg fa _ (hY w _ Y) G.T.g hmg
    exact toldG (hY w _ Y) G.T.g G.T.b G.T.builtins G.T.nolimit gens hobj is (Nat.le_trans few hn2) room go bd fun H hS => want w H a ns few hS
end Kin
namespace Kin
open PySem PySem.Spec PyProof.Rows L2 RZ
def eqv3 (a b : Option (Option Value)) : Bool := decide (a = b)
def excCB (K : PySem.W.Frag) (D : Addr) : Bool := decide (PySem.W.findIn K (.ref D) "__getattribute__" = some (some (.builtin "BaseException.__getattribute__"))) && (decide (PySem.W.findIn K (.ref D) "__getattr__" = some none) && (decide (PySem.W.subIn K (.ref D) (.type "BaseException") = some true) && (PySem.W.hasDictIn K D && (decide (PySem.W.findIn K (.ref D) "__class__" = some (some (.builtin "object.__class__"))) && (decide (PySem.W.specialIn K (.builtin "object.__class__") "__get__" = some (some (.builtin "getset_descriptor.__get__"))) && (decide (PySem.W.takesIn K (.builtin "object.__class__") = some true) && decide (PySem.W.mroIn K D (.type "object") = some true)))))))
theorem excCB_ok {K : PySem.W.Frag} {D : Addr} (h : excCB K D = true) : ExcC K D := by
  unfold excCB at h
  simp only [Bool.and_eq_true, decide_eq_true_eq] at h
  exact ⟨h.1, h.2.1, h.2.2.1, h.2.2.2.1, h.2.2.2.2.1, h.2.2.2.2.2.1, h.2.2.2.2.2.2.1, h.2.2.2.2.2.2.2⟩
/-- the four with an __init__ -/
def ownB (K : PySem.W.Frag) (C : Addr) : Bool := xfB K C && (decide (PySem.W.findIn K (.ref C) "__setattr__" = some (some (.builtin "object.__setattr__"))) && (decide (PySem.W.subIn K (.ref C) (.type "BaseException") = some true) && (decide (PySem.W.typeIn K (.ref C) = some (.type "type")) && (PySem.W.keepIn K (.ref C) && (decide (PySem.W.mroIn K C (.ref C) = some true) && (decide (PySem.W.ks_superIn K C C "__init__" = some (some (.builtin "ValueError.__init__"))) && (decide (PySem.W.subIn K (.ref C) (.type "ValueError") = some true) && decide (PySem.W.nsIn K cStatics "thirdparty.any" = some none))))))))
def noB (K : PySem.W.Frag) (C : Addr) (f : Str) : Bool := decide (PySem.W.findIn K (.ref C) f = some none)
def plainB (K : PySem.W.Frag) (C : Addr) : Bool := PySem.W.excIn K C [.type "ValueError", .type "Exception", .type "BaseException", .type "object"] "ValueError.__new__" && PySem.W.keepIn K (.ref C)
def allB (K : PySem.W.Frag) (cs : List Addr) (cK : Addr) : Bool :=
  (decide (cs.length = 15) && (cs.all fun C => excCB K C && (decide (PySem.W.kitOne K (.ref C) (.ref cK) = some true) && (decide (PySem.W.kitOne K (.ref C) (.type "ValueError") = some true)))))
  && ((List.range 15).all fun i => (List.range 15).all fun j => decide (PySem.W.kitOne K (.ref (cs.getD i 0)) (.ref (cs.getD j 0)) = some (decide (i = j))))
  && (((cs.take 4).all fun C => ownB K C) && (((cs.drop 4).all fun C => plainB K C)
  && (noB K (cs.getD 0 0) "name" && (noB K (cs.getD 0 0) "rows" && (noB K (cs.getD 0 0) "ring" && (noB K (cs.getD 1 0) "told" && (noB K (cs.getD 2 0) "place" && noB K (cs.getD 3 0) "number")))))))
structure IniS (P : Program) (K : PySem.W.Frag) (qual : Str) (st : Stmt) (C : Addr) : Prop where
  cls : ∃ nm q N bs bm sn sub ab col dd k0 k1 k2 k3 k5, K.lookup C = some (excClassObj nm q C N bs bm true sn sub ab col dd k0 k1 k2 k3 k5 "ValueError.__new__") ∧ PySem.HandSPX.refsVE bm = true
  ini : ∃ (fI : Addr) (fd : FuncData), PySem.W.findIn K (.ref C) "__init__" = some (some (.ref fI)) ∧ PySem.W.typeIn K (.ref fI) = some (.type "function") ∧ FunS P K "__init__" qual st fI fd C
structure Cls (P : Program) (K : PySem.W.Frag) (mg : Str → Option Value) (cs : List Addr) (cK : Addr) : Prop where
  g : ∀ i, i < 15 → mg (errNames.getD i "") = some (.ref (cs.getD i 0))
  gK : mg "KinError" = some (.ref cK)
  b : allB K cs cK = true
  i0 : IniS P K "NoLine.__init__" s_iLine (cs.getD 0 0)
  i1 : IniS P K "NoCode.__init__" s_iCode (cs.getD 1 0)
  i2 : IniS P K "NoSource.__init__" s_iSource (cs.getD 2 0)
  i3 : IniS P K "NoChange.__init__" s_iChange (cs.getD 3 0)
  top : (P.main.scope.names.lookup ("super" : Str)).isSome = false
/-- the text's defs, the names that are still the built-ins -/
structure Txt (K : PySem.W.Frag) (mg : Str → Option Value) : Prop where
  m : MB mg
  m_repr : mg "repr" = none
  m_super : mg "super" = none
  m_ValueError : mg "ValueError" = none
  d_copied : Def K mg "_copied" ["thing"] s_copied
  d_law_blend : Def K mg "_law_blend" ["cell", "at"] s_law_blend
  d_law_pot : Def K mg "_law_pot" ["script"] s_law_pot
  d_law_pick : Def K mg "_law_pick" ["pot", "many"] s_law_pick
  d_law_same : Def K mg "_law_same" ["found", "due"] s_law_same
  d_law_order : Def K mg "_law_order" ["pot", "many"] s_law_order
  d_law_letters : Def K mg "_law_letters" ["pot", "many"] s_law_letters
  d_law_names : Def K mg "_law_names" ["pot", "many"] s_law_names
  d_law_text : Def K mg "_law_text" ["pot", "most"] s_law_text
  d_law_kinds_of : Def K mg "_law_kinds_of" ["caught"] s_law_kinds_of
  d_law_parts : Def K mg "_law_parts" ["pot"] s_law_parts
  d_law_code_right : Def K mg "_law_code_right" ["code", "told"] s_law_code_right
  d_law_fields_right : Def K mg "_law_fields_right" ["parts"] s_law_fields_right

theorem own_of {P : Program} {K : PySem.W.Frag} {C : Addr} {qual : Str} {st : Stmt} (h : ownB K C = true) (I : IniS P K qual st C) : SupC K C ∧ XfC K C := by
  unfold ownB at h
  simp only [Bool.and_eq_true, decide_eq_true_eq] at h
  obtain ⟨h1, h2, h3, h4, h5, h6, h7, h8, h9⟩ := h
  exact ⟨⟨⟨I.cls, h2, h3, h4, h5⟩, h6, h7, h8, h9⟩, xfB_ok h1⟩
theorem all_law {P : Program} {w : World} {K : PySem.W.Frag} {mg : Str → Option Value} {base : Heap} {cs : List Addr} {cK f : Addr} {fd : FuncData} (T : Txt K mg) (Y : Cls P K mg cs cK) (F : Fun K "law" "law" s_law f fd) : FnG P w K mg base 9 f fd ["script"] (sp_law K) := by
  have M := T.m
  have B := Y.b
  unfold allB at B
  simp only [Bool.and_eq_true, decide_eq_true_eq, List.all_eq_true] at B
  obtain ⟨⟨⟨hlen, hex⟩, hkit⟩, hown, hplain, n0, n0', n0'', n1, n2, n3⟩ := B
  have mem : ∀ i, i < 15 → cs.getD i 0 ∈ cs := fun i hi => by
    rw [List.getD_eq_getElem?_getD, List.getElem?_eq_getElem (by omega)]
    exact List.getElem_mem _
  have mt : ∀ i, i < 4 → cs.getD i 0 ∈ cs.take 4 := fun i hi => by
    rw [List.getD_eq_getElem?_getD, List.getElem?_eq_getElem (by omega)]
    exact List.mem_take_iff_getElem.mpr ⟨i, by omega, rfl⟩
  have md : ∀ i, 4 ≤ i → i < 15 → cs.getD i 0 ∈ cs.drop 4 := fun i h4 hi => by
    rw [List.getD_eq_getElem?_getD, List.getElem?_eq_getElem (by omega)]
    exact List.mem_drop_iff_getElem.mpr ⟨i - 4, by omega, by show cs[4 + (i - 4)] = _; congr 1; omega⟩
  have E : Errs K mg (fun i => cs.getD i 0) cK := ⟨Y.g, Y.gK, fun i hi => excCB_ok (hex _ (mem i hi)).1, fun i j hi hj => hkit i (List.mem_range.mpr hi) j (List.mem_range.mpr hj), fun i hi => (hex _ (mem i hi)).2.1, fun i hi => (hex _ (mem i hi)).2.2⟩
  have XS : ∀ i, 4 ≤ i → i < 15 → ExS K mg (errNames.getD i "") (cs.getD i 0) := fun i h4 hi => by
    have z := hplain _ (md i h4 hi)
    unfold plainB at z
    rw [Bool.and_eq_true] at z
    exact ⟨Y.g i hi, z.1, z.2⟩
  obtain ⟨p0, x0⟩ := own_of (hown _ (mt 0 (by decide))) Y.i0
  obtain ⟨p1, x1⟩ := own_of (hown _ (mt 1 (by decide))) Y.i1
  obtain ⟨p2, x2⟩ := own_of (hown _ (mt 2 (by decide))) Y.i2
  obtain ⟨p3, x3⟩ := own_of (hown _ (mt 3 (by decide))) Y.i3
  have a1 := ok_copied (P := P) (w := w) (base := base) T.d_copied M.m_isinstance M.m_list M.m_tuple 4
  have b1 := ok_law_blend (P := P) (w := w) (K := K) (base := base) T.d_law_blend
  have b2 := ok_law_pot (P := P) (w := w) (base := base) T.d_law_pot M.m_list M.m_enumerate
  have b3 := ok_law_pick T.d_law_pick M.m_len b1
  have b4 := ok_law_order T.d_law_order M.m_range b3
  have b5 := ok_law_letters T.d_law_letters M.m_range M.m_len b3
  have b6 := ok_law_names T.d_law_names M.m_range b3 b5 b4
  have b7 := ok_ltext T.d_law_text M.m_range M.m_len b3
  have b8 := ok_law_same (P := P) (w := w) (base := base) T.d_law_same M 5
  have b9 := ok_parts T.d_law_parts b3 b6
  have c1 := ok_kinds (P := P) (w := w) (base := base) T.d_law_kinds_of M E
  have un : ∀ {C : Addr} {f : Str}, noB K C f = true → PySem.W.findIn K (.ref C) f = some none := fun h => of_decide_eq_true h
  have X0 : ExI P w K mg base 5 "NoLine" (cs.getD 0 0) (sp_iLine K (cs.getD 0 0)) := by
    obtain ⟨fI, fd, iC, tI, FS⟩ := Y.i0.ini
    exact ⟨p0.oex, Y.g 0 (by decide), fI, fd, _, iC, tI, ok_iLine FS p0 (un n0) (un n0') (un n0'') T.m_super Y.top a1, FS.binds fun _ _ _ _ _ _ _ us hl => match us, hl with | [_, _, _, _], _ => rfl⟩
  have X1 : ExI P w K mg base 5 "NoCode" (cs.getD 1 0) (sp_iCode K (cs.getD 1 0)) := by
    obtain ⟨fI, fd, iC, tI, FS⟩ := Y.i1.ini
    exact ⟨p1.oex, Y.g 1 (by decide), fI, fd, _, iC, tI, ok_iCode FS p1 (un n1) T.m_super Y.top a1, FS.binds fun _ _ _ _ _ _ _ us hl => match us, hl with | [_, _], _ => rfl⟩
  have X2 : ExI P w K mg base 1 "NoSource" (cs.getD 2 0) (sp_iInt (cs.getD 2 0) "place") := by
    obtain ⟨fI, fd, iC, tI, FS⟩ := Y.i2.ini
    exact ⟨p2.oex, Y.g 2 (by decide), fI, fd, _, iC, tI, ok_iSource FS p2 (un n2) T.m_super Y.top, FS.binds fun _ _ _ _ _ _ _ us hl => match us, hl with | [_, _], _ => rfl⟩
  have X3 : ExI P w K mg base 1 "NoChange" (cs.getD 3 0) (sp_iInt (cs.getD 3 0) "number") := by
    obtain ⟨fI, fd, iC, tI, FS⟩ := Y.i3.ini
    exact ⟨p3.oex, Y.g 3 (by decide), fI, fd, _, iC, tI, ok_iChange FS p3 (un n3) T.m_super Y.top, FS.binds fun _ _ _ _ _ _ _ us hl => match us, hl with | [_, _], _ => rfl⟩
  have X : Mks P w K mg base (fun i => cs.getD i 0) := ⟨X0, X1, X2, X3, fun i hi => by
    match i, hi with
    | 0, _ => exact x0
    | 1, _ => exact x1
    | 2, _ => exact x2
    | 3, _ => exact x3, ⟨un n0, un n0', un n0''⟩, un n1, un n2, un n3⟩
  have c2 := ok_cright (P := P) (w := w) (base := base) T.d_law_code_right T.m_repr x1 (un n1)
  have c3 := ok_fields T.d_law_fields_right M T.m_ValueError E X c1 b8 c2
  exact ok_law F M T.m_ValueError E XS b2 b7 c1 b9 c3
theorem all_mk {l : PySem.W.OpenLaw} {w : World} {K : PySem.W.Frag} {h : Heap} {mg : Str → Option Value} {fa f1 f2 f3 f4 f5 f6 f7 f8 f9 f10 f11 f12 f13 f14 : Addr} (X : K.In h) (G : h.Ns mainGlobals mg) (hfa : mg "law" = some (.ref fa))
    {od1 an1 od2 an2 od3 an3 od4 an4 od5 an5 od6 an6 od7 an7 od8 an8 od9 an9 od10 an10 od11 an11 od12 an12 od13 an13 od14 an14 : Option Addr} {sl1 sl2 sl3 sl4 sl5 sl6 sl7 sl8 sl9 sl10 sl11 sl12 sl13 sl14 : Array (Option Value)} {oc1 kV1 dc1 pm1 cd1 ct1 oc2 kV2 dc2 pm2 cd2 ct2 oc3 kV3 dc3 pm3 cd3 ct3 oc4 kV4 dc4 pm4 cd4 ct4 oc5 kV5 dc5 pm5 cd5 ct5 oc6 kV6 dc6 pm6 cd6 ct6 oc7 kV7 dc7 pm7 cd7 ct7 oc8 kV8 dc8 pm8 cd8 ct8 oc9 kV9 dc9 pm9 cd9 ct9 oc10 kV10 dc10 pm10 cd10 ct10 oc11 kV11 dc11 pm11 cd11 ct11 oc12 kV12 dc12 pm12 cd12 ct12 oc13 kV13 dc13 pm13 cd13 ct13 oc14 kV14 dc14 pm14 cd14 ct14 : Value}
    (a1 : PySem.W.nsIn K mainGlobals "_copied" = some (some (.ref f1))) (l1 : K.lookup f1 = some ⟨oc1, od1, .func (PySem.W.fnOf "_copied" "_copied" (defArgs s_copied) (defBody s_copied) (defScope s_copied) .none kV1 dc1 pm1 an1 cd1 ct1), sl1⟩) (c1 : PySem.W.codeIn K cd1 "_copied" = true) (k1 : PySem.W.keepIn K (.ref f1) = true)
    (a2 : PySem.W.nsIn K mainGlobals "_law_blend" = some (some (.ref f2))) (l2 : K.lookup f2 = some ⟨oc2, od2, .func (PySem.W.fnOf "_law_blend" "_law_blend" (defArgs s_law_blend) (defBody s_law_blend) (defScope s_law_blend) .none kV2 dc2 pm2 an2 cd2 ct2), sl2⟩) (c2 : PySem.W.codeIn K cd2 "_law_blend" = true) (k2 : PySem.W.keepIn K (.ref f2) = true)
    (a3 : PySem.W.nsIn K mainGlobals "_law_pot" = some (some (.ref f3))) (l3 : K.lookup f3 = some ⟨oc3, od3, .func (PySem.W.fnOf "_law_pot" "_law_pot" (defArgs s_law_pot) (defBody s_law_pot) (defScope s_law_pot) .none kV3 dc3 pm3 an3 cd3 ct3), sl3⟩) (c3 : PySem.W.codeIn K cd3 "_law_pot" = true) (k3 : PySem.W.keepIn K (.ref f3) = true)
    (a4 : PySem.W.nsIn K mainGlobals "_law_pick" = some (some (.ref f4))) (l4 : K.lookup f4 = some ⟨oc4, od4, .func (PySem.W.fnOf "_law_pick" "_law_pick" (defArgs s_law_pick) (defBody s_law_pick) (defScope s_law_pick) .none kV4 dc4 pm4 an4 cd4 ct4), sl4⟩) (c4 : PySem.W.codeIn K cd4 "_law_pick" = true) (k4 : PySem.W.keepIn K (.ref f4) = true)
    (a5 : PySem.W.nsIn K mainGlobals "_law_same" = some (some (.ref f5))) (l5 : K.lookup f5 = some ⟨oc5, od5, .func (PySem.W.fnOf "_law_same" "_law_same" (defArgs s_law_same) (defBody s_law_same) (defScope s_law_same) .none kV5 dc5 pm5 an5 cd5 ct5), sl5⟩) (c5 : PySem.W.codeIn K cd5 "_law_same" = true) (k5 : PySem.W.keepIn K (.ref f5) = true)
    (a6 : PySem.W.nsIn K mainGlobals "_law_order" = some (some (.ref f6))) (l6 : K.lookup f6 = some ⟨oc6, od6, .func (PySem.W.fnOf "_law_order" "_law_order" (defArgs s_law_order) (defBody s_law_order) (defScope s_law_order) .none kV6 dc6 pm6 an6 cd6 ct6), sl6⟩) (c6 : PySem.W.codeIn K cd6 "_law_order" = true) (k6 : PySem.W.keepIn K (.ref f6) = true)
    (a7 : PySem.W.nsIn K mainGlobals "_law_letters" = some (some (.ref f7))) (l7 : K.lookup f7 = some ⟨oc7, od7, .func (PySem.W.fnOf "_law_letters" "_law_letters" (defArgs s_law_letters) (defBody s_law_letters) (defScope s_law_letters) .none kV7 dc7 pm7 an7 cd7 ct7), sl7⟩) (c7 : PySem.W.codeIn K cd7 "_law_letters" = true) (k7 : PySem.W.keepIn K (.ref f7) = true)
    (a8 : PySem.W.nsIn K mainGlobals "_law_names" = some (some (.ref f8))) (l8 : K.lookup f8 = some ⟨oc8, od8, .func (PySem.W.fnOf "_law_names" "_law_names" (defArgs s_law_names) (defBody s_law_names) (defScope s_law_names) .none kV8 dc8 pm8 an8 cd8 ct8), sl8⟩) (c8 : PySem.W.codeIn K cd8 "_law_names" = true) (k8 : PySem.W.keepIn K (.ref f8) = true)
    (a9 : PySem.W.nsIn K mainGlobals "_law_text" = some (some (.ref f9))) (l9 : K.lookup f9 = some ⟨oc9, od9, .func (PySem.W.fnOf "_law_text" "_law_text" (defArgs s_law_text) (defBody s_law_text) (defScope s_law_text) .none kV9 dc9 pm9 an9 cd9 ct9), sl9⟩) (c9 : PySem.W.codeIn K cd9 "_law_text" = true) (k9 : PySem.W.keepIn K (.ref f9) = true)
    (a10 : PySem.W.nsIn K mainGlobals "_law_kinds_of" = some (some (.ref f10))) (l10 : K.lookup f10 = some ⟨oc10, od10, .func (PySem.W.fnOf "_law_kinds_of" "_law_kinds_of" (defArgs s_law_kinds_of) (defBody s_law_kinds_of) (defScope s_law_kinds_of) .none kV10 dc10 pm10 an10 cd10 ct10), sl10⟩) (c10 : PySem.W.codeIn K cd10 "_law_kinds_of" = true) (k10 : PySem.W.keepIn K (.ref f10) = true)
    (a11 : PySem.W.nsIn K mainGlobals "_law_parts" = some (some (.ref f11))) (l11 : K.lookup f11 = some ⟨oc11, od11, .func (PySem.W.fnOf "_law_parts" "_law_parts" (defArgs s_law_parts) (defBody s_law_parts) (defScope s_law_parts) .none kV11 dc11 pm11 an11 cd11 ct11), sl11⟩) (c11 : PySem.W.codeIn K cd11 "_law_parts" = true) (k11 : PySem.W.keepIn K (.ref f11) = true)
    (a12 : PySem.W.nsIn K mainGlobals "_law_code_right" = some (some (.ref f12))) (l12 : K.lookup f12 = some ⟨oc12, od12, .func (PySem.W.fnOf "_law_code_right" "_law_code_right" (defArgs s_law_code_right) (defBody s_law_code_right) (defScope s_law_code_right) .none kV12 dc12 pm12 an12 cd12 ct12), sl12⟩) (c12 : PySem.W.codeIn K cd12 "_law_code_right" = true) (k12 : PySem.W.keepIn K (.ref f12) = true)
    (a13 : PySem.W.nsIn K mainGlobals "_law_fields_right" = some (some (.ref f13))) (l13 : K.lookup f13 = some ⟨oc13, od13, .func (PySem.W.fnOf "_law_fields_right" "_law_fields_right" (defArgs s_law_fields_right) (defBody s_law_fields_right) (defScope s_law_fields_right) .none kV13 dc13 pm13 an13 cd13 ct13), sl13⟩) (c13 : PySem.W.codeIn K cd13 "_law_fields_right" = true) (k13 : PySem.W.keepIn K (.ref f13) = true)
    (a14 : PySem.W.nsIn K mainGlobals "law" = some (some (.ref f14))) (l14 : K.lookup f14 = some ⟨oc14, od14, .func (PySem.W.fnOf "law" "law" (defArgs s_law) (defBody s_law) (defScope s_law) .none kV14 dc14 pm14 an14 cd14 ct14), sl14⟩) (c14 : PySem.W.codeIn K cd14 "law" = true) (k14 : PySem.W.keepIn K (.ref f14) = true)
    (z1 : PySem.W.nsIn K mainGlobals "isinstance" = some none)
    (z2 : PySem.W.nsIn K mainGlobals "bool" = some none)
    (z3 : PySem.W.nsIn K mainGlobals "str" = some none)
    (z4 : PySem.W.nsIn K mainGlobals "int" = some none)
    (z5 : PySem.W.nsIn K mainGlobals "tuple" = some none)
    (z6 : PySem.W.nsIn K mainGlobals "list" = some none)
    (z7 : PySem.W.nsIn K mainGlobals "len" = some none)
    (z8 : PySem.W.nsIn K mainGlobals "all" = some none)
    (z9 : PySem.W.nsIn K mainGlobals "zip" = some none)
    (z10 : PySem.W.nsIn K mainGlobals "range" = some none)
    (z11 : PySem.W.nsIn K mainGlobals "enumerate" = some none)
    (z12 : PySem.W.nsIn K mainGlobals "any" = some none)
    (z13 : PySem.W.nsIn K mainGlobals "repr" = some none)
    (z14 : PySem.W.nsIn K mainGlobals "super" = some none)
    (z15 : PySem.W.nsIn K mainGlobals "ValueError" = some none)
    {y0 y1 y2 y3 y4 y5 y6 y7 y8 y9 y10 y11 y12 y13 y14 cK : Addr} (yg0 : PySem.W.nsIn K mainGlobals "NoLine" = some (some (.ref y0))) (yg1 : PySem.W.nsIn K mainGlobals "NoCode" = some (some (.ref y1))) (yg2 : PySem.W.nsIn K mainGlobals "NoSource" = some (some (.ref y2))) (yg3 : PySem.W.nsIn K mainGlobals "NoChange" = some (some (.ref y3))) (yg4 : PySem.W.nsIn K mainGlobals "NoName" = some (some (.ref y4))) (yg5 : PySem.W.nsIn K mainGlobals "NoKind" = some (some (.ref y5))) (yg6 : PySem.W.nsIn K mainGlobals "NoThing" = some (some (.ref y6))) (yg7 : PySem.W.nsIn K mainGlobals "NoDeed" = some (some (.ref y7))) (yg8 : PySem.W.nsIn K mainGlobals "NoWord" = some (some (.ref y8))) (yg9 : PySem.W.nsIn K mainGlobals "NoWorth" = some (some (.ref y9))) (yg10 : PySem.W.nsIn K mainGlobals "NoSteps" = some (some (.ref y10))) (yg11 : PySem.W.nsIn K mainGlobals "Round" = some (some (.ref y11))) (yg12 : PySem.W.nsIn K mainGlobals "Full" = some (some (.ref y12))) (yg13 : PySem.W.nsIn K mainGlobals "TooBig" = some (some (.ref y13))) (yg14 : PySem.W.nsIn K mainGlobals "NoPaper" = some (some (.ref y14))) (ygK : PySem.W.nsIn K mainGlobals "KinError" = some (some (.ref cK))) (ybb : allB K [y0, y1, y2, y3, y4, y5, y6, y7, y8, y9, y10, y11, y12, y13, y14] cK = true) (ytp : (l.prog.main.scope.names.lookup ("super" : Str)).isSome = false)
    {fi0 cc0 cda0 nN0 : Addr} {odi0 ani0 cld0 odc0 ddd0 : Option Addr} {sli0 csl0 slc0 : Array (Option Value)} {oci0 kVi0 dci0 pmi0 cti0 cl0 occ0 : Value} {vs0 : Array Value} {file0 nm0 q0 : Str} {tf0 : Tok} {bs0 bm0 sub0 : List Value} {sn0 : List Str} {ab0 : Bool} {col0 : Option Bool} {ka0 kb0 kc0 kd0 ke0 : Option Value}
    (yia0 : PySem.W.findIn K (.ref y0) "__init__" = some (some (.ref fi0))) (yib0 : PySem.W.typeIn K (.ref fi0) = some (.type "function")) (yic0 : K.lookup fi0 = some ⟨oci0, odi0, .func (PySem.W.fnX "__init__" "NoLine.__init__" (defArgs s_iLine) (defBody s_iLine) (defScope s_iLine) [("__class__", cc0)] .none kVi0 dci0 pmi0 ani0 (.ref cda0) cti0), sli0⟩) (yid0 : PySem.W.codeIn K (.ref cda0) "NoLine.__init__" = true) (yie0 : PySem.W.keepIn K (.ref fi0) = true)
    (yig0 : K.lookup cc0 = some ⟨cl0, cld0, .cell (some (.ref y0)), csl0⟩) (yih0 : K.lookup cda0 = some ⟨occ0, odc0, .fields vs0, slc0⟩) (yii0 : vs0[2]? = some (.str file0 tf0)) (yij0 : ((l.prog.main.file : Str) == file0) = true)
    (yik0 : K.lookup y0 = some (excClassObj nm0 q0 y0 nN0 bs0 bm0 true sn0 sub0 ab0 col0 ddd0 ka0 kb0 kc0 kd0 ke0 "ValueError.__new__")) (yil0 : PySem.HandSPX.refsVE bm0 = true)
    {fi1 cc1 cda1 nN1 : Addr} {odi1 ani1 cld1 odc1 ddd1 : Option Addr} {sli1 csl1 slc1 : Array (Option Value)} {oci1 kVi1 dci1 pmi1 cti1 cl1 occ1 : Value} {vs1 : Array Value} {file1 nm1 q1 : Str} {tf1 : Tok} {bs1 bm1 sub1 : List Value} {sn1 : List Str} {ab1 : Bool} {col1 : Option Bool} {ka1 kb1 kc1 kd1 ke1 : Option Value}
    (yia1 : PySem.W.findIn K (.ref y1) "__init__" = some (some (.ref fi1))) (yib1 : PySem.W.typeIn K (.ref fi1) = some (.type "function")) (yic1 : K.lookup fi1 = some ⟨oci1, odi1, .func (PySem.W.fnX "__init__" "NoCode.__init__" (defArgs s_iCode) (defBody s_iCode) (defScope s_iCode) [("__class__", cc1)] .none kVi1 dci1 pmi1 ani1 (.ref cda1) cti1), sli1⟩) (yid1 : PySem.W.codeIn K (.ref cda1) "NoCode.__init__" = true) (yie1 : PySem.W.keepIn K (.ref fi1) = true)
    (yig1 : K.lookup cc1 = some ⟨cl1, cld1, .cell (some (.ref y1)), csl1⟩) (yih1 : K.lookup cda1 = some ⟨occ1, odc1, .fields vs1, slc1⟩) (yii1 : vs1[2]? = some (.str file1 tf1)) (yij1 : ((l.prog.main.file : Str) == file1) = true)
    (yik1 : K.lookup y1 = some (excClassObj nm1 q1 y1 nN1 bs1 bm1 true sn1 sub1 ab1 col1 ddd1 ka1 kb1 kc1 kd1 ke1 "ValueError.__new__")) (yil1 : PySem.HandSPX.refsVE bm1 = true)
    {fi2 cc2 cda2 nN2 : Addr} {odi2 ani2 cld2 odc2 ddd2 : Option Addr} {sli2 csl2 slc2 : Array (Option Value)} {oci2 kVi2 dci2 pmi2 cti2 cl2 occ2 : Value} {vs2 : Array Value} {file2 nm2 q2 : Str} {tf2 : Tok} {bs2 bm2 sub2 : List Value} {sn2 : List Str} {ab2 : Bool} {col2 : Option Bool} {ka2 kb2 kc2 kd2 ke2 : Option Value}
    (yia2 : PySem.W.findIn K (.ref y2) "__init__" = some (some (.ref fi2))) (yib2 : PySem.W.typeIn K (.ref fi2) = some (.type "function")) (yic2 : K.lookup fi2 = some ⟨oci2, odi2, .func (PySem.W.fnX "__init__" "NoSource.__init__" (defArgs s_iSource) (defBody s_iSource) (defScope s_iSource) [("__class__", cc2)] .none kVi2 dci2 pmi2 ani2 (.ref cda2) cti2), sli2⟩) (yid2 : PySem.W.codeIn K (.ref cda2) "NoSource.__init__" = true) (yie2 : PySem.W.keepIn K (.ref fi2) = true)
    (yig2 : K.lookup cc2 = some ⟨cl2, cld2, .cell (some (.ref y2)), csl2⟩) (yih2 : K.lookup cda2 = some ⟨occ2, odc2, .fields vs2, slc2⟩) (yii2 : vs2[2]? = some (.str file2 tf2)) (yij2 : ((l.prog.main.file : Str) == file2) = true)
    (yik2 : K.lookup y2 = some (excClassObj nm2 q2 y2 nN2 bs2 bm2 true sn2 sub2 ab2 col2 ddd2 ka2 kb2 kc2 kd2 ke2 "ValueError.__new__")) (yil2 : PySem.HandSPX.refsVE bm2 = true)
    {fi3 cc3 cda3 nN3 : Addr} {odi3 ani3 cld3 odc3 ddd3 : Option Addr} {sli3 csl3 slc3 : Array (Option Value)} {oci3 kVi3 dci3 pmi3 cti3 cl3 occ3 : Value} {vs3 : Array Value} {file3 nm3 q3 : Str} {tf3 : Tok} {bs3 bm3 sub3 : List Value} {sn3 : List Str} {ab3 : Bool} {col3 : Option Bool} {ka3 kb3 kc3 kd3 ke3 : Option Value}
    (yia3 : PySem.W.findIn K (.ref y3) "__init__" = some (some (.ref fi3))) (yib3 : PySem.W.typeIn K (.ref fi3) = some (.type "function")) (yic3 : K.lookup fi3 = some ⟨oci3, odi3, .func (PySem.W.fnX "__init__" "NoChange.__init__" (defArgs s_iChange) (defBody s_iChange) (defScope s_iChange) [("__class__", cc3)] .none kVi3 dci3 pmi3 ani3 (.ref cda3) cti3), sli3⟩) (yid3 : PySem.W.codeIn K (.ref cda3) "NoChange.__init__" = true) (yie3 : PySem.W.keepIn K (.ref fi3) = true)
    (yig3 : K.lookup cc3 = some ⟨cl3, cld3, .cell (some (.ref y3)), csl3⟩) (yih3 : K.lookup cda3 = some ⟨occ3, odc3, .fields vs3, slc3⟩) (yii3 : vs3[2]? = some (.str file3 tf3)) (yij3 : ((l.prog.main.file : Str) == file3) = true)
    (yik3 : K.lookup y3 = some (excClassObj nm3 q3 y3 nN3 bs3 bm3 true sn3 sub3 ab3 col3 ddd3 ka3 kb3 kc3 kd3 ke3 "ValueError.__new__")) (yil3 : PySem.HandSPX.refsVE bm3 = true)
    :
    ∃ fd : FuncData, (∀ (s : Shared) (v : Value), BindsTo s fd ⟨[v], []⟩ [("script", v)]) ∧ ∀ base : Heap, K.In base → base.Ns mainGlobals mg → FnG l.prog w K mg base 9 fa fd ["script"] (sp_law K) := by
  have e := hfa.symm.trans (PySem.W.mg_of X G a14)
  cases e
  have F1 := fun_mk (st := s_copied) l1 c1 k1
  have D1 : Def K mg "_copied" ["thing"] s_copied := ⟨_, _, F1, PySem.W.mg_of X G a1, F1.binds (ps := ["thing"]) fun _ _ _ _ _ _ us hl => match us, hl with | [_], _ => rfl⟩
  have F2 := fun_mk (st := s_law_blend) l2 c2 k2
  have D2 : Def K mg "_law_blend" ["cell", "at"] s_law_blend := ⟨_, _, F2, PySem.W.mg_of X G a2, F2.binds (ps := ["cell", "at"]) fun _ _ _ _ _ _ us hl => match us, hl with | [_, _], _ => rfl⟩
  have F3 := fun_mk (st := s_law_pot) l3 c3 k3
  have D3 : Def K mg "_law_pot" ["script"] s_law_pot := ⟨_, _, F3, PySem.W.mg_of X G a3, F3.binds (ps := ["script"]) fun _ _ _ _ _ _ us hl => match us, hl with | [_], _ => rfl⟩
  have F4 := fun_mk (st := s_law_pick) l4 c4 k4
  have D4 : Def K mg "_law_pick" ["pot", "many"] s_law_pick := ⟨_, _, F4, PySem.W.mg_of X G a4, F4.binds (ps := ["pot", "many"]) fun _ _ _ _ _ _ us hl => match us, hl with | [_, _], _ => rfl⟩
  have F5 := fun_mk (st := s_law_same) l5 c5 k5
  have D5 : Def K mg "_law_same" ["found", "due"] s_law_same := ⟨_, _, F5, PySem.W.mg_of X G a5, F5.binds (ps := ["found", "due"]) fun _ _ _ _ _ _ us hl => match us, hl with | [_, _], _ => rfl⟩
  have F6 := fun_mk (st := s_law_order) l6 c6 k6
  have D6 : Def K mg "_law_order" ["pot", "many"] s_law_order := ⟨_, _, F6, PySem.W.mg_of X G a6, F6.binds (ps := ["pot", "many"]) fun _ _ _ _ _ _ us hl => match us, hl with | [_, _], _ => rfl⟩
  have F7 := fun_mk (st := s_law_letters) l7 c7 k7
  have D7 : Def K mg "_law_letters" ["pot", "many"] s_law_letters := ⟨_, _, F7, PySem.W.mg_of X G a7, F7.binds (ps := ["pot", "many"]) fun _ _ _ _ _ _ us hl => match us, hl with | [_, _], _ => rfl⟩
  have F8 := fun_mk (st := s_law_names) l8 c8 k8
  have D8 : Def K mg "_law_names" ["pot", "many"] s_law_names := ⟨_, _, F8, PySem.W.mg_of X G a8, F8.binds (ps := ["pot", "many"]) fun _ _ _ _ _ _ us hl => match us, hl with | [_, _], _ => rfl⟩
  have F9 := fun_mk (st := s_law_text) l9 c9 k9
  have D9 : Def K mg "_law_text" ["pot", "most"] s_law_text := ⟨_, _, F9, PySem.W.mg_of X G a9, F9.binds (ps := ["pot", "most"]) fun _ _ _ _ _ _ us hl => match us, hl with | [_, _], _ => rfl⟩
  have F10 := fun_mk (st := s_law_kinds_of) l10 c10 k10
  have D10 : Def K mg "_law_kinds_of" ["caught"] s_law_kinds_of := ⟨_, _, F10, PySem.W.mg_of X G a10, F10.binds (ps := ["caught"]) fun _ _ _ _ _ _ us hl => match us, hl with | [_], _ => rfl⟩
  have F11 := fun_mk (st := s_law_parts) l11 c11 k11
  have D11 : Def K mg "_law_parts" ["pot"] s_law_parts := ⟨_, _, F11, PySem.W.mg_of X G a11, F11.binds (ps := ["pot"]) fun _ _ _ _ _ _ us hl => match us, hl with | [_], _ => rfl⟩
  have F12 := fun_mk (st := s_law_code_right) l12 c12 k12
  have D12 : Def K mg "_law_code_right" ["code", "told"] s_law_code_right := ⟨_, _, F12, PySem.W.mg_of X G a12, F12.binds (ps := ["code", "told"]) fun _ _ _ _ _ _ us hl => match us, hl with | [_, _], _ => rfl⟩
  have F13 := fun_mk (st := s_law_fields_right) l13 c13 k13
  have D13 : Def K mg "_law_fields_right" ["parts"] s_law_fields_right := ⟨_, _, F13, PySem.W.mg_of X G a13, F13.binds (ps := ["parts"]) fun _ _ _ _ _ _ us hl => match us, hl with | [_], _ => rfl⟩
  have F14 := fun_mk (st := s_law) l14 c14 k14
  have M : MB mg := ⟨PySem.W.mg_none_of X G z1, PySem.W.mg_none_of X G z2, PySem.W.mg_none_of X G z3, PySem.W.mg_none_of X G z4, PySem.W.mg_none_of X G z5, PySem.W.mg_none_of X G z6, PySem.W.mg_none_of X G z7, PySem.W.mg_none_of X G z8, PySem.W.mg_none_of X G z9, PySem.W.mg_none_of X G z10, PySem.W.mg_none_of X G z11, PySem.W.mg_none_of X G z12⟩
  have T : Txt K mg := ⟨M, PySem.W.mg_none_of X G z13, PySem.W.mg_none_of X G z14, PySem.W.mg_none_of X G z15, D1, D2, D3, D4, D5, D6, D7, D8, D9, D10, D11, D12, D13⟩
  have I0 : IniS l.prog K "NoLine.__init__" s_iLine y0 := ⟨⟨_, _, _, _, _, _, _, _, _, _, _, _, _, _, _, yik0, yil0⟩, ⟨fi0, _, yia0, yib0, ⟨⟨_, _, _, _, _, _, _, _, _, _, _, _, _, _, _, _, _, rfl, yic0, yid0, yig0, yih0, rfl, yii0, yij0⟩, yie0⟩⟩⟩
  have I1 : IniS l.prog K "NoCode.__init__" s_iCode y1 := ⟨⟨_, _, _, _, _, _, _, _, _, _, _, _, _, _, _, yik1, yil1⟩, ⟨fi1, _, yia1, yib1, ⟨⟨_, _, _, _, _, _, _, _, _, _, _, _, _, _, _, _, _, rfl, yic1, yid1, yig1, yih1, rfl, yii1, yij1⟩, yie1⟩⟩⟩
  have I2 : IniS l.prog K "NoSource.__init__" s_iSource y2 := ⟨⟨_, _, _, _, _, _, _, _, _, _, _, _, _, _, _, yik2, yil2⟩, ⟨fi2, _, yia2, yib2, ⟨⟨_, _, _, _, _, _, _, _, _, _, _, _, _, _, _, _, _, rfl, yic2, yid2, yig2, yih2, rfl, yii2, yij2⟩, yie2⟩⟩⟩
  have I3 : IniS l.prog K "NoChange.__init__" s_iChange y3 := ⟨⟨_, _, _, _, _, _, _, _, _, _, _, _, _, _, _, yik3, yil3⟩, ⟨fi3, _, yia3, yib3, ⟨⟨_, _, _, _, _, _, _, _, _, _, _, _, _, _, _, _, _, rfl, yic3, yid3, yig3, yih3, rfl, yii3, yij3⟩, yie3⟩⟩⟩
  have Y : Cls l.prog K mg [y0, y1, y2, y3, y4, y5, y6, y7, y8, y9, y10, y11, y12, y13, y14] cK := ⟨fun i hi => match i, hi with
    | 0, _ => PySem.W.mg_of X G yg0
    | 1, _ => PySem.W.mg_of X G yg1
    | 2, _ => PySem.W.mg_of X G yg2
    | 3, _ => PySem.W.mg_of X G yg3
    | 4, _ => PySem.W.mg_of X G yg4
    | 5, _ => PySem.W.mg_of X G yg5
    | 6, _ => PySem.W.mg_of X G yg6
    | 7, _ => PySem.W.mg_of X G yg7
    | 8, _ => PySem.W.mg_of X G yg8
    | 9, _ => PySem.W.mg_of X G yg9
    | 10, _ => PySem.W.mg_of X G yg10
    | 11, _ => PySem.W.mg_of X G yg11
    | 12, _ => PySem.W.mg_of X G yg12
    | 13, _ => PySem.W.mg_of X G yg13
    | 14, _ => PySem.W.mg_of X G yg14, PySem.W.mg_of X G ygK, ybb, I0, I1, I2, I3, ytp⟩
  exact ⟨PySem.W.fnOf "law" "law" (defArgs s_law) (defBody s_law) (defScope s_law) .none kV14 dc14 pm14 an14 cd14 ct14, fun s v => .of_eq rfl, fun base _ _ => all_law T Y F14⟩
end Kin
open PySem PySem.W PyProof.Rows
set_option maxRecDepth 100000 in
set_option maxHeartbeats 0 in
theorem PySem.Challenge.cw_swiftkin_k06_refusals_holds : PySem.Challenge.rw_swiftkin_k06_refusals.Holds := by
  w_on; o_law; k_head; (case hw => w_witness2)
  k_fill
  refine Kin.walk_ofG (l := PySem.Challenge.rw_swiftkin_k06_refusals) (n := 63) (k := 9) (x := "script") (sp := fun w => Kin.sp_law _) rfl (by decide) rfl ⟨rfl, by decide, by decide⟩ (fun w h Y => PySem.W.kIn_of Y) ?F (fun _ _ a ns hl hS => ⟨a, ns, rfl, hS, hl, fun _ => rfl⟩)
  case F =>
    intro w mg fa h KX G hmg
    refine' Kin.all_mk KX G hmg ?a1 ?l1 ?c1 ?k1 ?a2 ?l2 ?c2 ?k2 ?a3 ?l3 ?c3 ?k3 ?a4 ?l4 ?c4 ?k4 ?a5 ?l5 ?c5 ?k5 ?a6 ?l6 ?c6 ?k6 ?a7 ?l7 ?c7 ?k7 ?a8 ?l8 ?c8 ?k8 ?a9 ?l9 ?c9 ?k9 ?a10 ?l10 ?c10 ?k10 ?a11 ?l11 ?c11 ?k11 ?a12 ?l12 ?c12 ?k12 ?a13 ?l13 ?c13 ?k13 ?a14 ?l14 ?c14 ?k14 ?z1 ?z2 ?z3 ?z4 ?z5 ?z6 ?z7 ?z8 ?z9 ?z10 ?z11 ?z12 ?z13 ?z14 ?z15 ?yg0 ?yg1 ?yg2 ?yg3 ?yg4 ?yg5 ?yg6 ?yg7 ?yg8 ?yg9 ?yg10 ?yg11 ?yg12 ?yg13 ?yg14 ?ygK ?ybb ?ytp ?yia0 ?yib0 ?yic0 ?yid0 ?yie0 ?yig0 ?yih0 ?yii0 ?yij0 ?yik0 ?yil0 ?yia1 ?yib1 ?yic1 ?yid1 ?yie1 ?yig1 ?yih1 ?yii1 ?yij1 ?yik1 ?yil1 ?yia2 ?yib2 ?yic2 ?yid2 ?yie2 ?yig2 ?yih2 ?yii2 ?yij2 ?yik2 ?yil2 ?yia3 ?yib3 ?yic3 ?yid3 ?yie3 ?yig3 ?yih3 ?yii3 ?yij3 ?yik3 ?yil3
    (case a1 => k_is); (case l1 => k_is); (case c1 => k_is); (case k1 => k_is); (case a2 => k_is); (case l2 => k_is); (case c2 => k_is); (case k2 => k_is); (case a3 => k_is); (case l3 => k_is); (case c3 => k_is); (case k3 => k_is); (case a4 => k_is); (case l4 => k_is); (case c4 => k_is); (case k4 => k_is); (case a5 => k_is); (case l5 => k_is); (case c5 => k_is); (case k5 => k_is); (case a6 => k_is); (case l6 => k_is); (case c6 => k_is); (case k6 => k_is); (case a7 => k_is); (case l7 => k_is); (case c7 => k_is); (case k7 => k_is); (case a8 => k_is); (case l8 => k_is); (case c8 => k_is); (case k8 => k_is); (case a9 => k_is); (case l9 => k_is); (case c9 => k_is); (case k9 => k_is); (case a10 => k_is); (case l10 => k_is); (case c10 => k_is); (case k10 => k_is); (case a11 => k_is); (case l11 => k_is); (case c11 => k_is); (case k11 => k_is); (case a12 => k_is); (case l12 => k_is); (case c12 => k_is); (case k12 => k_is); (case a13 => k_is); (case l13 => k_is); (case c13 => k_is); (case k13 => k_is); (case a14 => k_is); (case l14 => k_is); (case c14 => k_is); (case k14 => k_is); (case z1 => k_is); (case z2 => k_is); (case z3 => k_is); (case z4 => k_is); (case z5 => k_is); (case z6 => k_is); (case z7 => k_is); (case z8 => k_is); (case z9 => k_is); (case z10 => k_is); (case z11 => k_is); (case z12 => k_is); (case z13 => k_is); (case z14 => k_is); (case z15 => k_is); (case yg0 => k_is); (case yg1 => k_is); (case yg2 => k_is); (case yg3 => k_is); (case yg4 => k_is); (case yg5 => k_is); (case yg6 => k_is); (case yg7 => k_is); (case yg8 => k_is); (case yg9 => k_is); (case yg10 => k_is); (case yg11 => k_is); (case yg12 => k_is); (case yg13 => k_is); (case yg14 => k_is); (case ygK => k_is); (case ybb => kernel_rfl); (case ytp => rfl); (case yia0 => k_is); (case yib0 => k_is); (case yic0 => k_is); (case yid0 => k_is); (case yie0 => k_is); (case yig0 => k_is); (case yih0 => k_is); (case yii0 => rfl); (case yij0 => rfl); (case yik0 => k_is); (case yil0 => rfl); (case yia1 => k_is); (case yib1 => k_is); (case yic1 => k_is); (case yid1 => k_is); (case yie1 => k_is); (case yig1 => k_is); (case yih1 => k_is); (case yii1 => rfl); (case yij1 => rfl); (case yik1 => k_is); (case yil1 => rfl); (case yia2 => k_is); (case yib2 => k_is); (case yic2 => k_is); (case yid2 => k_is); (case yie2 => k_is); (case yig2 => k_is); (case yih2 => k_is); (case yii2 => rfl); (case yij2 => rfl); (case yik2 => k_is); (case yil2 => rfl); (case yia3 => k_is); (case yib3 => k_is); (case yic3 => k_is); (case yid3 => k_is); (case yie3 => k_is); (case yig3 => k_is); (case yih3 => k_is); (case yii3 => rfl); (case yij3 => rfl); (case yik3 => k_is); (case yil3 => rfl)
