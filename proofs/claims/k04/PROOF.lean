import PyProof.Rows.All
import Wide.All
import OpenK.AllK
import Wide.FinOn
import HandS.ForMost
import HandS.Wide
import HandS.IsInst
import HandS.Zip
import HandS.Style
import HandS.TupAny
import HandS.Evl
import HandS.More
import HandS.TupLe
import HandS.Deep
import PySem.Challenge.RW_swiftkin_k04_whole_line_or_ring
set_option Elab.async false
set_option linter.all false
set_option maxRecDepth 100000
set_option maxHeartbeats 4000000
/-! what all the laws' texts share: no word of the program here -/
namespace Kin
open PySem PySem.Spec PyProof.Rows L2 RZ
/-- a def that may be called by its name -/
structure Cl (P : Program) (w : World) (K : PySem.W.Frag) (mg : Str → Option Value) (base : Heap) (k : Nat) (x : Str) (sp : Sp) : Prop where
  ex : ∃ (f : Addr) (fd : FuncData) (ps : List Str), FnOk P w K mg base CX0 k f fd ps sp ∧ mg x = some (.ref f) ∧ PySem.W.keepIn K (.ref f) = true ∧ Binds K fd ps []
theorem Cl.imp {P : Program} {w : World} {K : PySem.W.Frag} {mg : Str → Option Value} {base : Heap} {k : Nat} {x : Str} {sp sp' : Sp} (c : Cl P w K mg base k x sp) (h : ∀ vs H Q E, sp' vs H Q E → sp vs H Q E) : Cl P w K mg base k x sp' := by
  obtain ⟨f, fd, ps, F, r⟩ := c.ex
  exact ⟨f, fd, ps, F.imp h, r⟩
theorem Cl.mono {P : Program} {w : World} {K : PySem.W.Frag} {mg : Str → Option Value} {base : Heap} {j k : Nat} {x : Str} {sp : Sp} (c : Cl P w K mg base j x sp) (h : j ≤ k) : Cl P w K mg base k x sp := by
  obtain ⟨f, fd, ps, F, r⟩ := c.ex
  exact ⟨f, fd, ps, F.mono h, r⟩
section
variable {X : Cx} {k j : Nat} {x : Str} {sp : Sp} {p pos : Pos} {e : Expr} {es : List Expr} {t : TA}
theorem pe_cl (c : Cl X.prog X.w X.K X.mg X.base k x sp) (hr : Room j X.A) (hk : k ≤ j) (hg : Gl X x) (ha : PA X (e :: es) t)
    (hdb : (x == ("__debug__" : Str)) = false := by decide) (he : starEach (e :: es) X.env = (false, eval e X.env) :: starEach es X.env := by rfl) (hpl : (backTo pos (starEach es X.env)).any (·.1) = false := by rfl) :
    PE X (.Call (.Name x p) (e :: es) [] pos) (tCall sp [] E0 t) := by
  obtain ⟨f, fd, ps, F, hm, kp, b⟩ := c.ex
  exact pe_call F (hr.mono hk) hg hm kp b .nil pass0 ha hdb he hpl
end
/-! ### the text's defs: one word for what the end tells of a def -/
structure Def (K : PySem.W.Frag) (mg : Str → Option Value) (x : Str) (ps : List Str) (st : Stmt) : Prop where
  ex : ∃ (f : Addr) (fd : FuncData), Fun K x x st f fd ∧ mg x = some (.ref f) ∧ Binds K fd ps []
section
variable {P : Program} {w : World} {K : PySem.W.Frag} {mg : Str → Option Value} {base : Heap}
theorem Def.cl {x : Str} {st : Stmt} {N ps : List Str} {k : Nat} {sp : Sp} (F : Def K mg x ps st) (S : FnScope N ps (defScope st)) (len : ∀ vs H Q E, sp vs H Q E → vs.length = ps.length)
    (hbody : ∀ (f : Addr) (cdv : Value) (A : Around) (outer : List Env) (s : Shared) (H : Hp) (vs : List V) (Q : VK) (E : XK), Room k (A.deeper (envOfC x (defScope st) s.heap.objs.size f cdv)) → sp vs H Q E →
      ∃ t, PSs (cxOf CX0 P w K mg base N x (defScope st) f cdv A outer s H E).nox (defBody st) t ∧ t { nx := fun _ H' => Q .non H', rt := Q } (start N vs) H) : Cl P w K mg base (k + 1) x sp := by
  obtain ⟨f, fd, F, hm, b⟩ := F.ex
  exact ⟨f, fd, ps, F.ok S len fun cdv A outer s H vs Q E hr h => hbody f cdv A outer s H vs Q E hr h, hm, F.kp, b⟩
end
/-! ### what is kept: all but what stands at p -/
def Fp (p : Addr) (H H' : Hp) : Prop := ∀ b o, b ≠ p → H b = some o → H' b = some o
theorem Fp.refl (p : Addr) (H : Hp) : Fp p H H := fun _ _ _ h => h
theorem Fp.trans {p : Addr} {H H1 H2 : Hp} (a : Fp p H H1) (b : Fp p H1 H2) : Fp p H H2 := fun c o n h => b c o n (a c o n h)
theorem Fp.same {p : Addr} {H H' : Hp} (h : Same H H') : Fp p H H' := fun b o _ e => h b o e
theorem same_new {H : Hp} {p : Addr} {o : HO} (h : H p = none) : Same H (upd H p o) := fun b u q => by
  rw [upd_ne (ne_of_none q h)]
  exact q
theorem Fp.new {p : Addr} {H : Hp} {q : Addr} {o : HO} (h : H q = none) : Fp p H (upd H q o) := Fp.same (same_new h)
theorem Fp.at {p : Addr} {H : Hp} {o : HO} : Fp p H (upd H p o) := fun b u n e => by
  rw [upd_ne n]
  exact e
/-- a thing that was made since may change -/
theorem Fp.mut {p : Addr} {H H' : Hp} {q : Addr} {o : HO} (e : Fp p H H') (h : H q = none) : Fp p H (upd H' q o) := fun b u n hb => by
  rw [upd_ne (ne_of_none hb h)]
  exact e b u n hb
theorem same_mut {H H' : Hp} {q : Addr} {o : HO} (e : Same H H') (h : H q = none) : Same H (upd H' q o) := fun b u hb => by
  rw [upd_ne (ne_of_none hb h)]
  exact e b u hb
theorem Fp.free {p : Addr} {H H' : Hp} (e : Fp p H H') {b : Addr} (n : b ≠ p) (h : H' b = none) : H b = none := by
  cases q : H b with
  | none => rfl
  | some o =>
    rw [e b o n q] at h
    cases h
/-! ### the pot -/
structure PotAt (H : Hp) (p c : Addr) (ns : List Int) (a r : Int) : Prop where
  hp : H p = some (.lst [.ref c, .int a, .int r])
  hc : H c = some (.lst (ns.map V.int))
  ha : 0 ≤ a
  hr : 0 ≤ r
def Pot (H : Hp) (p c : Addr) (ns : List Int) : Prop := ∃ a r, PotAt H p c ns a r
theorem PotAt.ne {H : Hp} {p c : Addr} {ns : List Int} {a r : Int} (h : PotAt H p c ns a r) : c ≠ p := ne_of h.hc h.hp (by
  intro e
  have e2 := HO.lst.inj e
  cases ns with
  | nil => cases e2
  | cons x t => cases e2)
theorem Pot.same {H H' : Hp} {p c : Addr} {ns : List Int} (h : Pot H p c ns) (e : Same H H') : Pot H' p c ns := by
  obtain ⟨a, r, q⟩ := h
  exact ⟨a, r, e _ _ q.hp, e _ _ q.hc, q.ha, q.hr⟩
theorem PotAt.upd {H : Hp} {p c : Addr} {ns : List Int} {a r a' r' : Int} (h : PotAt H p c ns a r) (ha : 0 ≤ a') (hr : 0 ≤ r') : PotAt (upd H p (.lst [.ref c, .int a', .int r'])) p c ns a' r' :=
  ⟨upd_same, by rw [upd_ne h.ne]; exact h.hc, ha, hr⟩
theorem Pot.nep {H : Hp} {p c q : Addr} {ns : List Int} (h : Pot H p c ns) (hq : H q = none) : q ≠ p := fun e => by
  obtain ⟨a, r, z⟩ := h
  rw [e, z.hp] at hq
  cases hq
theorem Pot.nec {H : Hp} {p c q : Addr} {ns : List Int} (h : Pot H p c ns) (hq : H q = none) : q ≠ c := fun e => by
  obtain ⟨a, r, z⟩ := h
  rw [e, z.hc] at hq
  cases hq
theorem Pot.mut {H : Hp} {p c q : Addr} {ns : List Int} {o : HO} (h : Pot H p c ns) (n : q ≠ p) (m : q ≠ c) : Pot (upd H q o) p c ns := by
  obtain ⟨a, r, z⟩ := h
  exact ⟨a, r, by rw [upd_ne n.symm]; exact z.hp, by rw [upd_ne m.symm]; exact z.hc, z.ha, z.hr⟩
/-- from H to H': all but the pot is kept, the pot is a pot -/
structure Go (p c : Addr) (ns : List Int) (H H' : Hp) : Prop where
  st : Pot H p c ns
  k : Fp p H H'
  pot : Pot H' p c ns
section
variable {p c q : Addr} {ns : List Int} {H H1 H2 : Hp} {o : HO}
theorem Go.refl (h : Pot H p c ns) : Go p c ns H H := ⟨h, Fp.refl p H, h⟩
theorem Go.trans (a : Go p c ns H H1) (b : Go p c ns H1 H2) : Go p c ns H H2 := ⟨a.st, a.k.trans b.k, b.pot⟩
theorem Go.same (a : Go p c ns H H1) (e : Same H1 H2) : Go p c ns H H2 := ⟨a.st, a.k.trans (Fp.same e), a.pot.same e⟩
theorem Go.new (a : Go p c ns H H1) (h : H1 q = none) : Go p c ns H (upd H1 q o) := a.same (same_new h)
/-- a thing made since the beginning is changed -/
theorem Go.mut (a : Go p c ns H H1) (h : H q = none) : Go p c ns H (upd H1 q o) := ⟨a.st, a.k.mut h, a.pot.mut (a.st.nep h) (a.st.nec h)⟩
theorem Go.free (a : Go p c ns H H1) (h : H1 q = none) : H q = none := a.k.free (a.pot.nep h) h
theorem Go.get (a : Go p c ns H H1) (n : q ≠ p) (h : H q = some o) : H1 q = some o := a.k q o n h
end

/-! ### loops over enumerate, comprehensions over zip -/
theorem for_enum {K : PySem.W.Frag} {a : Addr} {xs : List V} {g : TG} {tb : TS} {D : Ends} {σ : L2.St} {H : Hp} (Pv : Nat → L2.St → Hp → Prop) (h0 : Pv 0 σ H) (hl : ∀ i σ H, i ≤ xs.length → Pv i σ H → SqL K H a xs)
    (hs : ∀ (i : Nat) x σ H T, xs[i]? = some x → Pv i σ H → H T = none → g (.ref T) σ (upd H T (.tup [.int (i : Nat), x])) fun σ2 H2 => tb { D with nx := Pv (i + 1), ct := Pv (i + 1), bk := D.nx } σ2 H2) (hd : ∀ σ H, Pv xs.length σ H → D.nx σ H) :
    ∃ W : Nat → Nat → L2.St → Hp → Prop, (∃ m, W 0 m σ H) ∧ ∀ i m σ H, W i m σ H →
      ((Ite K a).stop i H ∧ D.nx σ H) ∨ ((Ite K a).go i H ∧ ∃ N : L2.St → Hp → Prop, (∀ σ' H', N σ' H' → ∃ m', m' < m ∧ W (i + 1) m' σ' H') ∧ ∀ x H', (Ite K a).yld i H x H' → g x σ H' fun σ2 H2 => tb { D with nx := N, ct := N, bk := D.nx } σ2 H2) := by
  refine ⟨fun i m σ H => i ≤ xs.length ∧ m + i = xs.length ∧ Pv i σ H, ⟨xs.length, Nat.zero_le _, rfl, h0⟩, fun i m σ H hw => ?_⟩
  obtain ⟨hi, hm, hp⟩ := hw
  have hq := hl i σ H hi hp
  by_cases hlt : i < xs.length
  · refine .inr ⟨⟨xs, xs[i], hq, List.getElem?_eq_getElem hlt⟩, Pv (i + 1), fun σ' H' hp' => ⟨m - 1, by omega, by omega, by omega, hp'⟩, fun x H' hy => ?_⟩
    obtain ⟨T, y, rfl, nT, rfl, fy⟩ := hy
    exact hs i y σ H T (fy xs hq) hp nT
  · have ei : i = xs.length := by omega
    rw [ei] at hp
    exact .inl ⟨⟨xs, hq, by omega⟩, hd σ H hp⟩
/-! ### slices by plain numbers -/
theorem cut_from (xs : List V) (k : Nat) : cutV xs (some (k : Int)) none = xs.drop k := by
  unfold cutV
  rw [HT.sIx_nat, HT.sIx_none]
  by_cases h : k ≤ xs.length
  · rw [Nat.min_eq_left h, ← List.length_drop]
    exact List.take_length
  · have h2 : xs.length ≤ k := by omega
    rw [Nat.min_eq_right h2, List.drop_of_length_le h2, List.drop_of_length_le (Nat.le_refl _)]
    exact List.take_nil
theorem cut_to (xs : List V) (k : Nat) : cutV xs none (some (k : Int)) = xs.take k := by
  unfold cutV
  rw [HT.sIx_nat, HT.sIx_none, List.drop_zero, Nat.sub_zero]
  by_cases h : k ≤ xs.length
  · rw [Nat.min_eq_left h]
  · rw [Nat.min_eq_right (by omega), List.take_length, List.take_of_length_le (by omega)]
theorem cut_len (xs : List V) (lo hi : Option Int) : (cutV xs lo hi).length ≤ xs.length := by
  unfold cutV
  rw [List.length_take, List.length_drop]
  omega
theorem cut_map (f : Int → V) (ns : List Int) (lo hi : Option Int) : ∃ ms : List Int, cutV (ns.map f) lo hi = ms.map f ∧ ms.length ≤ ns.length := by
  unfold cutV
  refine ⟨_, by rw [← List.map_drop, ← List.map_take], ?_⟩
  rw [List.length_take, List.length_drop, List.length_map]
  omega

section
variable {X : Cx}
/-- a statement, a word behind it, the rest from that word -/
def tMid (t u : TS) : TS := fun D σ H => ∃ M : L2.St → Hp → Prop, t { D with nx := M } σ H ∧ ∀ σ' H', M σ' H' → u D σ' H'
theorem pss_cut' {st : Stmt} {rest : List Stmt} {t u : TS} (h1 : PS X st t) (h2 : PSs X rest u) : PSs X (st :: rest) (tMid t u) := Evl.pss_cut h1 h2
end

def nV (k : Nat) : V := .int (k : Int)
def numV : Option Nat → V
  | none => .non
  | some n => nV n
def strV : Option Str → V
  | none => .non
  | some x => .str x
/-! ### data: lists of ints, lists of texts -/
theorem dp_ints {K : PySem.W.Frag} {H : Hp} : ∀ ns : List Int, DpAll K H (ns.map V.int) (ns.map PyData.int)
  | [] => .nil
  | n :: r => .cons (.int n) (dp_ints r)
theorem dp_strs {K : PySem.W.Frag} {H : Hp} : ∀ xs : List Str, DpAll K H (xs.map V.str) (xs.map PyData.str)
  | [] => .nil
  | x :: r => .cons (.str x) (dp_strs r)
theorem lay_ints : ∀ ns : List Int, PyData.canLayAll0 (ns.map PyData.int) = true
  | [] => rfl
  | n :: r => by
    show (PyData.canLay0 (.int n) && PyData.canLayAll0 (r.map PyData.int)) = true
    rw [lay_ints r]
    rfl
theorem depth_ints : ∀ ns : List Int, PyData.depthAll (ns.map PyData.int) = 0
  | [] => rfl
  | n :: r => by
    show max (PyData.depth (.int n)) (PyData.depthAll (r.map PyData.int)) = 0
    rw [depth_ints r]
    rfl
theorem shaped_list {ds : List PyData} {n : Nat} (h1 : PyData.canLayAll0 ds = true) (h2 : PyData.depthAll ds ≤ n) (h3 : n < 64) : SeqAt.shaped (.list ds) = true := by
  unfold SeqAt.shaped
  rw [Bool.and_eq_true, decide_eq_true_eq]
  refine ⟨h1, ?_⟩
  show PyData.depthAll ds + 1 ≤ 64
  omega
theorem shaped_tuple {ds : List PyData} {n : Nat} (h1 : PyData.canLayAll0 ds = true) (h2 : PyData.depthAll ds ≤ n) (h3 : n < 64) : SeqAt.shaped (.tuple ds) = true := by
  unfold SeqAt.shaped
  rw [Bool.and_eq_true, decide_eq_true_eq]
  refine ⟨h1, ?_⟩
  show PyData.depthAll ds + 1 ≤ 64
  omega
theorem shaped_ints (ns : List Int) : SeqAt.shaped (.list (ns.map PyData.int)) = true := shaped_list (lay_ints ns) (Nat.le_of_eq (depth_ints ns)) (by decide)
theorem lay_strs : ∀ xs : List Str, (∀ x ∈ xs, PyData.strOk x = true) → PyData.canLayAll0 (xs.map PyData.str) = true
  | [], _ => rfl
  | x :: r, h => by
    show (PyData.canLay0 (.str x) && PyData.canLayAll0 (r.map PyData.str)) = true
    rw [lay_strs r fun y hy => h y (List.mem_cons_of_mem _ hy), Bool.and_true]
    exact h x List.mem_cons_self
theorem depth_strs : ∀ xs : List Str, PyData.depthAll (xs.map PyData.str) = 0
  | [] => rfl
  | n :: r => by
    show max (PyData.depth (.str n)) (PyData.depthAll (r.map PyData.str)) = 0
    rw [depth_strs r]
    rfl
theorem shaped_strs {xs : List Str} (h : ∀ x ∈ xs, PyData.strOk x = true) : SeqAt.shaped (.list (xs.map PyData.str)) = true := shaped_list (lay_strs xs h) (Nat.le_of_eq (depth_strs xs)) (by decide)
theorem eqv_ints_nil (ns : List Int) : PyData.eqv (.list (ns.map PyData.int)) (.list []) = decide (ns = []) := by
  cases ns with
  | nil => rfl
  | cons n r => rfl

/-! ### the rules that name the written part, with its name given -/
section
variable {X : Cx} {tg l e : Expr} {tl te to : TE} {t : TA} {T : String}
theorem ix_listK (K : PySem.W.Frag) (h : X.K = K := by rfl) : IxR X (rIxL K) := by subst h; exact ix_list
theorem ix_tupK (K : PySem.W.Frag) (h : X.K = K := by rfl) : IxR X (rIxT K) := by subst h; exact ix_tup
theorem sl_listK (K : PySem.W.Frag) (h : X.K = K := by rfl) : SlR X (rSlL K) := by subst h; exact sl_list
theorem sl_tupK (K : PySem.W.Frag) (h : X.K = K := by rfl) : SlR X (rSlA K) := by subst h; exact sl_tupA
theorem op_inK (K : PySem.W.Frag) (h : X.K = K := by rfl) : OpR X (compareOp .In) (rIn K false) := by subst h; exact op_in_seq
theorem op_notInK (K : PySem.W.Frag) (h : X.K = K := by rfl) : OpR X (compareOp .NotIn) (rIn K true) := by subst h; exact op_notIn_seq
theorem op_eqK (K : PySem.W.Frag) (hu : X.A.units + 64 < cLine) (h : X.K = K := by rfl) : OpR X (compareOp .Eq) (rEqD K) := by subst h; exact op_eqD hu
theorem op_neK (K : PySem.W.Frag) (hu : X.A.units + 64 < cLine) (h : X.K = K := by rfl) : OpR X (compareOp .NotEq) (rNeD K) := by subst h; exact op_neD hu
def rLenK (K : PySem.W.Frag) : List V → Hp → VK → Prop := fun xs H Q => ∃ p ys, xs = [.ref p] ∧ (SqL K H p ys ∨ SqT K H p ys) ∧ Q (.int ys.length) H
theorem call_lenK (K : PySem.W.Frag) (h : X.K = K := by rfl) : CallR X (.builtin "len") (rLenK K) := by subst h; exact call_len_seq
def rListK (K : PySem.W.Frag) : List V → Hp → VK → Prop := fun xs H Q => ∃ p ys, xs = [.ref p] ∧ (SqL K H p ys ∨ SqT K H p ys) ∧ ∀ l, H l = none → Q (.ref l) (upd H l (.lst ys))
theorem call_listK (K : PySem.W.Frag) (h : X.K = K := by rfl) : CallR X (.type "list") (rListK K) := by subst h; exact call_list_of
theorem cr_allK (K : PySem.W.Frag) (h : X.K = K := by rfl) (hc : X.calm = true := by rfl) : CallR X (.builtin "all") (rAll K) := by subst h; exact cr_all hc
theorem call_isiK' (K : PySem.W.Frag) (h : X.K = K := by rfl) : CallR X (.builtin "isinstance") (rIsi K) := by subst h; exact call_isi
theorem call_isiTK (K : PySem.W.Frag) (h : X.K = K := by rfl) : CallR X (.builtin "isinstance") (rIsiT K) := by subst h; exact call_isiT
theorem mt_indexK (K : PySem.W.Frag) (h : X.K = K := by rfl) : MtR X "list.index" (rIndex K) := by subst h; exact mt_index
theorem pi_listK (K : PySem.W.Frag) (hl : PE X l tl) (h : X.K = K := by rfl) : PI X tg l (iList K tl) := by subst h; exact pi_list hl
theorem pi_enumK {ta : TA} {p pos tpos : Pos} {elts : List Expr} {kk : Nat} (K : PySem.W.Frag) (hg : Gl X "enumerate") (hm : X.mg "enumerate" = none) (ha : PA X [e] ta) (h : X.K = K := by rfl) (hs : starEach [e] X.env = [(false, eval e X.env)] := by rfl) :
    PI X (.Tuple elts kk tpos) (.Call (.Name "enumerate" p) [e] [] pos) (iEnum K ta) := by subst h; exact pi_enum hg hm ha hs
theorem pi_zipK {e2 : Expr} {ta : TA} {p pos tpos : Pos} {elts : List Expr} {kk : Nat} (K : PySem.W.Frag) (hg : Gl X "zip") (hm : X.mg "zip" = none) (ha : PA X [e, e2] ta) (h : X.K = K := by rfl)
    (hs : starEach [e, e2] X.env = (false, eval e X.env) :: starEach [e2] X.env := by rfl) (hpl : (backTo pos (starEach [e2] X.env)).any (·.1) = false := by rfl) :
    PI X (.Tuple elts kk tpos) (.Call (.Name "zip" p) [e, e2] [] pos) (iZipA K ta) := by subst h; exact pi_zipA hg hm ha hs hpl
theorem pg_tupK {es : List Expr} {k : Nat} {t : TGs} {pos : Pos} (K : PySem.W.Frag) (n : Nat) (hc : X.calm = true) (hts : PGs X es t) (h : X.K = K := by rfl) (hn : (assignEach es X.env).length = n := by rfl) (hst : (assignEach es X.env).findIdx? (·.1) = none := by rfl) :
    PG X (.Tuple es k pos) (gTup K n t) := by subst h; exact pg_tup hc hts hn hst
def tTruK (K : PySem.W.Frag) (ta : TE) : TT := fun σ H Q => ta σ H fun x H' => ∃ k, TruV K x H' k ∧ Q k H'
theorem pt_truK {a : Expr} {ta : TE} (K : PySem.W.Frag) (ha : PE X a ta) (he : ∀ whole, isTrue a X.env whole = (do let v ← whole; standAt a.pos; holding [v] (truthy v))) (h : X.K = K := by rfl) : PT X a (tTruK K ta) := by subst h; exact pt_truth ha he
theorem pe_revK {k : Nat} {p1 p2 p3 pos : Pos} (K : PySem.W.Frag) (he : PE X e te) (h : X.K = K := by rfl) : PE X (.Subscript e (.Slice none none (some (.UnaryOp .USub (.Constant (.int 1) k p1) p2)) p3) pos) (tRevL K te) := by subst h; exact pe_revL he
def rJoinK (K : PySem.W.Frag) : V → List V → Hp → VK → Prop := fun x xs H Q => ∃ a p, ∃ ys : List Str, x = .str a ∧ xs = [.ref p] ∧ (SqL K H p (ys.map V.str) ∨ SqT K H p (ys.map V.str)) ∧
      (ys.map (·.length)).sum + ys.length * a.length ≤ 16777216 ∧ Q (.str (Txt.join a ys)) H
theorem pe_joinK {o : Expr} {apos pos : Pos} (K : PySem.W.Frag) (ho : PE X o to) (he : PE X e te) (h : X.K = K := by rfl) (hs : starEach [e] X.env = [(false, eval e X.env)] := by rfl) (hbase : attributeBase o "join" X.env (eval o X.env) = eval o X.env := by rfl) (hline : (apos.endLine == pos.line) = true := by rfl) :
    PE X (.Call (.Attribute o "join" apos) [e] [] pos) (tM1 (rJoinK K) to te) := by subst h; exact pe_join ho he hs hbase hline
end
section
variable {X : Cx} {o : Expr} {to : TE} {t : TA} {T name id : String} {r : V → List V → Hp → VK → Prop} {apos cpos : Pos} {e : Expr} {es : List Expr}
theorem pe_bm0K (K : PySem.W.Frag) (pa : PlainAttrs T) (slot : Slot T name id) (hty : typeOf (.builtin id) = pure (.type "method_descriptor")) (hm : MtR X id r) (ho : PE X o to) (h : X.K = K := by rfl)
    (hbase : attributeBase o name X.env (eval o X.env) = eval o X.env := by rfl) (hline : (apos.endLine == cpos.line) = true := by rfl) : PE X (.Call (.Attribute o name apos) [] [] cpos) (tBM0 K T r to) := by subst h; exact pe_bm0 pa slot hty hm ho hbase hline
theorem pe_bmK (K : PySem.W.Frag) (pa : PlainAttrs T) (slot : Slot T name id) (hty : typeOf (.builtin id) = pure (.type "method_descriptor")) (hm : MtR X id r) (ho : PE X o to) (ha : PA X (e :: es) t) (h : X.K = K := by rfl)
    (hbase : attributeBase o name X.env (eval o X.env) = eval o X.env := by rfl)
    (hfew : ((backTo cpos (starEach (e :: es) X.env)).all (fun x => !x.1) && (backToKw cpos (keywordEach [] X.env)).all (fun x => x.1.isSome) && decide ((e :: es).length + ([] : List Keyword).length + (if ([] : List Keyword).isEmpty then 0 else 1) < 30)) = true := by rfl)
    (hline : (apos.endLine == cpos.line) = true := by rfl) (hs : starEach (e :: es) X.env = (false, eval e X.env) :: starEach es X.env := by rfl) (hplain : (backTo cpos (starEach es X.env)).any (·.1) = false := by rfl) :
    PE X (.Call (.Attribute o name apos) (e :: es) [] cpos) (tBM K T r to t) := by subst h; exact pe_bm pa slot hty hm ho ha hbase hfew hline hs hplain
end
end Kin
/-! any of a list of lists; a text taken several times -/
namespace Kin
open PySem PySem.Spec PyProof.Rows L2 RZ
section
variable {prog : Program} {w : World} {A : Around} {R : Result → Shared → Prop} {I : Addr} {fp wr : List Addr} {n : Nat} {P : Nat → Value → Prop} {St : Nat → Heap → Prop}
/-- the loop of any, the items' truths read off the heap as it stands (all but wr is as in h0) -/
theorem any_turns (W : Walks prog w A.in1 I fp wr n P St) (h0 : Heap) (tr : Nat → Bool)
    (htr : ∀ i v (s : Shared) (Q : Bool → Shared → Prop) (E : Value → Shared → Prop), P i v → (∀ b o, b ∉ wr → h0.get? b = some o → s.heap.get? b = some o) → (∀ tk, Q (tr i) { s with toks := tk }) → wpAny (model prog w) A.in1 (truthy v) Q E s) :
    ∀ (k i : Nat) (s : Shared), k + i = n → St i s.heap → (∀ b o, b ∉ wr → h0.get? b = some o → s.heap.get? b = some o) →
      (∀ h' tk, (∀ b o, b ∉ wr → h0.get? b = some o → h'.get? b = some o) → R (.ok (.ret (.bool (((List.range n).drop i).any tr)))) { s with heap := h', toks := tk }) → codeAny (model prog w) A (.builtin "any.loop" ⟨[.ref I], []⟩) R s
  | 0, i, s, hk, hst, h0s, hR => by
    have hin : i = n := by omega
    rw [hin] at hst hR
    refine codeAny_builtin F.entry_any_loop (by
      rw [Around.under_plainId F.plain_any_loop _]
      refine wpAny_bind (W.done s _ _ hst fun h' tk hk' => wpAny_bind (wpAny_rule (wpAny_pure ?_)))
      have q := hR h' tk fun b o hb e => hk' b o hb (h0s b o hb e)
      rw [List.drop_of_length_le (Nat.le_of_eq List.length_range)] at q
      exact q)
  | k + 1, i, s, hk, hst, h0s, hR => by
    have hlt : i < n := by omega
    have hd : (List.range n).drop i = i :: (List.range n).drop (i + 1) := by
      rw [List.drop_eq_getElem_cons (by rw [List.length_range]; exact hlt), List.getElem_range]
    refine codeAny_builtin F.entry_any_loop (by
      rw [Around.under_plainId F.plain_any_loop _]
      refine wpAny_bind (W.item i s _ _ hlt hst fun v h' tk hP hst' hk' => ?_)
      have h0' : ∀ b o, b ∉ wr → h0.get? b = some o → h'.get? b = some o := fun b o hb e => hk' b o hb (h0s b o hb e)
      refine wpAny_bind (wpAny_holding (htr i v _ _ _ hP h0' fun tk2 => wpAny_bind (wpAny_letGo ?_)))
      cases hb : tr i with
      | false =>
        refine wpAny_pure ⟨plainId_quiet F.plain_any_loop _, any_turns W h0 tr htr k (i + 1) _ (by omega) hst' h0' fun h2 tk3 hk2 => ?_⟩
        have q := hR h2 tk3 hk2
        rw [hd, List.any_cons, hb, Bool.false_or] at q
        exact q
      | true =>
        refine wpAny_bind (wpAny_rule (wpAny_pure ?_))
        have q := hR h' tk2 h0'
        rw [hd, List.any_cons, hb, Bool.true_or] at q
        exact q)
end
/-- lists that stand at these places -/
abbrev Lists (K : PySem.W.Frag) (H : Hp) : List Addr → List (List V) → Prop := Paired fun a xs => SqL K H a xs
theorem Lists.get {K : PySem.W.Frag} {H : Hp} : ∀ {as : List Addr} {xss : List (List V)} {i : Nat} {a : Addr}, Lists K H as xss → as[i]? = some a → ∃ xs, xss[i]? = some xs ∧ SqL K H a xs
  | _, _, _, _, .nil, e => by cases e
  | _, _, 0, _, .cons r _, e => by cases e; exact ⟨_, rfl, r⟩
  | _, _, i + 1, _, .cons _ t, e => Lists.get (i := i) t e
def rAnyL (K : PySem.W.Frag) : List V → Hp → VK → Prop := fun vs H Q => ∃ (a : Addr) (as : List Addr) (xss : List (List V)), vs = [V.ref a] ∧ SqL K H a (as.map V.ref) ∧ Lists K H as xss ∧ Q (.bl (xss.any fun xs => !xs.isEmpty)) H
theorem any_nums {α : Type} (f : α → Bool) : ∀ (xs : List α), ((List.range xs.length).any fun i => (xs[i]?.map f).getD false) = xs.any f
  | [] => rfl
  | x :: r => by
    rw [List.length_cons, List.range_succ_eq_map, List.any_cons, List.any_map, List.any_cons, ← any_nums f r]
    rfl
theorem cr_anyL {X : Cx} (hc : X.calm = true) : CallR X (.builtin "any") (rAnyL X.K) := by
  intro pins s σ H vs us Q I r h
  obtain ⟨a, as, xss, rfl, hs, hL, q⟩ := h
  obtain ⟨its, rv, hl, _⟩ := I.list hs
  rw [Vals.ref1 r]
  have hlen : its.length = xss.length := by
    rw [← rv.length, List.length_map]
    exact Paired.length hL
  refine call_function_tree F.kind_any F.plain_any F.entry_any (F.args_any1 _) (by
    unfold Builtin.«any»
    refine wpAny_bind (m := oneArg "any" _) (wpAny_pure (wpAny_bind (iter_any hl.isList fun s2 e2 st hne => ?_)))
    subst e2
    refine wpAny_pure ⟨plainId_quiet F.plain_any_loop _, any_turns (Walks.list (A := X.A.in1) (I.ok.hd hc) _ a hne its.toArray) s.heap (fun i => (xss[i]?.map fun xs => !xs.isEmpty).getD false) ?_ _ 0 _ rfl st (fun b o _ e => Heap.get?_push_of_some _ e) ?_⟩
    · intro i v s3 Q3 E3 hv hk hq
      have hv' : its[i]? = some v := by simpa using hv
      have hi : i < its.length := (List.getElem?_eq_some_iff.mp hv').1
      have hia : i < as.length := by rw [hlen, ← Paired.length hL] at hi; exact hi
      obtain ⟨u, hu, ru⟩ := rv.get (i := i) (x := .ref as[i]) (by rw [List.getElem?_map, List.getElem?_eq_getElem hia]; rfl)
      have euv : u = v := Option.some.inj (hu.symm.trans hv')
      subst euv
      obtain ⟨xs, hx, hX⟩ := hL.get (List.getElem?_eq_getElem hia)
      have hq2 := hq
      rw [hx] at hq2
      cases ru
      obtain ⟨ys, ry, pl, hz⟩ := I.list hX
      have hzz := ry.length
      have hl3 := line63
      have nw : as[i] ∉ [s.heap.objs.size] := fun hm => by
        have e1 := List.mem_singleton.mp hm
        obtain ⟨o, eo, _⟩ := pl.isList
        exact absurd (e1 ▸ Heap.lt_size eo) (Nat.lt_irrefl _)
      have il : s3.heap.IsList as[i] ys.toArray := pl.isList.at fun o e => hk _ o nw e
      refine wpAny_truthy_list il (by simp only [List.size_toArray]; omega) ?_
      rw [isEmpty_of ry]
      exact hq2 _
    · intro h' tk hk
      rw [List.drop_zero, List.size_toArray, hlen, any_nums]
      refine ⟨.bl _, H, I.kept fun b o eo => hk b o (fun hm => ?_) eo, rfl, q⟩
      exact absurd (List.mem_singleton.mp hm ▸ Heap.lt_size eo) (Nat.lt_irrefl _))
theorem cr_anyLK {X : Cx} (K : PySem.W.Frag) (h : X.K = K := by rfl) (hc : X.calm = true := by rfl) : CallR X (.builtin "any") (rAnyL K) := by subst h; exact cr_anyL hc
/-! ### a text, so many times -/
theorem fold_rep (a : Array Nat) : ∀ (m : Nat) (acc : Array Nat), List.foldl (fun x1 x2 => x1 ++ x2) acc (List.replicate m a) = acc ++ (List.replicate m a.toList).flatten.toArray
  | 0, acc => by
    show acc = acc ++ #[]
    rw [Array.append_empty]
  | m + 1, acc => by
    rw [List.replicate_succ, List.foldl_cons, fold_rep a m, List.replicate_succ, List.flatten_cons, Array.append_assoc, ← List.append_toArray, Array.toArray_toList]
def rRepS : R2 := fun x y H Q => ∃ (z : Str) (k : Int), x = .str z ∧ y = .int k ∧ 1 ≤ k ∧ k ≤ 1000 ∧ z.length ≤ 1000 ∧ 1 ≤ z.length ∧ Q (.str ⟨(List.replicate k.toNat z.cps.toList).flatten.toArray⟩) H
theorem op_repS {X : Cx} : OpR X (binaryOp .Mult) rRepS := by
  intro pins s σ H x y v u Q I rx ry h
  obtain ⟨z, k, rfl, rfl, h1, h2, h3, h4, q⟩ := h
  obtain ⟨t, rfl⟩ := rx
  obtain ⟨t2, rfl⟩ := ry
  have c1 : ¬ k < 1 := by omega
  have hm : MulOk z k := by
    refine ⟨?_, fun _ _ => ?_, fun _ _ => ?_⟩
    · rw [decide_eq_false (by omega), decide_eq_false (by omega)]
      rfl
    · have e : (2 ^ 63 - 1 : Int) / 1000 ≤ (2 ^ 63 - 1) / k := by
        have e2 : (2 ^ 63 - 1 : Int) / k * k = (2 ^ 63 - 1) - (2 ^ 63 - 1) % k := by
          have := Int.mul_ediv_add_emod (2 ^ 63 - 1) k
          rw [Int.mul_comm] at this
          omega
        have e3 := Int.emod_lt_of_pos (2 ^ 63 - 1) (show 0 < k by omega)
        refine Int.not_lt.mp fun hlt => ?_
        have e4 : (2 ^ 63 - 1 : Int) / k * k ≤ ((2 ^ 63 - 1) / 1000 - 1) * k := Int.mul_le_mul_of_nonneg_right (by omega) (by omega)
        have e5 : ((2 ^ 63 - 1 : Int) / 1000 - 1) * k ≤ ((2 ^ 63 - 1) / 1000 - 1) * 1000 := Int.mul_le_mul_of_nonneg_left h2 (by decide)
        omega
      have e6 : (1000 : Int) < (2 ^ 63 - 1) / 1000 := by decide
      omega
    · have e : z.length * k.toNat ≤ 1000 * 1000 := Nat.mul_le_mul h3 (by omega)
      have e2 : sizeLine = 16777216 := sizeLine_eq
      exact decide_eq_false (by omega)
  refine SB.mul hm fun t3 k3 => ⟨.str _, H, I.tok _, ?_, q⟩
  have e : Txt.mul z k = ⟨(List.replicate k.toNat z.cps.toList).flatten.toArray⟩ := by
    unfold Txt.mul
    rw [if_neg c1]
    by_cases c2 : (k == 1 || z.length == 0) = true
    · rw [if_pos c2]
      have c3 : k = 1 := by
        rcases Bool.or_eq_true _ _ ▸ c2 with c | c
        · exact eq_of_beq c
        · have := eq_of_beq c
          omega
      subst c3
      show z = ⟨(z.cps.toList ++ []).toArray⟩
      rw [List.append_nil]
    · rw [if_neg c2]
      have c4 := fold_rep z.cps k.toNat #[]
      rw [Array.empty_append] at c4
      rw [c4]
  rw [e]
  exact ⟨t3, rfl⟩
end Kin
/-! the mathematics of the drawn names -/
namespace Kin
open PySem PySem.Spec PyProof.Rows L2 RZ
def mk (l : List Nat) : Str := ⟨l.toArray⟩
theorem mk_tl (l : List Nat) : (mk l).cps.toList = l := rfl
theorem mk_len (l : List Nat) : (mk l).length = l.length := List.size_toArray
theorem mk_inj {a b : List Nat} (h : mk a = mk b) : a = b := by
  have e := congrArg (fun z : Str => z.cps.toList) h
  exact e
theorem mk_app (a b : List Nat) : mk a ++ mk b = mk (a ++ b) := TL.ext_tl (by rw [TL.tl_append]; rfl)
theorem mk_to (l : List Nat) (k : Nat) : cutS (mk l) none (some (k : Int)) = mk (l.take k) := by
  unfold cutS
  rw [HT.sIx_nat, HT.sIx_none, mk_tl, mk_len, List.drop_zero, Nat.sub_zero]
  by_cases h : k ≤ l.length
  · rw [Nat.min_eq_left h]; rfl
  · rw [Nat.min_eq_right (by omega), List.take_length, List.take_of_length_le (by omega)]; rfl
theorem mk_from (l : List Nat) (k : Nat) : cutS (mk l) (some (k : Int)) none = mk (l.drop k) := by
  unfold cutS
  rw [HT.sIx_nat, HT.sIx_none, mk_tl, mk_len]
  by_cases h : k ≤ l.length
  · rw [Nat.min_eq_left h, ← List.length_drop, List.take_length]; rfl
  · rw [Nat.min_eq_right (by omega), List.drop_of_length_le (by omega), List.drop_of_length_le (by omega), List.take_nil]; rfl
theorem mk_join : ∀ cs : List Nat, Txt.join (mk []) (cs.map fun c => mk [c]) = mk cs := by
  have go : ∀ cs : List Nat, TL.joinL [] (cs.map fun c => [c]) = cs := fun cs => by
    induction cs with
    | nil => rfl
    | cons a r ih =>
      cases r with
      | nil => rfl
      | cons b t =>
        show [a] ++ ([] ++ TL.joinL [] ((b :: t).map fun c => [c])) = a :: b :: t
        rw [ih]
        rfl
  intro cs
  rw [TL.join_eq]
  refine TL.ext_tl ?_
  rw [TL.tl_join, List.map_map]
  exact go cs
/-- a letter, by its number -/
def letter (i : Nat) : Nat := 97 + i % 26
def small : Str := mk ((List.range 26).map letter)
theorem small_eq : (Str.ofString "abcdefghijklmnopqrstuvwxyz") = small := by decide +kernel
theorem at_gen {α : Type} {xs : List α} {z : Int} {j : Nat} {v : α} (e : z = (j : Int)) (h : xs[j]? = some v) : atI xs z = some v := by
  rw [e]
  exact atI_nat h
theorem small_at {i : Int} (h0 : 0 ≤ i) (h1 : i < 26) : atI small.cps.toList i = some (letter i.toNat) := by
  refine at_gen (by omega : i = (i.toNat : Int)) ?_
  have h2 : i.toNat < 26 := by omega
  show ((List.range 26).map letter)[i.toNat]? = _
  rw [List.getElem?_map, List.getElem?_range h2]
  rfl
theorem letter_inj {a b t : Nat} (h : letter (t + 5 * a) = letter (t + 5 * b)) (ha : a < 26) (hb : b < 26) : a = b := by
  unfold letter at h
  omega
theorem letter_rng (i : Nat) : 97 ≤ letter i ∧ letter i ≤ 122 := by
  unfold letter
  omega
def IsName (x : Str) : Prop := ∃ cs : List Nat, x = mk cs ∧ 1 ≤ cs.length ∧ cs.length ≤ 8 ∧ ∀ c ∈ cs, 97 ≤ c ∧ c ≤ 122
theorem IsName.ok {x : Str} (h : IsName x) : PyData.strOk x = true := by
  obtain ⟨cs, rfl, _, _, h⟩ := h
  unfold PyData.strOk
  rw [Array.all_eq_true]
  intro i hi
  have := h (mk cs).cps[i] (by
    show (mk cs).cps[i] ∈ (mk cs).cps.toList
    exact Array.getElem_mem_toList hi)
  exact decide_eq_true (by omega)
def partL (rest : List Nat) (size spot k : Nat) : List Nat := rest.take ((size + k * (spot % 2)) % 8)
def spotL (spot n : Nat) : Nat := if spot = 0 then 0 else if spot = 1 then n else n / 2
def nameL (rest : List Nat) (spot turn size k : Nat) : List Nat := (partL rest size spot k).take (spotL spot (partL rest size spot k).length) ++ letter (turn + 5 * k) :: (partL rest size spot k).drop (spotL spot (partL rest size spot k).length)
theorem part_len (rest : List Nat) (size spot k : Nat) : (partL rest size spot k).length ≤ 7 := by
  unfold partL
  rw [List.length_take]
  omega
theorem spot_le (spot n : Nat) : spotL spot n ≤ n := by
  unfold spotL
  split
  · omega
  · split <;> omega
theorem name_ok {rest : List Nat} (hr : ∀ c ∈ rest, 97 ≤ c ∧ c ≤ 122) (spot turn size k : Nat) : IsName (mk (nameL rest spot turn size k)) := by
  have h1 := part_len rest size spot k
  have h2 := spot_le spot (partL rest size spot k).length
  have hp : ∀ c ∈ partL rest size spot k, 97 ≤ c ∧ c ≤ 122 := fun c hc => hr c (List.mem_of_mem_take hc)
  refine ⟨_, rfl, ?_, ?_, fun c hc => ?_⟩
  · unfold nameL
    rw [List.length_append, List.length_cons]
    omega
  · unfold nameL
    rw [List.length_append, List.length_cons, List.length_take, List.length_drop]
    omega
  · unfold nameL at hc
    rcases List.mem_append.mp hc with h | h
    · exact hp c (List.mem_of_mem_take h)
    · rcases List.mem_cons.mp h with h | h
      · rw [h]
        exact letter_rng _
      · exact hp c (List.mem_of_mem_drop h)
theorem name_inj {rest : List Nat} {spot turn size a b : Nat} (hs : spot < 3) (ha : a < 26) (hb : b < 26) (h : nameL rest spot turn size a = nameL rest spot turn size b) : a = b := by
  by_cases h1 : spot = 1
  · subst h1
    unfold nameL spotL at h
    rw [if_neg (by decide), if_pos rfl, if_neg (by decide), if_pos rfl, List.take_length, List.take_length, List.drop_length, List.drop_length] at h
    have e := congrArg List.getLast? h
    rw [List.getLast?_concat, List.getLast?_concat] at e
    exact letter_inj (Option.some.inj e) ha hb
  · have e2 : spot % 2 = 0 := by omega
    have ep : ∀ k, partL rest size spot k = partL rest size spot 0 := fun k => by
      unfold partL
      rw [e2, Nat.mul_zero, Nat.mul_zero]
    unfold nameL at h
    rw [ep a, ep b] at h
    have e := List.append_cancel_left h
    exact letter_inj (List.cons.inj e).1 ha hb
theorem nodup_map {α : Type} {f : Nat → α} {n : Nat} (h : ∀ a b, a < n → b < n → f a = f b → a = b) : ((List.range n).map f).Nodup := by
  unfold List.Nodup
  rw [List.pairwise_map]
  refine List.Pairwise.imp_of_mem (fun {a b} ha hb hlt => ?_) List.pairwise_lt_range
  intro e
  have := h a b (List.mem_range.mp ha) (List.mem_range.mp hb) e
  omega
def namesL (rest : List Nat) (spot turn size n : Nat) : List Str := (List.range n).map fun k => mk (nameL rest spot turn size k)
theorem names_nodup {rest : List Nat} {spot turn size n : Nat} (hs : spot < 3) (hn : n ≤ 26) : (namesL rest spot turn size n).Nodup :=
  nodup_map fun a b ha hb h => name_inj hs (by omega) (by omega) (mk_inj h)
/-- the third way: letters taken several times -/
def repL (turn k : Nat) : List Nat := List.replicate (1 + k % 8) (letter (turn + k / 8))
theorem rep_ok (turn k : Nat) : IsName (mk (repL turn k)) := by
  refine ⟨_, rfl, ?_, ?_, fun c hc => ?_⟩
  · unfold repL
    rw [List.length_replicate]
    omega
  · unfold repL
    rw [List.length_replicate]
    omega
  · unfold repL at hc
    rw [(List.mem_replicate.mp hc).2]
    exact letter_rng _
theorem rep_inj {turn a b : Nat} (ha : a < 200) (hb : b < 200) (h : repL turn a = repL turn b) : a = b := by
  have e1 := congrArg List.length h
  unfold repL at e1 h
  rw [List.length_replicate, List.length_replicate] at e1
  have e2 := congrArg List.head? h
  rw [List.head?_replicate, List.head?_replicate, if_neg (by omega), if_neg (by omega)] at e2
  have e3 := Option.some.inj e2
  unfold letter at e3
  omega
end Kin
/-! the mathematics of merging rows: lines and rings -/
namespace Kin
open PySem PySem.Spec PyProof.Rows L2 RZ
abbrev Rows := List (List Str)
def behind (left : Rows) : List Str := (left.map List.tail).flatten
def freeHd (left : Rows) (row : List Str) : Option Str := match row with
  | [] => none
  | h :: _ => if h ∈ behind left then none else some h
theorem freeHd_cons (left : Rows) (h : Str) (t : List Str) : freeHd left (h :: t) = if h ∈ behind left then none else some h := rfl
/-- the heads that stand behind no other head -/
def heads (left : Rows) : List Str := left.filterMap (freeHd left)
def without (name : Str) (row : List Str) : List Str := if row.head? = some name then row.tail else row
def done (left : Rows) : Bool := !(left.any fun r => !r.isEmpty)
def total (left : Rows) : Nat := (left.map List.length).sum
/-- name by name -/
def mergeN : Nat → Rows → Option (List Str)
  | 0, left => if done left then some [] else none
  | n + 1, left => if done left then some [] else match (heads left).head? with
    | none => none
    | some h => (mergeN n (left.map (without h))).map (h :: ·)
def merged (left : Rows) : Option (List Str) := mergeN (total left) left
theorem done_total {left : Rows} (h : total left = 0) : done left = true := by
  unfold done
  rw [Bool.not_eq_true', List.any_eq_false]
  intro r hr
  have : r.length = 0 := by
    unfold total at h
    have := List.sum_eq_zero_iff_forall_eq_nat.mp h r.length (List.mem_map.mpr ⟨r, hr, rfl⟩)
    exact this
  rw [List.length_eq_zero_iff.mp this]
  decide
theorem not_done {left : Rows} (h : done left = false) : ∃ x t, (x :: t) ∈ left := by
  unfold done at h
  rw [Bool.not_eq_false', List.any_eq_true] at h
  obtain ⟨r, hr, h⟩ := h
  cases r with
  | nil => cases h
  | cons x t => exact ⟨x, t, hr⟩
theorem done_iff {left : Rows} : done left = true ↔ ∀ r ∈ left, r = [] := by
  unfold done
  rw [Bool.not_eq_true', List.any_eq_false]
  constructor
  · intro h r hr
    have := h r hr
    cases r with
    | nil => rfl
    | cons x t => exact absurd rfl this
  · intro h r hr
    rw [h r hr]
    decide
theorem mem_behind {left : Rows} {x : Str} : x ∈ behind left ↔ ∃ r ∈ left, x ∈ r.tail := by
  unfold behind
  rw [List.mem_flatten]
  constructor
  · rintro ⟨l, hl, hx⟩
    obtain ⟨r, hr, rfl⟩ := List.mem_map.mp hl
    exact ⟨r, hr, hx⟩
  · rintro ⟨r, hr, hx⟩
    exact ⟨r.tail, List.mem_map.mpr ⟨r, hr, rfl⟩, hx⟩
theorem head_mem {left : Rows} {h : Str} (e : (heads left).head? = some h) : ∃ t, (h :: t) ∈ left ∧ h ∉ behind left := by
  have hm : h ∈ heads left := by
    cases q : heads left with
    | nil => rw [q] at e; cases e
    | cons a r => rw [q] at e; cases e; exact List.mem_cons_self
  unfold heads at hm
  obtain ⟨r, hr, hf⟩ := List.mem_filterMap.mp hm
  cases r with
  | nil => cases hf
  | cons a t =>
    rw [freeHd_cons] at hf
    by_cases c : a ∈ behind left
    · rw [if_pos c] at hf; cases hf
    · rw [if_neg c] at hf
      cases hf
      exact ⟨t, hr, c⟩
theorem no_head {left : Rows} (e : (heads left).head? = none) {x : Str} {t : List Str} (h : (x :: t) ∈ left) : ∃ r ∈ left, x ∈ r.tail := by
  have en : heads left = [] := List.head?_eq_none_iff.mp e
  unfold heads at en
  rw [List.filterMap_eq_nil_iff] at en
  have := en _ h
  rw [freeHd_cons] at this
  by_cases c : x ∈ behind left
  · exact mem_behind.mp c
  · rw [if_neg c] at this
    cases this
theorem without_len (h : Str) (r : List Str) : (without h r).length ≤ r.length := by
  unfold without
  split
  · rw [List.length_tail]; omega
  · exact Nat.le_refl _
theorem total_le (h : Str) : ∀ left : Rows, total (left.map (without h)) ≤ total left
  | [] => Nat.le_refl _
  | r :: t => by
    have h1 := without_len h r
    have h2 := total_le h t
    unfold total at h2 ⊢
    rw [List.map_cons, List.map_cons, List.map_cons, List.sum_cons, List.sum_cons]
    omega
theorem total_lt {h : Str} {t : List Str} : ∀ {left : Rows}, (h :: t) ∈ left → total (left.map (without h)) < total left
  | r :: u, hm => by
    have h1 := without_len h r
    have h2 := total_le h u
    unfold total at h2 ⊢
    rw [List.map_cons, List.map_cons, List.map_cons, List.sum_cons, List.sum_cons]
    rcases List.mem_cons.mp hm with e | e
    · subst e
      have h3 : (without h (h :: t)).length = t.length := by
        unfold without
        rw [if_pos (show (h :: t).head? = some h from rfl)]
        rfl
      rw [h3, List.length_cons]
      omega
    · have h3 := total_lt e
      unfold total at h3
      omega
/-- the measure is enough -/
theorem mergeN_more : ∀ (n m : Nat) (left : Rows), total left ≤ n → total left ≤ m → mergeN n left = mergeN m left
  | 0, 0, left, _, _ => rfl
  | 0, m + 1, left, h, _ => by
    have d := done_total (Nat.le_zero.mp h)
    unfold mergeN
    rw [if_pos d, if_pos d]
  | n + 1, 0, left, _, h => by
    have d := done_total (Nat.le_zero.mp h)
    unfold mergeN
    rw [if_pos d, if_pos d]
  | n + 1, m + 1, left, h1, h2 => by
    unfold mergeN
    by_cases d : done left = true
    · rw [if_pos d, if_pos d]
    · rw [if_neg d, if_neg d]
      cases e : (heads left).head? with
      | none => rfl
      | some x =>
        obtain ⟨t, hm, _⟩ := head_mem e
        have := total_lt hm
        show (mergeN n _).map _ = (mergeN m _).map _
        rw [mergeN_more n m _ (by omega) (by omega)]
theorem merged_done {left : Rows} (d : done left = true) : merged left = some [] := by
  unfold merged
  cases total left with
  | zero => unfold mergeN; rw [if_pos d]
  | succ n => unfold mergeN; rw [if_pos d]
theorem merged_none {left : Rows} (d : done left = false) (e : (heads left).head? = none) : merged left = none := by
  unfold merged
  have d2 : ¬ done left = true := by rw [d]; decide
  cases total left with
  | zero => unfold mergeN; rw [if_neg d2]
  | succ n => unfold mergeN; rw [if_neg d2, e]
theorem merged_some {left : Rows} {h : Str} (d : done left = false) (e : (heads left).head? = some h) : merged left = (merged (left.map (without h))).map (h :: ·) := by
  obtain ⟨t, hm, _⟩ := head_mem e
  have hlt := total_lt hm
  have d2 : ¬ done left = true := by rw [d]; decide
  unfold merged
  cases q : total left with
  | zero => omega
  | succ n =>
    rw [show mergeN (n + 1) left = (mergeN n (left.map (without h))).map (h :: ·) by
      conv => lhs; unfold mergeN
      rw [if_neg d2, e]]
    rw [mergeN_more n (total (left.map (without h))) _ (by omega) (Nat.le_refl _)]
/-! ### where a name stands behind a head -/
def against (left : Rows) (name : Str) : Option Nat := left.findIdx? fun r => decide (name ∈ r.tail)
theorem against_none {left : Rows} {x : Str} : against left x = none ↔ x ∉ behind left := by
  unfold against
  rw [List.findIdx?_eq_none_iff, mem_behind]
  constructor
  · rintro h ⟨r, hr, hx⟩
    have := of_decide_eq_false (h r hr)
    exact this hx
  · intro h r hr
    exact decide_eq_false fun hx => h ⟨r, hr, hx⟩
theorem against_some {left : Rows} {x : Str} {n : Nat} (h : against left x = some n) : ∃ r, left[n]? = some r ∧ x ∈ r.tail := by
  unfold against at h
  rw [List.findIdx?_eq_some_iff_getElem] at h
  obtain ⟨hn, hp, _⟩ := h
  exact ⟨left[n], List.getElem?_eq_getElem hn, of_decide_eq_true hp⟩
/-- a name, another one, the number of a row -/
structure Dem where
  one : Str
  other : Str
  num : Nat
/-- in this row (of distinct names) one stands ahead of other -/
def Ahead (row : List Str) (x y : Str) : Prop := ∃ a b, row = a ++ x :: b ∧ y ∈ b
def DemIn (rows : Rows) (d : Dem) : Prop := ∃ row, rows[d.num]? = some row ∧ Ahead row d.one d.other
/-- each one's other is the next one's one, the last one's the first one's -/
def Chain (ds : List Dem) : Prop := ∀ i, i < ds.length → (ds[i]?).map Dem.other = (ds[(i + 1) % ds.length]?).map Dem.one
def IsRing (rows : Rows) (ds : List Dem) : Prop := ds ≠ [] ∧ (∀ d ∈ ds, DemIn rows d) ∧ Chain ds
/-- left is what is left of rows: each row without some names from its beginning -/
def LeftOf (rows left : Rows) : Prop := left.length = rows.length ∧ ∀ (n : Nat) r, left[n]? = some r → ∃ row, rows[n]? = some row ∧ ∃ a : List Str, row = a ++ r
theorem LeftOf.refl (rows : Rows) : LeftOf rows rows := ⟨rfl, fun n r h => ⟨r, h, [], rfl⟩⟩
theorem LeftOf.step {rows left : Rows} (h : LeftOf rows left) (x : Str) : LeftOf rows (left.map (without x)) := by
  refine ⟨by rw [List.length_map]; exact h.1, fun n r hr => ?_⟩
  rw [List.getElem?_map] at hr
  cases e : left[n]? with
  | none => rw [e] at hr; cases hr
  | some l =>
    rw [e] at hr
    obtain ⟨row, h1, a, h2⟩ := h.2 n l e
    have er : without x l = r := Option.some.inj hr
    unfold without at er
    split at er
    · cases l with
      | nil => exact ⟨row, h1, a, by rw [← er]; exact h2⟩
      | cons y t => exact ⟨row, h1, a ++ [y], by rw [← er, h2, List.append_assoc]; rfl⟩
    · exact ⟨row, h1, a, by rw [← er]; exact h2⟩
theorem LeftOf.dem {rows left : Rows} (h : LeftOf rows left) {d : Dem} {t : List Str} (hn : left[d.num]? = some (d.one :: t)) (hy : d.other ∈ t) : DemIn rows d := by
  obtain ⟨row, h1, a, h2⟩ := h.2 _ _ hn
  exact ⟨row, h1, a, t, h2, hy⟩
/-! ### the ring by going from each head to the one ahead of it -/
/-- what the ring's loop has met: the names, the demands that lead from each to the next -/
structure Met (left : Rows) (met : List Str) (ds : List Dem) (name : Str) : Prop where
  len : ds.length = met.length
  nd : met.Nodup
  hd : ∃ t, (name :: t) ∈ left
  mt : ∀ x ∈ met, ∃ t, (x :: t) ∈ left
  fst : met = [] ∨ True
  dem : ∀ (i : Nat) d, ds[i]? = some d → (∃ t, left[d.num]? = some (d.one :: t) ∧ d.other ∈ t) ∧ met[i]? = some d.other ∧ (met ++ [name])[i + 1]? = some d.one
theorem Met.start {left : Rows} {name : Str} {t : List Str} (h : (name :: t) ∈ left) : Met left [] [] name :=
  ⟨rfl, List.nodup_nil, ⟨t, h⟩, (fun x hx => nomatch hx), .inl rfl, fun i d h => nomatch h⟩
theorem Met.step {left : Rows} {met : List Str} {ds : List Dem} {name one : Str} {n : Nat} {t : List Str} (m : Met left met ds name) (h0 : name ∉ met) (hn : left[n]? = some (one :: t)) (ht : name ∈ t) :
    Met left (met ++ [name]) (ds ++ [⟨one, name, n⟩]) one := by
  refine ⟨by rw [List.length_append, List.length_append, m.len]; rfl, ?_, ⟨t, List.mem_of_getElem? hn⟩, fun x hx => ?_, .inr trivial, fun i d hd => ?_⟩
  · rw [List.nodup_append]
    refine ⟨m.nd, List.nodup_cons.mpr ⟨List.not_mem_nil, List.nodup_nil⟩, fun a ha b hb e => ?_⟩
    rw [List.mem_singleton.mp hb] at e
    exact h0 (e ▸ ha)
  · rcases List.mem_append.mp hx with h | h
    · exact m.mt x h
    · rw [List.mem_singleton.mp h]
      exact m.hd
  · by_cases hi : i < ds.length
    · rw [List.getElem?_append_left hi] at hd
      obtain ⟨h1, h2, h3⟩ := m.dem i d hd
      refine ⟨h1, by rw [List.getElem?_append_left (by rw [← m.len]; exact hi)]; exact h2, ?_⟩
      rw [List.getElem?_append_left (by rw [List.length_append, ← m.len]; show i + 1 < ds.length + 1; omega)]
      exact h3
    · rw [List.getElem?_append_right (by omega)] at hd
      have hi2 : i - ds.length = 0 := by
        have := (List.getElem?_eq_some_iff.mp hd).1
        have e : ([⟨one, name, n⟩] : List Dem).length = 1 := rfl
        omega
      rw [hi2] at hd
      cases hd
      have ei : i = met.length := by rw [← m.len]; omega
      subst ei
      refine ⟨⟨t, hn, ht⟩, by rw [List.getElem?_concat_length], ?_⟩
      rw [List.getElem?_append_right (by rw [List.length_append]; exact Nat.le_refl _), List.length_append]
      show [one][met.length + 1 - (met.length + 1)]? = some one
      rw [Nat.sub_self]
      rfl
/-- how many rows' heads aren't met -/
def unmet (left : Rows) (met : List Str) : Nat := (left.filter fun r => match r with | [] => false | h :: _ => decide (h ∉ met)).length
theorem unmet_le (left : Rows) (met : List Str) : unmet left met ≤ left.length := List.length_filter_le _ _
theorem filter_lt {α : Type} {p q : α → Bool} {x : α} : ∀ {l : List α}, (∀ y ∈ l, q y = true → p y = true) → x ∈ l → p x = true → q x = false → (l.filter q).length < (l.filter p).length
  | a :: r, h, hx, hp, hq => by
    have hle : ∀ {m : List α}, (∀ y ∈ m, q y = true → p y = true) → (m.filter q).length ≤ (m.filter p).length := fun {m} hm => by
      induction m with
      | nil => exact Nat.le_refl _
      | cons b t ih =>
        have i2 := ih fun y hy => hm y (List.mem_cons_of_mem _ hy)
        rw [List.filter_cons, List.filter_cons]
        by_cases c : q b = true
        · rw [if_pos c, if_pos (hm b List.mem_cons_self c), List.length_cons, List.length_cons]
          omega
        · rw [if_neg c]
          split
          · rw [List.length_cons]; omega
          · exact i2
    rw [List.filter_cons, List.filter_cons]
    rcases List.mem_cons.mp hx with e | e
    · subst e
      rw [if_pos hp, if_neg (by rw [hq]; decide), List.length_cons]
      exact Nat.lt_succ_of_le (hle fun y hy => h y (List.mem_cons_of_mem _ hy))
    · have ih := filter_lt (fun y hy => h y (List.mem_cons_of_mem _ hy)) e hp hq
      by_cases c : q a = true
      · rw [if_pos c, if_pos (h a List.mem_cons_self c), List.length_cons, List.length_cons]
        omega
      · rw [if_neg c]
        split
        · rw [List.length_cons]; omega
        · exact ih
theorem unmet_lt {left : Rows} {met : List Str} {x : Str} {t : List Str} (h : (x :: t) ∈ left) (hx : x ∉ met) : unmet left (met ++ [x]) < unmet left met := by
  unfold unmet
  refine filter_lt (x := x :: t) (fun y _ hy => ?_) h (decide_eq_true hx) (decide_eq_false (fun hn => hn (List.mem_append.mpr (.inr List.mem_cons_self))))
  cases y with
  | nil => cases hy
  | cons a r =>
    have := of_decide_eq_true hy
    exact decide_eq_true fun hm => this (List.mem_append.mpr (.inl hm))
/-- the ring: from where the name was met on, turned about -/
theorem Met.ring {rows left : Rows} {met : List Str} {ds : List Dem} {name : Str} {j : Nat} (m : Met left met ds name) (L : LeftOf rows left) (hj : met[j]? = some name) : IsRing rows (ds.drop j).reverse := by
  have hjl := (List.getElem?_eq_some_iff.mp hj).1
  have hlen : (ds.drop j).length = met.length - j := by rw [List.length_drop, m.len]
  refine ⟨fun e => ?_, fun d hd => ?_, fun i hi => ?_⟩
  · have := congrArg List.length e
    rw [List.length_reverse, hlen] at this
    have e0 : ([] : List Dem).length = 0 := rfl
    omega
  · have hd2 := List.mem_of_mem_drop (List.mem_reverse.mp hd)
    obtain ⟨i, hi, e⟩ := List.getElem_of_mem hd2
    obtain ⟨⟨t, h1, h2⟩, _⟩ := m.dem i d (by rw [List.getElem?_eq_getElem hi, e])
    exact L.dem h1 h2
  · rw [List.length_reverse, hlen] at hi ⊢
    generalize hn : met.length - j = n at hi hlen ⊢
    have at_ : ∀ k, k < n → ∃ d, (ds.drop j).reverse[k]? = some d ∧ met[j + (n - 1 - k)]? = some d.other ∧ (met ++ [name])[j + (n - k)]? = some d.one := fun k hk => by
      have hlt : j + (n - 1 - k) < ds.length := by rw [m.len]; omega
      obtain ⟨_, h2, h3⟩ := m.dem (j + (n - 1 - k)) ds[j + (n - 1 - k)] (List.getElem?_eq_getElem hlt)
      refine ⟨ds[j + (n - 1 - k)], ?_, h2, ?_⟩
      · rw [List.getElem?_reverse (by rw [hlen]; exact hk), hlen, List.getElem?_drop, List.getElem?_eq_getElem hlt]
      · rw [show j + (n - k) = j + (n - 1 - k) + 1 by omega]
        exact h3
    obtain ⟨d, hd, h1, h2⟩ := at_ i hi
    rw [hd]
    by_cases hl : i + 1 < n
    · rw [Nat.mod_eq_of_lt hl]
      obtain ⟨e, he, h3, h4⟩ := at_ (i + 1) hl
      rw [he]
      show some d.other = some e.one
      rw [← h1, ← h4, show n - (i + 1) = n - 1 - i by omega, List.getElem?_append_left (by omega)]
    · have ei : i + 1 = n := by omega
      rw [ei, Nat.mod_self]
      obtain ⟨e, he, h3, h4⟩ := at_ 0 (by omega)
      rw [he]
      show some d.other = some e.one
      have e1 : j + (n - 0) = met.length := by omega
      rw [e1, List.getElem?_concat_length] at h4
      have e2 : j + (n - 1 - i) = j := by omega
      rw [e2, hj] at h1
      rw [← h1, ← h4]
end Kin
namespace Kin
open PySem PySem.Spec PyProof.Rows L2 RZ
/-! ### what kind a value is -/
def tyN : PyData → String
  | .none => "NoneType"
  | .bool _ => "bool"
  | .int _ => "int"
  | .str _ => "str"
  | .list _ => "list"
  | .tuple _ => "tuple"
  | .dict _ => "dict"
theorem sq_ty {K : PySem.W.Frag} {H : Hp} {a : Addr} {xs : List V} (h : SqL K H a xs) : TyX K H (.ref a) (.type "list") := by
  rcases h with (h | ⟨o, h⟩) | ⟨o, its, n, h1, h2, _⟩
  · exact .base (.lst h)
  · exact .base (.frz h)
  · exact .kList h1 h2
theorem st_ty {K : PySem.W.Frag} {H : Hp} {a : Addr} {xs : List V} (h : SqT K H a xs) : TyX K H (.ref a) (.type "tuple") := by
  rcases h with (h | ⟨o, h⟩) | ⟨o, its, n, h1, h2, _⟩
  · exact .base (.tup h)
  · exact .fTuple h
  · exact .kTuple h1 h2
theorem dp_ty {K : PySem.W.Frag} {H : Hp} {x : V} {d : PyData} (h : Dp K H x d) : TyX K H x (.type (tyN d)) := by
  cases h with
  | non => exact .base .non
  | bl b => exact .base (.bl b)
  | int i => exact .base (.int i)
  | str x => exact .base (.str x)
  | lst h _ => exact sq_ty h
  | tup h _ => exact st_ty h
theorem isi {K : PySem.W.Frag} {H : Hp} {x : V} {d : PyData} {T : String} {b : Bool} {Q : VK} (h : Dp K H x d) (hb : kitB (tyN d) T = some b) (q : Q (.bl b) H) : rIsi K [x, .ty T] H Q :=
  ⟨x, .ty T, .type (tyN d), .type T, b, rfl, .ty T, dp_ty h, kit_ty hb, q⟩
theorem yes {c A B : Prop} [Decidable c] (hc : c) (h : A) : if c then A else B := by
  rw [if_pos hc]
  exact h
theorem no {c A B : Prop} [Decidable c] (hc : ¬ c) (h : B) : if c then A else B := by
  rw [if_neg hc]
  exact h
/-! ### data that stays -/
mutual
theorem dp_same {K : PySem.W.Frag} {H H' : Hp} (e : Same H H') : ∀ (d : PyData) (x : V), Dp K H x d → Dp K H' x d
  | _, _, .non => .non
  | _, _, .bl b => .bl b
  | _, _, .int i => .int i
  | _, _, .str x => .str x
  | .list ds, _, .lst h a => .lst (e.seq h) (dpAll_same e ds _ a)
  | .tuple ds, _, .tup h a => .tup (by
      rcases h with (h | ⟨o, h⟩) | h
      · exact .inl (.inl (e _ _ h))
      · exact .inl (.inr ⟨o, e _ _ h⟩)
      · exact .inr h) (dpAll_same e ds _ a)
theorem dpAll_same {K : PySem.W.Frag} {H H' : Hp} (e : Same H H') : ∀ (ds : List PyData) (xs : List V), DpAll K H xs ds → DpAll K H' xs ds
  | _, _, .nil => .nil
  | d :: ds, x :: xs, .cons h t => .cons (dp_same e d x h) (dpAll_same e ds xs t)
end
theorem st_same {K : PySem.W.Frag} {H H' : Hp} {a : Addr} {xs : List V} (e : Same H H') (h : SqT K H a xs) : SqT K H' a xs := by
  rcases h with (h | ⟨o, h⟩) | h
  · exact .inl (.inl (e _ _ h))
  · exact .inl (.inr ⟨o, e _ _ h⟩)
  · exact .inr h
theorem dpAll_len {K : PySem.W.Frag} {H : Hp} : ∀ {xs : List V} {ds : List PyData}, DpAll K H xs ds → xs.length = ds.length
  | _, _, .nil => rfl
  | _, _, .cons _ t => congrArg (· + 1) (dpAll_len t)
theorem dpAll_get {K : PySem.W.Frag} {H : Hp} : ∀ {xs : List V} {ds : List PyData} {i : Nat} {x : V}, DpAll K H xs ds → xs[i]? = some x → ∃ d, ds[i]? = some d ∧ Dp K H x d
  | _, _, _, _, .nil, e => by cases e
  | _, _, 0, _, .cons r _, e => by cases e; exact ⟨_, rfl, r⟩
  | _, _, i + 1, _, .cons _ t, e => dpAll_get (i := i) t e
theorem depth_get : ∀ {ds : List PyData} {i : Nat} {d : PyData}, ds[i]? = some d → d.depth ≤ PyData.depthAll ds
  | [], _, _, e => by cases e
  | a :: r, 0, d, e => by
    cases e
    exact Nat.le_max_left _ _
  | a :: r, i + 1, d, e => Nat.le_trans (depth_get (ds := r) (i := i) e) (Nat.le_max_right _ _)
mutual
/-- the most things in one list or tuple -/
def wide : PyData → Nat
  | .list xs => max xs.length (wideAll xs)
  | .tuple xs => max xs.length (wideAll xs)
  | _ => 0
def wideAll : List PyData → Nat
  | [] => 0
  | x :: xs => max (wide x) (wideAll xs)
end
theorem wide_get : ∀ {ds : List PyData} {i : Nat} {d : PyData}, ds[i]? = some d → wide d ≤ wideAll ds
  | [], _, _, e => by cases e
  | a :: r, 0, d, e => by
    cases e
    show wide a ≤ max (wide a) (wideAll r)
    exact Nat.le_max_left _ _
  | a :: r, i + 1, d, e => by
    show wide d ≤ max (wide a) (wideAll r)
    exact Nat.le_trans (wide_get (ds := r) (i := i) e) (Nat.le_max_right _ _)
/-! ### a comprehension over zip -/
theorem lc_zipL {K : PySem.W.Frag} {a b : Addr} {xs ys : List V} {g : TG} {tt : TT} {te : TE} {vs : List Nat} {σ : L2.St} {H1 : Hp} {D : Addr} {Qd : Hp → Prop} (hn : xs.length = ys.length) (Pv : Nat → Hp → Prop) (h0 : Pv 0 (upd H1 D (.lst [])))
    (hl : ∀ i H, i ≤ xs.length → Pv i H → SqL K H a xs ∧ SqL K H b ys)
    (hs : ∀ i x y H T, xs[i]? = some x → ys[i]? = some y → Pv i H → H T = none → g (.ref T) (wipe σ vs) (upd H T (.tup [x, y])) fun σ2 H2 => wipe σ2 vs = wipe σ vs ∧ tt σ2 H2 fun b H3 =>
      if b = true then te σ2 H3 fun y H4 => ∃ acc, H4 D = some (.lst acc) ∧ acc.length < sizeLine ∧ Pv (i + 1) (upd H4 D (.lst (acc ++ [y]))) else Pv (i + 1) H3) (hd : ∀ H, Pv xs.length H → Qd H) :
    ∃ W : Nat → Nat → Hp → Prop, (∃ m, W 0 m (upd H1 D (.lst []))) ∧ ∀ i m H, W i m H →
      ((Itz K a b).stop i H ∧ Qd H) ∨ ((Itz K a b).go i H ∧ ∃ Nx : Hp → Prop, (∀ H', Nx H' → ∃ m', m' < m ∧ W (i + 1) m' H') ∧ ∀ x H', (Itz K a b).yld i H x H' → g x (wipe σ vs) H' fun σ2 H2 => wipe σ2 vs = wipe σ vs ∧ tt σ2 H2 fun b H3 =>
        if b = true then te σ2 H3 fun y H4 => ∃ acc, H4 D = some (.lst acc) ∧ acc.length < sizeLine ∧ Nx (upd H4 D (.lst (acc ++ [y]))) else Nx H3) := by
  refine ⟨fun i m H => i ≤ xs.length ∧ m + i = xs.length ∧ Pv i H, ⟨xs.length, Nat.zero_le _, rfl, h0⟩, fun i m H hw => ?_⟩
  obtain ⟨hi, hm, hp⟩ := hw
  obtain ⟨q1, q2⟩ := hl i H hi hp
  by_cases hlt : i < xs.length
  · have hlt2 : i < ys.length := by omega
    refine .inr ⟨⟨xs, ys, xs[i], ys[i], q1, q2, List.getElem?_eq_getElem hlt, List.getElem?_eq_getElem hlt2⟩, Pv (i + 1), fun H' hp' => ⟨m - 1, by omega, by omega, by omega, hp'⟩, fun v H' hy => ?_⟩
    obtain ⟨T, x, y, rfl, nT, rfl, fx, fy⟩ := hy
    exact hs i x y H T (fx xs q1) (fy ys q2) hp nT
  · have ei : i = xs.length := by omega
    rw [ei] at hp
    exact .inl ⟨⟨xs, ys, q1, q2, .inl (by omega)⟩, hd H hp⟩
theorem lc_zipT {K : PySem.W.Frag} {a b : Addr} {xs ys : List V} {g : TG} {tt : TT} {te : TE} {vs : List Nat} {σ : L2.St} {H1 : Hp} {D : Addr} {Qd : Hp → Prop} (hn : xs.length = ys.length) (Pv : Nat → Hp → Prop) (h0 : Pv 0 (upd H1 D (.lst [])))
    (hl : ∀ i H, i ≤ xs.length → Pv i H → SqT K H a xs ∧ SqT K H b ys)
    (hs : ∀ i x y H T, xs[i]? = some x → ys[i]? = some y → Pv i H → H T = none → g (.ref T) (wipe σ vs) (upd H T (.tup [x, y])) fun σ2 H2 => wipe σ2 vs = wipe σ vs ∧ tt σ2 H2 fun b H3 =>
      if b = true then te σ2 H3 fun y H4 => ∃ acc, H4 D = some (.lst acc) ∧ acc.length < sizeLine ∧ Pv (i + 1) (upd H4 D (.lst (acc ++ [y]))) else Pv (i + 1) H3) (hd : ∀ H, Pv xs.length H → Qd H) :
    ∃ W : Nat → Nat → Hp → Prop, (∃ m, W 0 m (upd H1 D (.lst []))) ∧ ∀ i m H, W i m H →
      ((ItzT K a b).stop i H ∧ Qd H) ∨ ((ItzT K a b).go i H ∧ ∃ Nx : Hp → Prop, (∀ H', Nx H' → ∃ m', m' < m ∧ W (i + 1) m' H') ∧ ∀ x H', (ItzT K a b).yld i H x H' → g x (wipe σ vs) H' fun σ2 H2 => wipe σ2 vs = wipe σ vs ∧ tt σ2 H2 fun b H3 =>
        if b = true then te σ2 H3 fun y H4 => ∃ acc, H4 D = some (.lst acc) ∧ acc.length < sizeLine ∧ Nx (upd H4 D (.lst (acc ++ [y]))) else Nx H3) := by
  refine ⟨fun i m H => i ≤ xs.length ∧ m + i = xs.length ∧ Pv i H, ⟨xs.length, Nat.zero_le _, rfl, h0⟩, fun i m H hw => ?_⟩
  obtain ⟨hi, hm, hp⟩ := hw
  obtain ⟨q1, q2⟩ := hl i H hi hp
  by_cases hlt : i < xs.length
  · have hlt2 : i < ys.length := by omega
    refine .inr ⟨⟨xs, ys, xs[i], ys[i], q1, q2, List.getElem?_eq_getElem hlt, List.getElem?_eq_getElem hlt2⟩, Pv (i + 1), fun H' hp' => ⟨m - 1, by omega, by omega, by omega, hp'⟩, fun v H' hy => ?_⟩
    obtain ⟨T, x, y, rfl, nT, rfl, fx, fy⟩ := hy
    exact hs i x y H T (fx xs q1) (fy ys q2) hp nT
  · have ei : i = xs.length := by omega
    rw [ei] at hp
    exact .inl ⟨⟨xs, ys, q1, q2, .inl (by omega)⟩, hd H hp⟩
/-! ### rows in the heap -/
abbrev Strs (K : PySem.W.Frag) (H : Hp) : List Addr → Rows → Prop := Paired fun b row => SqL K H b (row.map V.str)
def RowsAt (K : PySem.W.Frag) (H : Hp) (a : Addr) (as : List Addr) (left : Rows) : Prop := SqL K H a (as.map V.ref) ∧ Strs K H as left
theorem Strs.same {K : PySem.W.Frag} {H H' : Hp} (e : Same H H') {as : List Addr} {left : Rows} (h : Strs K H as left) : Strs K H' as left := Paired.mapP h fun _ _ q => e.seq q
theorem RowsAt.same {K : PySem.W.Frag} {H H' : Hp} {a : Addr} {as : List Addr} {left : Rows} (h : RowsAt K H a as left) (e : Same H H') : RowsAt K H' a as left := ⟨e.seq h.1, h.2.same e⟩
theorem Strs.len {K : PySem.W.Frag} {H : Hp} {as : List Addr} {left : Rows} (h : Strs K H as left) : as.length = left.length := Paired.length h
theorem Strs.get {K : PySem.W.Frag} {H : Hp} : ∀ {as : List Addr} {left : Rows} {i : Nat} {b : Addr}, Strs K H as left → as[i]? = some b → ∃ row, left[i]? = some row ∧ SqL K H b (row.map V.str)
  | _, _, _, _, .nil, e => by cases e
  | _, _, 0, _, .cons r _, e => by cases e; exact ⟨_, rfl, r⟩
  | _, _, i + 1, _, .cons _ t, e => Strs.get (i := i) t e
theorem Strs.at {K : PySem.W.Frag} {H : Hp} : ∀ {as : List Addr} {left : Rows} {i : Nat} {row : List Str}, Strs K H as left → left[i]? = some row → ∃ b, as[i]? = some b ∧ SqL K H b (row.map V.str)
  | _, _, _, _, .nil, e => by cases e
  | _, _, 0, _, .cons r _, e => by cases e; exact ⟨_, rfl, r⟩
  | _, _, i + 1, _, .cons _ t, e => Strs.at (i := i) t e
theorem Strs.snoc {K : PySem.W.Frag} {H : Hp} {b : Addr} {row : List Str} : ∀ {as : List Addr} {left : Rows}, Strs K H as left → SqL K H b (row.map V.str) → Strs K H (as ++ [b]) (left ++ [row])
  | _, _, .nil, h => .cons h .nil
  | _, _, .cons r t, h => .cons r (Strs.snoc t h)
theorem Strs.lists {K : PySem.W.Frag} {H : Hp} : ∀ {as : List Addr} {left : Rows}, Strs K H as left → Lists K H as (left.map fun r => r.map V.str)
  | _, _, .nil => .nil
  | _, _, .cons r t => .cons r (Strs.lists t)
theorem flat_strs : ∀ xs : List Str, (xs.map V.str).all flatV = true
  | [] => rfl
  | x :: r => by
    rw [List.map_cons, List.all_cons, flat_strs r]
    rfl
theorem inV_strs (x : Str) : ∀ xs : List Str, inV (.str x) (xs.map V.str) = decide (x ∈ xs)
  | [] => by
    rw [decide_eq_false List.not_mem_nil]
    rfl
  | y :: r => by
    have ih := inV_strs x r
    unfold inV at ih ⊢
    rw [List.map_cons, List.any_cons, ih]
    show ((y == x) || decide (x ∈ r)) = decide (x ∈ y :: r)
    by_cases e : y = x
    · rw [e, beq_self_eq_true, Bool.true_or, decide_eq_true List.mem_cons_self]
    · rw [beq_false_of_ne e, Bool.false_or]
      by_cases c : x ∈ r
      · rw [decide_eq_true c, decide_eq_true (List.mem_cons_of_mem _ c)]
      · rw [decide_eq_false c, decide_eq_false fun h => (List.mem_cons.mp h).elim (fun q => e q.symm) c]
theorem cut_tail (xs : List Str) : cutV (xs.map V.str) (some 1) none = xs.tail.map V.str := by
  have h := cut_from (xs.map V.str) 1
  rw [List.drop_one, ← List.map_tail] at h
  exact h
theorem cut_head (xs : List Str) : cutV (xs.map V.str) none (some 1) = (xs.take 1).map V.str := by
  have h := cut_to (xs.map V.str) 1
  rw [← List.map_take] at h
  exact h
/-- the item of a list of places, or of texts, as a value -/
theorem ref_of {as : List Addr} {i : Nat} {x : V} (h : (as.map V.ref)[i]? = some x) : ∃ b, as[i]? = some b ∧ x = .ref b := by
  rw [List.getElem?_map] at h
  cases e : as[i]? with
  | none => rw [e] at h; cases h
  | some b => rw [e] at h; exact ⟨b, rfl, (Option.some.inj h).symm⟩
theorem str_of {xs : List Str} {i : Nat} {x : V} (h : (xs.map V.str)[i]? = some x) : ∃ z, xs[i]? = some z ∧ x = .str z := by
  rw [List.getElem?_map] at h
  cases e : xs[i]? with
  | none => rw [e] at h; cases h
  | some b => rw [e] at h; exact ⟨b, rfl, (Option.some.inj h).symm⟩
/-- texts as they may stand in data -/
def Ok (xs : List Str) : Prop := ∀ x ∈ xs, PyData.strOk x = true
theorem Ok.take {xs : List Str} (h : Ok xs) (n : Nat) : Ok (xs.take n) := fun x hx => h x (List.mem_of_mem_take hx)
theorem Ok.tail {xs : List Str} (h : Ok xs) : Ok xs.tail := fun x hx => h x (List.mem_of_mem_tail hx)
theorem eqv_strs : ∀ xs ys : List Str, PyData.eqvAll (xs.map PyData.str) (ys.map PyData.str) = decide (xs = ys)
  | [], [] => rfl
  | [], _ :: _ => rfl
  | _ :: _, [] => rfl
  | x :: r, y :: t => by
    show ((x == y) && PyData.eqvAll (r.map PyData.str) (t.map PyData.str)) = decide (x :: r = y :: t)
    rw [eqv_strs r t]
    by_cases e : x = y
    · rw [e, beq_self_eq_true, Bool.true_and]
      by_cases c : r = t
      · rw [c, decide_eq_true rfl, decide_eq_true rfl]
      · rw [decide_eq_false c, decide_eq_false fun h => c (List.cons.inj h).2]
    · rw [beq_false_of_ne e, Bool.false_and, decide_eq_false fun h => e (List.cons.inj h).1]
/-- the demands in the heap -/
abbrev DemsAt (H : Hp) : List Addr → List Dem → Prop := Paired fun t d => H t = some (.tup [.str d.one, .str d.other, nV d.num])
theorem paired_drop {α β : Type} {R : α → β → Prop} : ∀ (n : Nat) {xs : List α} {ys : List β}, Paired R xs ys → Paired R (xs.drop n) (ys.drop n)
  | 0, _, _, h => h
  | _ + 1, _, _, .nil => .nil
  | n + 1, _, _, .cons _ t => paired_drop n t
theorem paired_snoc {α β : Type} {R : α → β → Prop} {x : α} {y : β} (h : R x y) : ∀ {xs : List α} {ys : List β}, Paired R xs ys → Paired R (xs ++ [x]) (ys ++ [y])
  | _, _, .nil => .cons h .nil
  | _, _, .cons r t => .cons r (paired_snoc h t)
theorem paired_rev {α β : Type} {R : α → β → Prop} : ∀ {xs : List α} {ys : List β}, Paired R xs ys → Paired R xs.reverse ys.reverse
  | _, _, .nil => .nil
  | x :: xs, y :: ys, .cons r t => by
    rw [List.reverse_cons, List.reverse_cons]
    exact paired_snoc r (paired_rev t)
theorem DemsAt.same {H H' : Hp} {ts : List Addr} {ds : List Dem} (h : DemsAt H ts ds) (e : Same H H') : DemsAt H' ts ds := Paired.mapP h fun _ _ q => e _ _ q
theorem DemsAt.mut {H : Hp} {ts : List Addr} {ds : List Dem} {q : Addr} {xs : List V} {o : HO} (h : DemsAt H ts ds) (hq : H q = some (.lst xs)) : DemsAt (upd H q o) ts ds := Paired.mapP h fun t d z => by
  rw [upd_ne (ne_of z hq fun e => nomatch e)]
  exact z
def hds (left : Rows) : List Str := left.filterMap List.head?
section
variable {K : PySem.W.Frag}
/-- tracked lists of texts, apart from some places -/
abbrev StrsN (H : Hp) (av : List Addr) : List Addr → Rows → Prop := Paired fun b row => H b = some (.lst (row.map V.str)) ∧ b ∉ av
theorem StrsN.same {H H' : Hp} {av bs : List Addr} {left : Rows} (h : StrsN H av bs left) (e : Same H H') : StrsN H' av bs left := Paired.mapP h fun _ _ q => ⟨e _ _ q.1, q.2⟩
theorem StrsN.mut {H : Hp} {av bs : List Addr} {left : Rows} {q : Addr} {o : HO} (h : StrsN H av bs left) (hq : q ∈ av) : StrsN (upd H q o) av bs left := Paired.mapP h fun b _ z => ⟨by
  rw [upd_ne fun e : b = q => z.2 (by rw [e]; exact hq)]
  exact z.1, z.2⟩
theorem StrsN.strs {K : PySem.W.Frag} {H : Hp} {av : List Addr} {bs : List Addr} {left : Rows} (h : StrsN H av bs left) : Strs K H bs left := Paired.mapP h fun _ _ q => SqL.of q.1
theorem StrsN.av {H : Hp} {av av' bs : List Addr} {left : Rows} (h : StrsN H av bs left) (hs : ∀ b, H b ≠ none → b ∉ av → b ∉ av') : StrsN H av' bs left := Paired.mapP h fun b _ q => ⟨q.1, hs b (by rw [q.1]; exact fun e => nomatch e) q.2⟩
theorem StrsN.get {H : Hp} {av : List Addr} : ∀ {bs : List Addr} {left : Rows} {i : Nat} {b : Addr}, StrsN H av bs left → bs[i]? = some b → ∃ row, left[i]? = some row ∧ H b = some (.lst (row.map V.str)) ∧ b ∉ av
  | _, _, _, _, .nil, e => by cases e
  | _, _, 0, _, .cons r _, e => by cases e; exact ⟨_, rfl, r⟩
  | _, _, i + 1, _, .cons _ t, e => StrsN.get (i := i) t e
theorem any_done (left : Rows) : ((left.map fun r => r.map V.str).any fun xs => !xs.isEmpty) = !done left := by
  unfold done
  rw [Bool.not_not, List.any_map]
  congr 1
  funext r
  cases r <;> rfl
end
theorem ok_without {left : Rows} (h : ∀ r ∈ left, Ok r) (x : Str) : ∀ r ∈ left.map (without x), Ok r := fun r hr => by
  obtain ⟨r0, h0, rfl⟩ := List.mem_map.mp hr
  unfold without
  split
  · exact (h r0 h0).tail
  · exact h r0 h0
structure MB (mg : Str → Option Value) : Prop where
  m_isinstance : mg "isinstance" = none
  m_bool : mg "bool" = none
  m_str : mg "str" = none
  m_int : mg "int" = none
  m_tuple : mg "tuple" = none
  m_list : mg "list" = none
  m_len : mg "len" = none
  m_all : mg "all" = none
  m_zip : mg "zip" = none
  m_range : mg "range" = none
  m_enumerate : mg "enumerate" = none
  m_any : mg "any" = none
/-! ### rows as data -/
def rowD (r : List Str) : PyData := .list (r.map PyData.str)
theorem dp_rows {K : PySem.W.Frag} {H : Hp} : ∀ {as : List Addr} {rows : Rows}, Strs K H as rows → DpAll K H (as.map V.ref) (rows.map rowD)
  | _, _, .nil => .nil
  | _, _, .cons h t => .cons (.lst h (dp_strs _)) (dp_rows t)
theorem RowsAt.dp {K : PySem.W.Frag} {H : Hp} {a : Addr} {as : List Addr} {rows : Rows} (h : RowsAt K H a as rows) : Dp K H (.ref a) (.list (rows.map rowD)) := .lst h.1 (dp_rows h.2)
theorem lay_rows : ∀ rows : Rows, (∀ r ∈ rows, Ok r) → PyData.canLayAll0 (rows.map rowD) = true
  | [], _ => rfl
  | r :: t, h => by
    show (PyData.canLayAll0 (r.map PyData.str) && PyData.canLayAll0 (t.map rowD)) = true
    rw [lay_rows t fun y hy => h y (List.mem_cons_of_mem _ hy), lay_strs r (h r List.mem_cons_self)]
    rfl
theorem depth_rows : ∀ rows : Rows, PyData.depthAll (rows.map rowD) ≤ 1
  | [] => Nat.zero_le 1
  | r :: t => by
    show max (PyData.depthAll (r.map PyData.str) + 1) (PyData.depthAll (t.map rowD)) ≤ 1
    have h := depth_rows t
    rw [depth_strs]
    omega
theorem shaped_rows {rows : Rows} (h : ∀ r ∈ rows, Ok r) : SeqAt.shaped (.list (rows.map rowD)) = true := shaped_list (lay_rows rows h) (depth_rows rows) (by decide)
theorem eqv_rows : ∀ xs ys : Rows, PyData.eqvAll (xs.map rowD) (ys.map rowD) = decide (xs = ys)
  | [], [] => rfl
  | [], _ :: _ => rfl
  | _ :: _, [] => rfl
  | x :: r, y :: t => by
    show (PyData.eqvAll (x.map PyData.str) (y.map PyData.str) && PyData.eqvAll (r.map rowD) (t.map rowD)) = decide (x :: r = y :: t)
    rw [eqv_rows r t, eqv_strs]
    by_cases e : x = y
    · rw [decide_eq_true e, Bool.true_and]
      by_cases c : r = t
      · rw [decide_eq_true c, decide_eq_true (by rw [e, c])]
      · rw [decide_eq_false c, decide_eq_false fun h => c (List.cons.inj h).2]
    · rw [decide_eq_false e, Bool.false_and, decide_eq_false fun h => e (List.cons.inj h).1]
theorem done_filter (left : Rows) : decide ((left.filter fun r => !decide (r = [])) = []) = done left := by
  by_cases d : done left = true
  · rw [d, decide_eq_true]
    rw [List.filter_eq_nil_iff]
    intro r hr
    rw [done_iff.mp d r hr, decide_eq_true rfl]
    decide
  · have d2 : done left = false := by
      cases q : done left with
      | true => exact absurd q d
      | false => rfl
    rw [d2, decide_eq_false]
    intro e
    obtain ⟨x, t, h⟩ := not_done d2
    have := List.filter_eq_nil_iff.mp e _ h
    rw [decide_eq_false fun z => nomatch z] at this
    exact this rfl
theorem behind_take {left : Rows} {i : Nat} {row : List Str} (h : left[i]? = some row) : behind (left.take (i + 1)) = behind (left.take i) ++ row.tail := by
  unfold behind
  rw [List.take_add_one, h, List.map_append, List.flatten_append]
  show _ ++ (row.tail ++ []) = _
  rw [List.append_nil]
theorem behind_len : ∀ left : Rows, (behind left).length ≤ total left
  | [] => Nat.le_refl 0
  | r :: t => by
    have h := behind_len t
    unfold behind total at h ⊢
    rw [List.map_cons, List.flatten_cons, List.length_append, List.map_cons, List.sum_cons, List.length_tail]
    omega
theorem total_take (left : Rows) (i : Nat) : total (left.take i) ≤ total left := by
  have e : total left = total (left.take i) + total (left.drop i) := by
    unfold total
    rw [← List.sum_append, ← List.map_append, List.take_append_drop]
  omega
/-! ### demands as data -/
def demD (d : Dem) : PyData := .tuple [.str d.one, .str d.other, .int d.num]
theorem dp_dems {K : PySem.W.Frag} {H : Hp} : ∀ {ts : List Addr} {ds : List Dem}, DemsAt H ts ds → DpAll K H (ts.map V.ref) (ds.map demD)
  | _, _, .nil => .nil
  | _, _, .cons h t => .cons (.tup (SqT.of h) (.cons (.str _) (.cons (.str _) (.cons (.int _) .nil)))) (dp_dems t)
theorem DemIn.oks {rows : Rows} {d : Dem} (h : DemIn rows d) (ok : ∀ r ∈ rows, Ok r) : PyData.strOk d.one = true ∧ PyData.strOk d.other = true := by
  obtain ⟨row, h1, a, b, h2, h3⟩ := h
  have k := ok row (List.mem_of_getElem? h1)
  rw [h2] at k
  exact ⟨k _ (List.mem_append.mpr (.inr List.mem_cons_self)), k _ (List.mem_append.mpr (.inr (List.mem_cons_of_mem _ h3)))⟩
theorem lay_dems {rows : Rows} (ok : ∀ r ∈ rows, Ok r) : ∀ ds : List Dem, (∀ d ∈ ds, DemIn rows d) → PyData.canLayAll0 (ds.map demD) = true
  | [], _ => rfl
  | d :: t, h => by
    obtain ⟨o1, o2⟩ := (h d List.mem_cons_self).oks ok
    show ((PyData.strOk d.one && (PyData.strOk d.other && true)) && PyData.canLayAll0 (t.map demD)) = true
    rw [o1, o2, lay_dems ok t fun y hy => h y (List.mem_cons_of_mem _ hy)]
    rfl
theorem depth_dems : ∀ ds : List Dem, PyData.depthAll (ds.map demD) ≤ 1
  | [] => Nat.zero_le 1
  | d :: t => by
    show max (max 0 (max 0 (max 0 0)) + 1) (PyData.depthAll (t.map demD)) ≤ 1
    have h := depth_dems t
    omega
theorem Dems.get {H : Hp} : ∀ {ts : List Addr} {ds : List Dem} {i : Nat} {t : Addr}, DemsAt H ts ds → ts[i]? = some t → ∃ d, ds[i]? = some d ∧ H t = some (.tup [.str d.one, .str d.other, nV d.num])
  | _, _, _, _, .nil, e => by cases e
  | _, _, 0, _, .cons r _, e => by cases e; exact ⟨_, rfl, r⟩
  | _, _, i + 1, _, .cons _ t, e => Dems.get (i := i) t e
theorem Dems.at {H : Hp} : ∀ {ts : List Addr} {ds : List Dem} {i : Nat} {d : Dem}, DemsAt H ts ds → ds[i]? = some d → ∃ t, ts[i]? = some t ∧ H t = some (.tup [.str d.one, .str d.other, nV d.num])
  | _, _, _, _, .nil, e => by cases e
  | _, _, 0, _, .cons r _, e => by cases e; exact ⟨_, rfl, r⟩
  | _, _, i + 1, _, .cons _ t, e => Dems.at (i := i) t e
/-- where the two stand in a row of unlike names -/
theorem ahead_at {row : List Str} {x y : Str} (nd : row.Nodup) (h : Ahead row x y) : ∃ j k : Nat, j < k ∧ row[j]? = some x ∧ row[k]? = some y := by
  obtain ⟨a, b, rfl, hy⟩ := h
  obtain ⟨k, hk, e⟩ := List.getElem_of_mem hy
  refine ⟨a.length, a.length + (k + 1), by omega, by rw [List.getElem?_append_right (Nat.le_refl _), Nat.sub_self]; rfl, ?_⟩
  rw [List.getElem?_append_right (by omega), show a.length + (k + 1) - a.length = k + 1 by omega, List.getElem?_cons_succ, List.getElem?_eq_getElem hk, e]
theorem first_at {row : List Str} {x : Str} {j : Nat} (nd : row.Nodup) (h : row[j]? = some x) : ∀ (m : Nat) (z : V), m < j → (row.map V.str)[m]? = some z → eqV z (.str x) = false := fun m z hm hz => by
  obtain ⟨y, hy, rfl⟩ := str_of hz
  refine beq_false_of_ne fun e => ?_
  subst e
  have := nd_ix nd hy h
  omega
theorem wide_strs : ∀ xs : List Str, wideAll (xs.map PyData.str) = 0
  | [] => rfl
  | x :: r => by
    show max 0 (wideAll (r.map PyData.str)) = 0
    rw [wide_strs r]
    rfl
end Kin
/-! the mathematics of told lines: what they keep, what they are lines of -/
namespace Kin
open PySem PySem.Spec PyProof.Rows L2 RZ
def inRow (r : List Str) (x : Str) : Bool := decide (x ∈ r)
theorem mergeN_mem : ∀ (n : Nat) (left : Rows) (line : List Str), mergeN n left = some line → (∀ x ∈ line, ∃ r ∈ left, x ∈ r) ∧ line.length ≤ n
  | 0, left, line, h => by
    unfold mergeN at h
    split at h
    · cases h
      exact ⟨fun x hx => (nomatch hx), Nat.le_refl 0⟩
    · cases h
  | n + 1, left, line, h => by
    unfold mergeN at h
    split at h
    · cases h
      exact ⟨fun x hx => (nomatch hx), Nat.zero_le _⟩
    · cases e : (heads left).head? with
      | none => rw [e] at h; cases h
      | some y =>
        rw [e] at h
        have h2 : (mergeN n (left.map (without y))).map (y :: ·) = some line := h
        obtain ⟨z, hz, rfl⟩ := Option.map_eq_some_iff.mp h2
        obtain ⟨i1, i2⟩ := mergeN_mem n _ z hz
        refine ⟨fun x hx => ?_, Nat.succ_le_succ i2⟩
        rcases List.mem_cons.mp hx with c | c
        · obtain ⟨t, ht, _⟩ := head_mem e
          exact ⟨_, ht, by rw [c]; exact List.mem_cons_self⟩
        · obtain ⟨r, hr, hxr⟩ := i1 x c
          obtain ⟨r0, h0, rfl⟩ := List.mem_map.mp hr
          refine ⟨r0, h0, ?_⟩
          unfold without at hxr
          split at hxr
          · exact List.mem_of_mem_tail hxr
          · exact hxr
theorem merged_mem {left : Rows} {line : List Str} (h : merged left = some line) : (∀ x ∈ line, ∃ r ∈ left, x ∈ r) ∧ line.length ≤ total left := mergeN_mem _ _ _ h
theorem total_small {rows : Rows} {n m : Nat} (h1 : rows.length ≤ n) (h2 : ∀ r ∈ rows, r.length ≤ m) : total rows ≤ n * m := by
  induction rows generalizing n with
  | nil => exact Nat.zero_le _
  | cons r t ih =>
    rw [List.length_cons] at h1
    cases n with
    | zero => omega
    | succ n =>
      have i1 := ih (n := n) (by omega) fun x hx => h2 x (List.mem_cons_of_mem _ hx)
      have i2 := h2 r List.mem_cons_self
      unfold total at i1 ⊢
      rw [List.map_cons, List.sum_cons, Nat.succ_mul]
      omega
/-- a row that begins with a free head, and others -/
theorem without_head (x : Str) (t : List Str) : without x (x :: t) = t := by
  unfold without
  rw [if_pos (show (x :: t).head? = some x from rfl)]
  rfl
theorem without_out {x : Str} {r : List Str} (h : x ∉ r) : without x r = r := by
  unfold without
  rw [if_neg]
  intro e
  cases r with
  | nil => cases e
  | cons y t => cases e; exact h List.mem_cons_self
theorem free_row {left : Rows} {x : Str} (hx : x ∉ behind left) {r : List Str} (hr : r ∈ left) : x ∉ r ∨ ∃ t, r = x :: t ∧ x ∉ t := by
  by_cases c : x ∈ r
  · cases r with
    | nil => cases c
    | cons y t =>
      have ht : x ∉ t := fun h => hx (mem_behind.mpr ⟨_, hr, h⟩)
      rcases List.mem_cons.mp c with e | e
      · exact .inr ⟨t, by rw [e], ht⟩
      · exact absurd e ht
  · exact .inl c
theorem filter_same {p q : Str → Bool} {l : List Str} (h : ∀ x ∈ l, p x = q x) : l.filter p = l.filter q := List.filter_congr h
/-- a told line keeps each row, has each name once -/
theorem sound : ∀ (n : Nat) (left : Rows) (line : List Str), mergeN n left = some line → (∀ r ∈ left, r.Nodup) → (∀ r ∈ left, line.filter (inRow r) = r) ∧ line.Nodup
  | 0, left, line, h, _ => by
    unfold mergeN at h
    split at h
    · rename_i d
      cases h
      exact ⟨fun r hr => (done_iff.mp d r hr).symm, List.nodup_nil⟩
    · cases h
  | n + 1, left, line, h, hn => by
    have h0 := h
    unfold mergeN at h
    split at h
    · rename_i d
      cases h
      exact ⟨fun r hr => (done_iff.mp d r hr).symm, List.nodup_nil⟩
    · cases e : (heads left).head? with
      | none => rw [e] at h; cases h
      | some x =>
        rw [e] at h
        have h2 : (mergeN n (left.map (without x))).map (x :: ·) = some line := h
        obtain ⟨z, hz, rfl⟩ := Option.map_eq_some_iff.mp h2
        obtain ⟨t0, hx0, hfree⟩ := head_mem e
        have hn2 : ∀ r ∈ left.map (without x), r.Nodup := fun r hr => by
          obtain ⟨r0, h0, rfl⟩ := List.mem_map.mp hr
          rcases free_row hfree h0 with c | ⟨t, rfl, _⟩
          · rw [without_out c]; exact hn _ h0
          · rw [without_head]; exact (List.nodup_cons.mp (hn _ h0)).2
        obtain ⟨i1, i2⟩ := sound n _ z hz hn2
        have hxz : x ∉ z := fun hm => by
          obtain ⟨r, hr, hxr⟩ := (mergeN_mem n _ z hz).1 x hm
          obtain ⟨r0, h0, rfl⟩ := List.mem_map.mp hr
          rcases free_row hfree h0 with c | ⟨t, rfl, ht⟩
          · rw [without_out c] at hxr; exact c hxr
          · rw [without_head] at hxr; exact ht hxr
        refine ⟨fun r hr => ?_, List.nodup_cons.mpr ⟨hxz, i2⟩⟩
        have ir := i1 _ (List.mem_map.mpr ⟨r, hr, rfl⟩)
        rcases free_row hfree hr with c | ⟨t, rfl, ht⟩
        · rw [without_out c] at ir
          rw [List.filter_cons, if_neg (by unfold inRow; rw [decide_eq_false c]; decide)]
          exact ir
        · rw [without_head] at ir
          rw [List.filter_cons, if_pos (by unfold inRow; rw [decide_eq_true List.mem_cons_self])]
          have e2 : z.filter (inRow (x :: t)) = z.filter (inRow t) := filter_same fun y hy => by
            unfold inRow
            by_cases c : y ∈ t
            · rw [decide_eq_true c, decide_eq_true (List.mem_cons_of_mem _ c)]
            · rw [decide_eq_false c, decide_eq_false fun h => (List.mem_cons.mp h).elim (fun q : y = x => hxz (by rw [← q]; exact hy)) c]
          rw [e2, ir]
theorem merged_keeps {rows : Rows} {line : List Str} (h : merged rows = some line) (hn : ∀ r ∈ rows, r.Nodup) : (∀ r ∈ rows, line.filter (inRow r) = r) ∧ line.Nodup := sound _ _ _ h hn
theorem mem_keeps {line r : List Str} (h : line.filter (inRow r) = r) {x : Str} (hx : x ∈ r) : x ∈ line := by
  rw [← h] at hx
  exact (List.mem_filter.mp hx).1
/-- where one of the rows is a line of all, it is told -/
theorem told_line : ∀ (line : List Str), line.Nodup → ∀ rows : Rows, (∀ r ∈ rows, line.filter (inRow r) = r) → line ∈ rows → merged rows = some line
  | [], _, rows, hk, _ => merged_done (done_iff.mpr fun r hr => (hk r hr).symm)
  | x :: l, hn, rows, hk, hm => by
    obtain ⟨hxl, hl⟩ := List.nodup_cons.mp hn
    have d : done rows = false := by
      cases q : done rows with
      | false => rfl
      | true => exact absurd (done_iff.mp q _ hm) (fun h => nomatch h)
    -- each row with x begins with it, and has it once
    have form : ∀ r ∈ rows, (x ∈ r → r = x :: l.filter (inRow r)) ∧ (x ∉ r → r = l.filter (inRow r)) := fun r hr => by
      have h := hk r hr
      refine ⟨fun c => ?_, fun c => ?_⟩
      · rw [List.filter_cons, if_pos (by unfold inRow; rw [decide_eq_true c])] at h
        exact h.symm
      · rw [List.filter_cons, if_neg (by unfold inRow; rw [decide_eq_false c]; decide)] at h
        exact h.symm
    have hfree : x ∉ behind rows := fun hb => by
      obtain ⟨r, hr, ht⟩ := mem_behind.mp hb
      have hx := List.mem_of_mem_tail ht
      have e := (form r hr).1 hx
      rw [e] at ht
      exact hxl (List.mem_filter.mp ht).1
    have hhd : (heads rows).head? = some x := by
      have all : ∀ y ∈ heads rows, y = x := fun y hy => by
        obtain ⟨r, hr, hf⟩ := List.mem_filterMap.mp hy
        cases r with
        | nil => cases hf
        | cons a t =>
          rw [freeHd_cons] at hf
          split at hf
          · cases hf
          · rename_i hna
            cases hf
            have ha : y ∈ x :: l := mem_keeps (hk _ hr) List.mem_cons_self
            rcases List.mem_cons.mp ha with c | c
            · exact c
            · exact absurd (mem_behind.mpr ⟨x :: l, hm, c⟩) hna
      have hx : x ∈ heads rows := List.mem_filterMap.mpr ⟨x :: l, hm, by rw [freeHd_cons, if_neg hfree]⟩
      cases q : heads rows with
      | nil => rw [q] at hx; cases hx
      | cons y r =>
        rw [q] at all
        rw [all y List.mem_cons_self]
        rfl
    rw [merged_some d hhd, told_line l hl (rows.map (without x)) (fun r hr => ?_) (List.mem_map.mpr ⟨x :: l, hm, without_head x l⟩)]
    · rfl
    · obtain ⟨r0, h0, rfl⟩ := List.mem_map.mp hr
      by_cases c : x ∈ r0
      · have e := (form r0 h0).1 c
        have ew : without x r0 = l.filter (inRow r0) := by rw [e, without_head, ← e]
        rw [ew]
        refine filter_same fun y hy => ?_
        show decide (y ∈ l.filter (inRow r0)) = decide (y ∈ r0)
        by_cases cy : y ∈ r0
        · rw [decide_eq_true cy, decide_eq_true (show y ∈ l.filter (inRow r0) from List.mem_filter.mpr ⟨hy, decide_eq_true cy⟩)]
        · rw [decide_eq_false cy, decide_eq_false fun h : y ∈ l.filter (inRow r0) => cy (of_decide_eq_true (List.mem_filter.mp h).2)]
      · rw [without_out c]
        exact ((form r0 h0).2 c).symm
/-! ### rows that turn nothing -/
theorem merged_at {N : Nat} {L : Rows} (h : total L ≤ N) : merged L = mergeN N L := mergeN_more _ _ _ (Nat.le_refl _) h
theorem free_eq {L L' : Rows} (h : ∀ x, x ∈ behind L ↔ x ∈ behind L') : freeHd L = freeHd L' := by
  funext r
  cases r with
  | nil => rfl
  | cons y t =>
    rw [freeHd_cons, freeHd_cons]
    by_cases c : y ∈ behind L
    · rw [if_pos c, if_pos ((h y).mp c)]
    · rw [if_neg c, if_neg fun q => c ((h y).mpr q)]
theorem mergeN_alike {n : Nat} {L L' : Rows} (hd : done L = done L') (hh : (heads L).head? = (heads L').head?) (ih : ∀ x, (heads L).head? = some x → mergeN n (L.map (without x)) = mergeN n (L'.map (without x))) : mergeN (n + 1) L = mergeN (n + 1) L' := by
  unfold mergeN
  rw [hd, hh]
  by_cases d : done L' = true
  · rw [if_pos d, if_pos d]
  · rw [if_neg d, if_neg d]
    cases e : (heads L').head? with
    | none => rfl
    | some x =>
      show (mergeN n _).map _ = (mergeN n _).map _
      rw [ih x (by rw [hh, e])]
theorem heads_find (L : Rows) : (heads L).head? = L.findSome? (freeHd L) := by
  unfold heads
  exact List.head?_filterMap
/-- an empty row, the first row once more at the end -/
theorem empty_twice : ∀ (n : Nat) (a b : Rows), mergeN n (a ++ [] :: b ++ (a ++ b).take 1) = mergeN n (a ++ b) := by
  have beh : ∀ (a b : Rows) x, x ∈ behind (a ++ [] :: b ++ (a ++ b).take 1) ↔ x ∈ behind (a ++ b) := fun a b x => by
    rw [mem_behind, mem_behind]
    constructor
    · rintro ⟨r, hr, hx⟩
      rcases List.mem_append.mp hr with h | h
      · rcases List.mem_append.mp h with h | h
        · exact ⟨r, List.mem_append.mpr (.inl h), hx⟩
        · rcases List.mem_cons.mp h with h | h
          · rw [h] at hx; cases hx
          · exact ⟨r, List.mem_append.mpr (.inr h), hx⟩
      · exact ⟨r, List.mem_of_mem_take h, hx⟩
    · rintro ⟨r, hr, hx⟩
      refine ⟨r, List.mem_append.mpr (.inl ?_), hx⟩
      rcases List.mem_append.mp hr with h | h
      · exact List.mem_append.mpr (.inl h)
      · exact List.mem_append.mpr (.inr (List.mem_cons_of_mem _ h))
  have dn : ∀ a b : Rows, done (a ++ [] :: b ++ (a ++ b).take 1) = done (a ++ b) := fun a b => by
    rw [Bool.eq_iff_iff, done_iff, done_iff]
    constructor
    · intro h r hr
      refine h r (List.mem_append.mpr (.inl ?_))
      rcases List.mem_append.mp hr with c | c
      · exact List.mem_append.mpr (.inl c)
      · exact List.mem_append.mpr (.inr (List.mem_cons_of_mem _ c))
    · intro h r hr
      rcases List.mem_append.mp hr with c | c
      · rcases List.mem_append.mp c with c | c
        · exact h r (List.mem_append.mpr (.inl c))
        · rcases List.mem_cons.mp c with c | c
          · exact c
          · exact h r (List.mem_append.mpr (.inr c))
      · exact h r (List.mem_of_mem_take c)
  have hh : ∀ a b : Rows, (heads (a ++ [] :: b ++ (a ++ b).take 1)).head? = (heads (a ++ b)).head? := fun a b => by
    rw [heads_find, heads_find, free_eq (beh a b), List.findSome?_append, List.findSome?_append, List.findSome?_append, List.findSome?_cons]
    show ((List.findSome? (freeHd (a ++ b)) a).or (List.findSome? (freeHd (a ++ b)) b)).or _ = _
    generalize freeHd (a ++ b) = f
    cases ea : List.findSome? f a with
    | some y => rfl
    | none =>
      cases eb : List.findSome? f b with
      | some y => rfl
      | none =>
        show List.findSome? f ((a ++ b).take 1) = none
        rw [List.findSome?_eq_none_iff]
        intro r hr
        rcases List.mem_append.mp (List.mem_of_mem_take hr) with c | c
        · exact List.findSome?_eq_none_iff.mp ea r c
        · exact List.findSome?_eq_none_iff.mp eb r c
  intro n
  induction n with
  | zero =>
    intro a b
    unfold mergeN
    rw [dn]
  | succ n ih =>
    intro a b
    refine mergeN_alike (dn a b) (hh a b) fun x _ => ?_
    have h := ih (a.map (without x)) (b.map (without x))
    rw [← List.map_append, ← List.map_take] at h
    rw [← h]
    rw [List.map_append, List.map_append, List.map_cons]
    rfl
theorem merged_twice (a b : Rows) : merged (a ++ [] :: b ++ (a ++ b).take 1) = merged (a ++ b) := by
  have h1 := merged_at (N := total (a ++ [] :: b ++ (a ++ b).take 1) + total (a ++ b)) (L := a ++ [] :: b ++ (a ++ b).take 1) (by omega)
  have h2 := merged_at (N := total (a ++ [] :: b ++ (a ++ b).take 1) + total (a ++ b)) (L := a ++ b) (by omega)
  rw [h1, h2, empty_twice]
/-- a row of one of the names at the end -/
theorem alone_more : ∀ (n : Nat) (L : Rows) (o : List Str), (o = [] ∨ ∃ y, o = [y] ∧ ∃ r ∈ L, y ∈ r) → mergeN n (L ++ [o]) = mergeN n L := by
  have ot : ∀ {L : Rows} {o : List Str}, (o = [] ∨ ∃ y, o = [y] ∧ ∃ r ∈ L, y ∈ r) → o.tail = [] := fun h => by
    rcases h with rfl | ⟨y, rfl, _⟩ <;> rfl
  have beh : ∀ {L : Rows} {o : List Str}, (o = [] ∨ ∃ y, o = [y] ∧ ∃ r ∈ L, y ∈ r) → ∀ x, x ∈ behind (L ++ [o]) ↔ x ∈ behind L := fun {L o} ho x => by
    rw [mem_behind, mem_behind]
    constructor
    · rintro ⟨r, hr, hx⟩
      rcases List.mem_append.mp hr with c | c
      · exact ⟨r, c, hx⟩
      · rw [List.mem_singleton.mp c, ot ho] at hx
        cases hx
    · rintro ⟨r, hr, hx⟩
      exact ⟨r, List.mem_append.mpr (.inl hr), hx⟩
  have dn : ∀ {L : Rows} {o : List Str}, (o = [] ∨ ∃ y, o = [y] ∧ ∃ r ∈ L, y ∈ r) → done (L ++ [o]) = done L := fun {L o} ho => by
    rw [Bool.eq_iff_iff, done_iff, done_iff]
    constructor
    · intro h r hr
      exact h r (List.mem_append.mpr (.inl hr))
    · intro h r hr
      rcases List.mem_append.mp hr with c | c
      · exact h r c
      · rw [List.mem_singleton.mp c]
        rcases ho with ho | ⟨y, rfl, r2, h2, hy⟩
        · exact ho
        · rw [h r2 h2] at hy
          cases hy
  have hh : ∀ {L : Rows} {o : List Str}, (o = [] ∨ ∃ y, o = [y] ∧ ∃ r ∈ L, y ∈ r) → (heads (L ++ [o])).head? = (heads L).head? := fun {L o} ho => by
    rw [heads_find, heads_find, free_eq (beh ho), List.findSome?_append]
    cases ea : List.findSome? (freeHd L) L with
    | some y => rfl
    | none =>
      show List.findSome? (freeHd L) [o] = none
      rw [List.findSome?_eq_none_iff]
      intro r hr
      rw [List.mem_singleton.mp hr]
      rcases ho with rfl | ⟨y, rfl, r2, h2, hy⟩
      · rfl
      · rw [freeHd_cons]
        by_cases c : y ∈ behind L
        · rw [if_pos c]
        · rcases free_row c h2 with c2 | ⟨t, rfl, _⟩
          · exact absurd hy c2
          · have e := List.findSome?_eq_none_iff.mp ea _ h2
            rw [freeHd_cons, if_neg c] at e
            cases e
  intro n
  induction n with
  | zero =>
    intro L o ho
    unfold mergeN
    rw [dn ho]
  | succ n ih =>
    intro L o ho
    refine mergeN_alike (dn ho) (hh ho) fun x _ => ?_
    rw [List.map_append]
    refine ih _ _ ?_
    rcases ho with rfl | ⟨y, rfl, r2, h2, hy⟩
    · exact .inl rfl
    · by_cases c : x = y
      · exact .inl (by rw [c, without_head])
      · refine .inr ⟨y, without_out fun h => c (List.mem_singleton.mp h), without x r2, List.mem_map.mpr ⟨r2, h2, rfl⟩, ?_⟩
        unfold without
        split
        · rename_i hd
          cases r2 with
          | nil => cases hy
          | cons z t =>
            cases hd
            rcases List.mem_cons.mp hy with e | e
            · exact absurd e.symm c
            · exact e
        · exact hy
theorem merged_alone {L : Rows} {y : Str} {r : List Str} (hr : r ∈ L) (hy : y ∈ r) : merged (L ++ [[y]]) = merged L := by
  have h1 := merged_at (N := total (L ++ [[y]]) + total L) (L := L ++ [[y]]) (by omega)
  have h2 := merged_at (N := total (L ++ [[y]]) + total L) (L := L) (by omega)
  rw [h1, h2, alone_more _ L [y] (.inr ⟨y, rfl, r, hr, hy⟩)]
/-- the rows without a line's first name -/
theorem fewer_first {rows : Rows} {x : Str} {l : List Str} (h : merged rows = some (x :: l)) (hn : ∀ r ∈ rows, r.Nodup) : merged (rows.map fun r => r.filter fun y => !decide (y = x)) = some l := by
  have d : done rows = false := by
    cases q : done rows with
    | false => rfl
    | true => rw [merged_done q] at h; cases h
  cases e : (heads rows).head? with
  | none => rw [merged_none d e] at h; cases h
  | some y =>
    rw [merged_some d e] at h
    obtain ⟨z, hz, ez⟩ := Option.map_eq_some_iff.mp h
    cases ez
    obtain ⟨t0, hx0, hfree⟩ := head_mem e
    have em : (rows.map fun r => r.filter fun y => !decide (y = x)) = rows.map (without x) := List.map_congr_left fun r hr => by
      have out : ∀ t : List Str, x ∉ t → t.filter (fun y => !decide (y = x)) = t := fun t ht => List.filter_eq_self.mpr fun y hy => by
        rw [decide_eq_false fun c : y = x => ht (by rw [← c]; exact hy)]
        rfl
      rcases free_row hfree hr with c | ⟨t, rfl, ht⟩
      · rw [without_out c, out r c]
      · rw [without_head, List.filter_cons, if_neg (by rw [decide_eq_true rfl]; decide), out t ht]
    rw [em]
    exact hz
/-! ### no line -/
theorem not_both {l : List Str} {u v : Str} : l.Nodup → [u, v].Sublist l → [v, u].Sublist l → False := by
  induction l with
  | nil =>
    intro _ h
    cases h
  | cons a t ih =>
    intro hn h1 h2
    obtain ⟨ha, ht⟩ := List.nodup_cons.mp hn
    cases h1 with
    | cons _ h1 =>
      cases h2 with
      | cons _ h2 => exact ih ht h1 h2
      | cons_cons _ h2 => exact ha (h1.subset (List.mem_cons_of_mem _ List.mem_cons_self))
    | cons_cons _ h1 =>
      cases h2 with
      | cons _ h2 => exact ha (h2.subset (List.mem_cons_of_mem _ List.mem_cons_self))
      | cons_cons _ h2 => exact ha (h2.subset List.mem_cons_self)
theorem keeps_sub {line r : List Str} (h : line.filter (inRow r) = r) : r.Sublist line := by
  have h2 : (line.filter (inRow r)).Sublist line := List.filter_sublist
  rw [h] at h2
  exact h2
/-- rows with a row that turns two of a line's names about have none -/
theorem turned_none {rows : Rows} {l r : List Str} {u v : Str} (hn : ∀ r ∈ rows, r.Nodup) (hr : r ∈ rows) (h1 : [u, v].Sublist r) (hl : l ∈ rows) (h2 : [v, u].Sublist l) : merged rows = none := by
  cases e : merged rows with
  | none => rfl
  | some line =>
    obtain ⟨k, nd⟩ := merged_keeps e hn
    exact (not_both nd (h1.trans (keeps_sub (k r hr))) (h2.trans (keeps_sub (k l hl)))).elim
theorem ahead_sub {row : List Str} {x y : Str} (h : Ahead row x y) : [x, y].Sublist row := by
  obtain ⟨a, b, rfl, hy⟩ := h
  have h1 : [x, y].Sublist (x :: b) := List.Sublist.cons_cons x (List.singleton_sublist.mpr hy)
  exact h1.trans (List.sublist_append_right a (x :: b))
/-- the place in a list of unlike names -/
theorem sub_place {l : List Str} {u v : Str} : l.Nodup → [u, v].Sublist l → l.idxOf u < l.idxOf v := by
  induction l with
  | nil =>
    intro _ h
    cases h
  | cons a t ih =>
    intro hn h
    obtain ⟨ha, ht⟩ := List.nodup_cons.mp hn
    cases h with
    | cons _ h =>
      have hu : u ∈ t := h.subset List.mem_cons_self
      have hv : v ∈ t := h.subset (List.mem_cons_of_mem _ List.mem_cons_self)
      rw [List.idxOf_cons, List.idxOf_cons, cond_eq_if, cond_eq_if, if_neg (by rw [beq_iff_eq]; intro c; exact ha (c ▸ hu)), if_neg (by rw [beq_iff_eq]; intro c; exact ha (c ▸ hv))]
      have := ih ht h
      omega
    | cons_cons _ h =>
      have hv : v ∈ t := h.subset List.mem_cons_self
      rw [List.idxOf_cons, List.idxOf_cons, cond_eq_if, cond_eq_if, if_pos (beq_self_eq_true u), if_neg (by rw [beq_iff_eq]; intro c; exact ha (c ▸ hv))]
      omega
theorem ring_none {rows : Rows} {ds : List Dem} (hI : IsRing rows ds) (hn : ∀ r ∈ rows, r.Nodup) : merged rows = none := by
  cases e : merged rows with
  | none => rfl
  | some line =>
    exfalso
    obtain ⟨k, nd⟩ := merged_keeps e hn
    obtain ⟨h0, h1, h2⟩ := hI
    have hpos : 0 < ds.length := List.length_pos_iff.mpr h0
    -- each demand goes forward along the line
    have fwd : ∀ (i : Nat) d, ds[i]? = some d → line.idxOf d.one < line.idxOf d.other := fun i d hd => by
      obtain ⟨row, hr, ha⟩ := h1 d (List.mem_of_getElem? hd)
      have hm := List.mem_of_getElem? hr
      exact sub_place nd ((ahead_sub ha).trans (keeps_sub (k row hm)))
    have step : ∀ (i : Nat) (hi : i < ds.length), line.idxOf ds[i].one < line.idxOf (ds[(i + 1) % ds.length]'(Nat.mod_lt _ hpos)).one := fun i hi => by
      have f := fwd i ds[i] (List.getElem?_eq_getElem hi)
      have c := h2 i hi
      rw [List.getElem?_eq_getElem hi, List.getElem?_eq_getElem (Nat.mod_lt _ hpos)] at c
      have c2 := Option.some.inj c
      rw [← c2]
      exact f
    have up : ∀ (i : Nat) (hi : i < ds.length), line.idxOf (ds[0]'hpos).one ≤ line.idxOf ds[i].one := fun i => by
      induction i with
      | zero => intro _; exact Nat.le_refl _
      | succ i ih =>
        intro hi
        have s := step i (by omega)
        have m : (i + 1) % ds.length = i + 1 := Nat.mod_eq_of_lt hi
        have e2 : (ds[(i + 1) % ds.length]'(Nat.mod_lt _ hpos)) = ds[i + 1] := by
          congr 1
        rw [e2] at s
        exact Nat.le_of_lt (Nat.lt_of_le_of_lt (ih (by omega)) s)
    have s := step (ds.length - 1) (by omega)
    have u := up (ds.length - 1) (by omega)
    have m : (ds.length - 1 + 1) % ds.length = 0 := by rw [Nat.sub_add_cancel hpos, Nat.mod_self]
    have e2 : (ds[(ds.length - 1 + 1) % ds.length]'(Nat.mod_lt _ hpos)) = ds[0] := by
      congr 1
    rw [e2] at s
    omega
end Kin
namespace Kin
open PySem PySem.Spec PyProof.Rows L2 RZ
/-! ### demands with any number; is it a ring: the program's reckoning -/
structure DemI where
  one : Str
  other : Str
  num : Int
abbrev DemsI (H : Hp) : List Addr → List DemI → Prop := Paired fun t d => H t = some (.tup [.str d.one, .str d.other, .int d.num])
theorem DemsI.get {H : Hp} : ∀ {ts : List Addr} {ds : List DemI} {i : Nat} {t : Addr}, DemsI H ts ds → ts[i]? = some t → ∃ d, ds[i]? = some d ∧ H t = some (.tup [.str d.one, .str d.other, .int d.num])
  | _, _, _, _, .nil, e => by cases e
  | _, _, 0, _, .cons r _, e => by cases e; exact ⟨_, rfl, r⟩
  | _, _, i + 1, _, .cons _ t, e => DemsI.get (i := i) t e
theorem paired_take {α β : Type} {R : α → β → Prop} : ∀ (n : Nat) {xs : List α} {ys : List β}, Paired R xs ys → Paired R (xs.take n) (ys.take n)
  | 0, _, _, _ => .nil
  | _ + 1, _, _, .nil => .nil
  | n + 1, _, _, .cons h t => .cons h (paired_take n t)
theorem paired_app {α β : Type} {R : α → β → Prop} : ∀ {xs : List α} {ys : List β} {us : List α} {vs : List β}, Paired R xs ys → Paired R us vs → Paired R (xs ++ us) (ys ++ vs)
  | _, _, _, _, .nil, h => h
  | _, _, _, _, .cons r t, h => .cons r (paired_app t h)
def demB (rows : Rows) (d : DemI) : Bool := if 0 ≤ d.num ∧ d.num < (rows.length : Int) then (decide (d.one ∈ rows.getD d.num.toNat []) && decide (d.other ∈ (rows.getD d.num.toNat []).drop ((rows.getD d.num.toNat []).idxOf d.one + 1))) else false
def nextB (ds : List DemI) : Bool := (ds.zip (ds.tail ++ ds.take 1)).all fun p => decide (p.1.other = p.2.one)
def ringB (rows : Rows) (ds : List DemI) : Bool := !ds.isEmpty && (ds.all (demB rows) && nextB ds)
theorem idx_le {l : List Str} {x : Str} {m : Nat} (h : l[m]? = some x) : l.idxOf x ≤ m := by
  induction l generalizing m with
  | nil => cases h
  | cons a t ih =>
    rw [List.idxOf_cons, cond_eq_if]
    by_cases c : (a == x) = true
    · rw [if_pos c]
      exact Nat.zero_le _
    · rw [if_neg c]
      cases m with
      | zero =>
        cases h
        exact absurd (beq_self_eq_true x) c
      | succ m => exact Nat.succ_le_succ (ih h)
end Kin
namespace Kin
open PySem PySem.Spec PyProof.Rows L2 RZ
/-! ### a ring by its words is a ring by the program's look -/
def Dem.toI (d : Dem) : DemI := ⟨d.one, d.other, (d.num : Int)⟩
theorem demsI_of {H : Hp} : ∀ {ts : List Addr} {ds : List Dem}, DemsAt H ts ds → DemsI H ts (ds.map Dem.toI)
  | _, _, .nil => .nil
  | _, _, .cons h t => .cons h (demsI_of t)
theorem dem_true {rows : Rows} {d : Dem} (h : DemIn rows d) : demB rows d.toI = true := by
  obtain ⟨row, hr, a, b, e, hb⟩ := h
  have hi := (List.getElem?_eq_some_iff.mp hr).1
  unfold demB Dem.toI
  have hg : rows.getD ((d.num : Int)).toNat [] = row := by
    rw [Int.toNat_natCast, List.getD_eq_getElem?_getD, hr]
    rfl
  rw [if_pos ⟨Int.natCast_nonneg _, by show (d.num : Int) < _; omega⟩]
  show (decide (d.one ∈ rows.getD ((d.num : Int)).toNat []) && decide (d.other ∈ (rows.getD ((d.num : Int)).toNat []).drop ((rows.getD ((d.num : Int)).toNat []).idxOf d.one + 1))) = true
  rw [hg]
  have h1 : d.one ∈ row := by rw [e]; exact List.mem_append.mpr (.inr List.mem_cons_self)
  have h2 : row.idxOf d.one ≤ a.length := idx_le (by rw [e, List.getElem?_append_right (Nat.le_refl _), Nat.sub_self]; rfl)
  have h3 : d.other ∈ row.drop (row.idxOf d.one + 1) := by
    have h4 : d.other ∈ row.drop (a.length + 1) := by
      rw [e, List.drop_append, show (d.one :: b).drop (a.length + 1 - a.length) = b by rw [Nat.add_sub_cancel_left]; rfl]
      exact List.mem_append.mpr (.inr hb)
    rw [show a.length + 1 = (row.idxOf d.one + 1) + (a.length - row.idxOf d.one) by omega, ← List.drop_drop] at h4
    exact List.mem_of_mem_drop h4
  rw [decide_eq_true h1, decide_eq_true h3]
  rfl
theorem chain_next {ds : List Dem} (h : Chain ds) : nextB (ds.map Dem.toI) = true := by
  unfold nextB
  rw [List.all_eq_true]
  intro p hp
  obtain ⟨i, hi⟩ := List.mem_iff_getElem?.mp hp
  generalize hes : (ds.map Dem.toI).tail ++ (ds.map Dem.toI).take 1 = es at hi
  obtain ⟨u, v⟩ := p
  rw [List.getElem?_zip_eq_some] at hi
  obtain ⟨h1, h2⟩ := hi
  rw [List.getElem?_map] at h1
  obtain ⟨d, hd, rfl⟩ := Option.map_eq_some_iff.mp h1
  have hil := (List.getElem?_eq_some_iff.mp hd).1
  have c := h i hil
  rw [hd] at c
  have hpos : 0 < ds.length := by omega
  have e2 : (ds[(i + 1) % ds.length]?).map Dem.toI = some v := by
    rw [← h2, ← hes]
    by_cases e : i + 1 < ds.length
    · rw [Nat.mod_eq_of_lt e, ← List.map_tail, List.getElem?_append_left (by rw [List.length_map, List.length_tail]; omega), List.getElem?_map, List.getElem?_tail]
    · have e3 : i + 1 = ds.length := by omega
      rw [e3, Nat.mod_self, List.getElem?_append_right (by rw [List.length_tail, List.length_map]; omega), List.length_tail, List.length_map, show i - (ds.length - 1) = 0 by omega, ← List.map_take, List.getElem?_map, List.getElem?_take, if_pos (by omega)]
  obtain ⟨d2, hd2, rfl⟩ := Option.map_eq_some_iff.mp e2
  rw [hd2] at c
  exact decide_eq_true (Option.some.inj c)
theorem ring_true {rows : Rows} {ds : List Dem} (h : IsRing rows ds) : ringB rows (ds.map Dem.toI) = true := by
  obtain ⟨h0, h1, h2⟩ := h
  unfold ringB
  have a1 : (ds.map Dem.toI).isEmpty = false := by
    cases ds with
    | nil => exact absurd rfl h0
    | cons d r => rfl
  have a2 : (ds.map Dem.toI).all (demB rows) = true := by
    rw [List.all_eq_true]
    intro d hd
    obtain ⟨e, he, rfl⟩ := List.mem_map.mp hd
    exact dem_true (h1 e he)
  rw [a1, a2, chain_next h2]
  rfl
/-! ### the rows that a ring names, the others empty -/
def fewerB (ns : List Int) (rows : Rows) : Rows := (List.range rows.length).map fun (i : Nat) => if (i : Int) ∈ ns then rows.getD i [] else []
theorem fewer_at {ns : List Int} {rows : Rows} {i : Nat} {row : List Str} (h : rows[i]? = some row) : (fewerB ns rows)[i]? = some (if (i : Int) ∈ ns then row else []) := by
  have hi := (List.getElem?_eq_some_iff.mp h).1
  unfold fewerB
  rw [List.getElem?_map, List.getElem?_range hi]
  show some (if (i : Int) ∈ ns then rows.getD i [] else []) = _
  rw [List.getD_eq_getElem?_getD, h]
  rfl
theorem fewer_len (ns : List Int) (rows : Rows) : (fewerB ns rows).length = rows.length := by
  unfold fewerB
  rw [List.length_map, List.length_range]
theorem fewer_of {ns : List Int} {rows : Rows} {r : List Str} (h : r ∈ fewerB ns rows) : r = [] ∨ r ∈ rows := by
  unfold fewerB at h
  obtain ⟨i, hi, rfl⟩ := List.mem_map.mp h
  have hl := List.mem_range.mp hi
  by_cases c : (i : Int) ∈ ns
  · rw [if_pos c, List.getD_eq_getElem?_getD, List.getElem?_eq_getElem hl]
    exact .inr (List.getElem_mem hl)
  · rw [if_neg c]
    exact .inl rfl
theorem fewer_take {ns : List Int} {rows : Rows} {i : Nat} {row : List Str} (h : rows[i]? = some row) : (fewerB ns rows).take (i + 1) = (fewerB ns rows).take i ++ [if (i : Int) ∈ ns then row else []] := by
  rw [List.take_add_one, fewer_at h]
  rfl
theorem fewer_ring {rows : Rows} {ds : List Dem} (h : IsRing rows ds) : IsRing (fewerB (ds.map fun d => (d.num : Int)) rows) ds := by
  obtain ⟨h0, h1, h2⟩ := h
  refine ⟨h0, fun d hd => ?_, h2⟩
  obtain ⟨row, hr, ha⟩ := h1 d hd
  refine ⟨row, ?_, ha⟩
  rw [fewer_at hr, if_pos (List.mem_map.mpr ⟨d, hd, rfl⟩)]
theorem flat_ints : ∀ xs : List Int, (xs.map V.int).all flatV = true
  | [] => rfl
  | x :: r => by
    rw [List.map_cons, List.all_cons, flat_ints r]
    rfl
theorem inV_ints (x : Int) : ∀ xs : List Int, inV (.int x) (xs.map V.int) = decide (x ∈ xs)
  | [] => by
    rw [decide_eq_false List.not_mem_nil]
    rfl
  | y :: r => by
    have ih := inV_ints x r
    unfold inV at ih ⊢
    rw [List.map_cons, List.any_cons, ih]
    show ((y == x) || decide (x ∈ r)) = decide (x ∈ y :: r)
    by_cases e : y = x
    · rw [e, beq_self_eq_true, Bool.true_or, decide_eq_true List.mem_cons_self]
    · rw [beq_false_of_ne e, Bool.false_or]
      by_cases c : x ∈ r
      · rw [decide_eq_true c, decide_eq_true (List.mem_cons_of_mem _ c)]
      · rw [decide_eq_false c, decide_eq_false fun h => (List.mem_cons.mp h).elim (fun q => e q.symm) c]
/-! ### a comprehension over enumerate -/
theorem lc_enum {K : PySem.W.Frag} {a : Addr} {xs : List V} {g : TG} {tt : TT} {te : TE} {vs : List Nat} {σ : L2.St} {H1 : Hp} {D : Addr} {Qd : Hp → Prop} (Pv : Nat → Hp → Prop) (h0 : Pv 0 (upd H1 D (.lst [])))
    (hl : ∀ i H, i ≤ xs.length → Pv i H → SqL K H a xs)
    (hs : ∀ (i : Nat) x H T, xs[i]? = some x → Pv i H → H T = none → g (.ref T) (wipe σ vs) (upd H T (.tup [.int (i : Nat), x])) fun σ2 H2 => wipe σ2 vs = wipe σ vs ∧ tt σ2 H2 fun b H3 =>
      if b = true then te σ2 H3 fun y H4 => ∃ acc, H4 D = some (.lst acc) ∧ acc.length < sizeLine ∧ Pv (i + 1) (upd H4 D (.lst (acc ++ [y]))) else Pv (i + 1) H3) (hd : ∀ H, Pv xs.length H → Qd H) :
    ∃ W : Nat → Nat → Hp → Prop, (∃ m, W 0 m (upd H1 D (.lst []))) ∧ ∀ i m H, W i m H →
      ((Ite K a).stop i H ∧ Qd H) ∨ ((Ite K a).go i H ∧ ∃ Nx : Hp → Prop, (∀ H', Nx H' → ∃ m', m' < m ∧ W (i + 1) m' H') ∧ ∀ x H', (Ite K a).yld i H x H' → g x (wipe σ vs) H' fun σ2 H2 => wipe σ2 vs = wipe σ vs ∧ tt σ2 H2 fun b H3 =>
        if b = true then te σ2 H3 fun y H4 => ∃ acc, H4 D = some (.lst acc) ∧ acc.length < sizeLine ∧ Nx (upd H4 D (.lst (acc ++ [y]))) else Nx H3) := by
  refine ⟨fun i m H => i ≤ xs.length ∧ m + i = xs.length ∧ Pv i H, ⟨xs.length, Nat.zero_le _, rfl, h0⟩, fun i m H hw => ?_⟩
  obtain ⟨hi, hm, hp⟩ := hw
  have hq := hl i H hi hp
  by_cases hlt : i < xs.length
  · refine .inr ⟨⟨xs, xs[i], hq, List.getElem?_eq_getElem hlt⟩, Pv (i + 1), fun H' hp' => ⟨m - 1, by omega, by omega, by omega, hp'⟩, fun x H' hy => ?_⟩
    obtain ⟨T, y, rfl, nT, rfl, fy⟩ := hy
    exact hs i y H T (fy xs hq) hp nT
  · have ei : i = xs.length := by omega
    rw [ei] at hp
    exact .inl ⟨⟨xs, hq, by omega⟩, hd H hp⟩
end Kin
namespace Kin
open PySem PySem.Spec PyProof.Rows L2 RZ
/-! ### demands with any number, as data -/
def demDI (d : DemI) : PyData := .tuple [.str d.one, .str d.other, .int d.num]
def Good (d : DemI) : Prop := PyData.strOk d.one = true ∧ PyData.strOk d.other = true
theorem dp_demsI {K : PySem.W.Frag} {H : Hp} : ∀ {ts : List Addr} {ds : List DemI}, DemsI H ts ds → DpAll K H (ts.map V.ref) (ds.map demDI)
  | _, _, .nil => .nil
  | _, _, .cons h t => .cons (.tup (SqT.of h) (.cons (.str _) (.cons (.str _) (.cons (.int _) .nil)))) (dp_demsI t)
theorem lay_demsI : ∀ ds : List DemI, (∀ d ∈ ds, Good d) → PyData.canLayAll0 (ds.map demDI) = true
  | [], _ => rfl
  | d :: t, h => by
    obtain ⟨o1, o2⟩ := h d List.mem_cons_self
    show ((PyData.strOk d.one && (PyData.strOk d.other && true)) && PyData.canLayAll0 (t.map demDI)) = true
    rw [o1, o2, lay_demsI t fun y hy => h y (List.mem_cons_of_mem _ hy)]
    rfl
theorem depth_demsI : ∀ ds : List DemI, PyData.depthAll (ds.map demDI) ≤ 1
  | [] => Nat.zero_le 1
  | d :: t => by
    show max (max 0 (max 0 (max 0 0)) + 1) (PyData.depthAll (t.map demDI)) ≤ 1
    have h := depth_demsI t
    omega
theorem eqv_demsI : ∀ ds : List DemI, PyData.eqvAll (ds.map demDI) (ds.map demDI) = true
  | [] => rfl
  | d :: t => by
    show ((d.one == d.one && (d.other == d.other && (d.num == d.num && true))) && PyData.eqvAll (t.map demDI) (t.map demDI)) = true
    rw [eqv_demsI t, beq_self_eq_true, beq_self_eq_true, beq_self_eq_true]
    rfl
theorem shaped_demsI {ds : List DemI} (h : ∀ d ∈ ds, Good d) : SeqAt.shaped (.list (ds.map demDI)) = true := shaped_list (lay_demsI ds h) (depth_demsI ds) (by decide)
theorem eqv_nilI (ds : List DemI) : PyData.eqv (.list (ds.map demDI)) (.list []) = decide (ds = []) := by
  cases ds with
  | nil => rw [decide_eq_true rfl]; rfl
  | cons d t => rw [decide_eq_false fun h => nomatch h]; rfl
theorem DemsI.same {H H' : Hp} {ts : List Addr} {ds : List DemI} (h : DemsI H ts ds) (e : Same H H') : DemsI H' ts ds := Paired.mapP h fun _ _ q => e _ _ q
theorem DemsI.mut {H : Hp} {ts : List Addr} {ds : List DemI} {q : Addr} {xs : List V} {o : HO} (h : DemsI H ts ds) (hq : H q = some (.lst xs)) : DemsI (upd H q o) ts ds := Paired.mapP h fun t d z => by
  rw [upd_ne (ne_of z hq fun e => nomatch e)]
  exact z
theorem DemsI.at {H : Hp} : ∀ {ts : List Addr} {ds : List DemI} {i : Nat} {d : DemI}, DemsI H ts ds → ds[i]? = some d → ∃ t, ts[i]? = some t ∧ H t = some (.tup [.str d.one, .str d.other, .int d.num])
  | _, _, _, _, .nil, e => by cases e
  | _, _, 0, _, .cons r _, e => by cases e; exact ⟨_, rfl, r⟩
  | _, _, i + 1, _, .cons _ t, e => DemsI.at (i := i) t e
theorem DemsI.go {p c : Addr} {ns : List Int} {H H' : Hp} {ts : List Addr} {ds : List DemI} (G : Go p c ns H H') (h : DemsI H ts ds) : DemsI H' ts ds := Paired.mapP h fun t d z => by
  obtain ⟨a, r, k⟩ := G.st
  exact G.get (ne_of z k.hp fun e => nomatch e) z
/-- a list of at most so many demands -/
def DL (H : Hp) (l : Addr) (n : Nat) : Prop := ∃ ts ds, H l = some (.lst (ts.map V.ref)) ∧ DemsI H ts ds ∧ (∀ d ∈ ds, Good d) ∧ ds.length ≤ n
theorem DL.same {H H' : Hp} {l : Addr} {n : Nat} (h : DL H l n) (e : Same H H') : DL H' l n := by
  obtain ⟨ts, ds, h1, h2, h3⟩ := h
  exact ⟨ts, ds, e _ _ h1, h2.same e, h3⟩
theorem DL.le {H : Hp} {l : Addr} {n m : Nat} (h : DL H l n) (e : n ≤ m) : DL H l m := by
  obtain ⟨ts, ds, h1, h2, h3, h4⟩ := h
  exact ⟨ts, ds, h1, h2, h3, Nat.le_trans h4 e⟩
theorem DL.nil {H : Hp} {l : Addr} (n : Nat) : DL (upd H l (.lst [])) l n := ⟨[], [], upd_same, .nil, fun _ h => (nomatch h), Nat.zero_le _⟩
theorem DL.go {p c : Addr} {ns : List Int} {H H' : Hp} {l : Addr} {n : Nat} (h : DL H l n) (G : Go p c ns H H') (e : l ≠ p) : DL H' l n := by
  obtain ⟨ts, ds, h1, h2, h3⟩ := h
  exact ⟨ts, ds, G.get e h1, h2.go G, h3⟩
theorem DL.mut {H : Hp} {l q : Addr} {n : Nat} {xs : List V} {o : HO} (h : DL H l n) (hq : H q = some (.lst xs)) (e : l ≠ q) : DL (upd H q o) l n := by
  obtain ⟨ts, ds, h1, h2, h3⟩ := h
  exact ⟨ts, ds, by rw [upd_ne e]; exact h1, h2.mut hq, h3⟩
theorem good_app {xs ys : List DemI} (hx : ∀ d ∈ xs, Good d) (hy : ∀ d ∈ ys, Good d) : ∀ d ∈ xs ++ ys, Good d := fun d h => (List.mem_append.mp h).elim (hx d) (hy d)
theorem dl_app {H : Hp} {l : Addr} {us vs : List Addr} {es fs : List DemI} {n m : Nat} {xs : List V} (hl : H l = some (.lst xs)) (hE : DemsI H us es) (hG : ∀ d ∈ es, Good d) (hn : es.length ≤ n) (hF : DemsI H vs fs) (hG2 : ∀ d ∈ fs, Good d) (hm : fs.length ≤ m) : DL (upd H l (.lst (us.map V.ref ++ vs.map V.ref))) l (n + m) :=
  ⟨us ++ vs, es ++ fs, by rw [upd_same, List.map_append], paired_app (hE.mut hl) (hF.mut hl), good_app hG hG2, by rw [List.length_append]; omega⟩
theorem dl_snoc {H : Hp} {l T : Addr} {us : List Addr} {es : List DemI} {d : DemI} {n : Nat} {xs : List V} (hl : H l = some (.lst xs)) (hE : DemsI H us es) (hG : ∀ d ∈ es, Good d) (hn : es.length ≤ n) (hT : H T = some (.tup [.str d.one, .str d.other, .int d.num])) (g : Good d) : DL (upd H l (.lst (us.map V.ref ++ [V.ref T]))) l (n + 1) :=
  dl_app (vs := [T]) (fs := [d]) hl hE hG hn (.cons hT .nil) (fun e h => by rw [List.mem_singleton.mp h]; exact g) (Nat.le_refl 1)
theorem dl_new {H : Hp} {l : Addr} {us : List Addr} {es : List DemI} {n : Nat} (hl : H l = none) (hE : DemsI H us es) (hG : ∀ d ∈ es, Good d) (hn : es.length ≤ n) : DL (upd H l (.lst (us.map V.ref))) l n :=
  ⟨us, es, upd_same, hE.same (same_new hl), hG, hn⟩
/-! ### the law's reckoning of a ring -/
def OkAt (rows : Rows) (ds : List DemI) (i : Nat) (d : DemI) : Prop := (0 ≤ d.num ∧ d.num < (rows.length : Int)) ∧ (∃ d2, ds[(i + 1) % ds.length]? = some d2 ∧ d2.one = d.other) ∧
  d.one ∈ rows.getD d.num.toNat [] ∧ d.other ∈ rows.getD d.num.toNat [] ∧ (rows.getD d.num.toNat []).idxOf d.one < (rows.getD d.num.toNat []).idxOf d.other
theorem idx_at {l : List Str} {x : Str} (h : x ∈ l) : l[l.idxOf x]? = some x := by
  induction l with
  | nil => cases h
  | cons a t ih =>
    rw [List.idxOf_cons, cond_eq_if]
    by_cases c : (a == x) = true
    · rw [if_pos c, eq_of_beq c]
      rfl
    · rw [if_neg c]
      rcases List.mem_cons.mp h with e | e
      · exact absurd (by rw [e]; exact beq_self_eq_true a) c
      · exact ih e
theorem idx_drop {l : List Str} (hn : l.Nodup) {y : Str} {k : Nat} : y ∈ l.drop k ↔ y ∈ l ∧ k ≤ l.idxOf y := by
  constructor
  · intro h
    refine ⟨List.mem_of_mem_drop h, ?_⟩
    obtain ⟨i, hi⟩ := List.mem_iff_getElem?.mp h
    rw [List.getElem?_drop] at hi
    have hm := idx_at (List.mem_of_mem_drop h)
    have := nd_ix hn hm hi
    omega
  · rintro ⟨h1, h2⟩
    refine List.mem_iff_getElem?.mpr ⟨l.idxOf y - k, ?_⟩
    rw [List.getElem?_drop, show k + (l.idxOf y - k) = l.idxOf y by omega]
    exact idx_at h1
theorem demB_iff {rows : Rows} (hn : ∀ r ∈ rows, r.Nodup) (d : DemI) : demB rows d = true ↔ (0 ≤ d.num ∧ d.num < (rows.length : Int)) ∧ d.one ∈ rows.getD d.num.toNat [] ∧ d.other ∈ rows.getD d.num.toNat [] ∧ (rows.getD d.num.toNat []).idxOf d.one < (rows.getD d.num.toNat []).idxOf d.other := by
  unfold demB
  by_cases c : 0 ≤ d.num ∧ d.num < (rows.length : Int)
  · rw [if_pos c, Bool.and_eq_true, decide_eq_true_iff, decide_eq_true_iff]
    have hnd : (rows.getD d.num.toNat []).Nodup := by
      rw [List.getD_eq_getElem?_getD, List.getElem?_eq_getElem (show d.num.toNat < rows.length by omega)]
      exact hn _ (List.getElem_mem _)
    rw [idx_drop hnd]
    constructor
    · rintro ⟨h1, h2, h3⟩
      exact ⟨c, h1, h2, h3⟩
    · rintro ⟨_, h1, h2, h3⟩
      exact ⟨h1, h2, h3⟩
  · rw [if_neg c]
    constructor
    · intro h
      cases h
    · rintro ⟨h, _⟩
      exact absurd h c
theorem next_get (ds : List DemI) {i : Nat} (hi : i < ds.length) : (ds.tail ++ ds.take 1)[i]? = ds[(i + 1) % ds.length]? := by
  by_cases e : i + 1 < ds.length
  · rw [Nat.mod_eq_of_lt e, List.getElem?_append_left (by rw [List.length_tail]; omega), List.getElem?_tail]
  · have e3 : i + 1 = ds.length := by omega
    rw [e3, Nat.mod_self, List.getElem?_append_right (by rw [List.length_tail]; omega), List.length_tail, show i - (ds.length - 1) = 0 by omega, List.getElem?_take, if_pos (by omega)]
theorem nextB_iff (ds : List DemI) : nextB ds = true ↔ ∀ (i : Nat) d, ds[i]? = some d → ∃ d2, ds[(i + 1) % ds.length]? = some d2 ∧ d2.one = d.other := by
  unfold nextB
  rw [List.all_eq_true]
  constructor
  · intro h i d hd
    have hi := (List.getElem?_eq_some_iff.mp hd).1
    have hpos : 0 < ds.length := by omega
    have hm : (i + 1) % ds.length < ds.length := Nat.mod_lt _ hpos
    refine ⟨_, List.getElem?_eq_getElem hm, ?_⟩
    have hz : (ds.zip (ds.tail ++ ds.take 1))[i]? = some (d, ds[(i + 1) % ds.length]) := by
      rw [List.getElem?_zip_eq_some]
      exact ⟨hd, by rw [next_get ds hi, List.getElem?_eq_getElem hm]⟩
    exact (of_decide_eq_true (h _ (List.mem_of_getElem? hz))).symm
  · intro h p hp
    obtain ⟨i, hi⟩ := List.mem_iff_getElem?.mp hp
    obtain ⟨u, v⟩ := p
    rw [List.getElem?_zip_eq_some] at hi
    obtain ⟨h1, h2⟩ := hi
    have hil := (List.getElem?_eq_some_iff.mp h1).1
    rw [next_get ds hil] at h2
    obtain ⟨d2, e1, e2⟩ := h i u h1
    rw [h2] at e1
    cases e1
    exact decide_eq_true e2.symm
theorem ringB_iff {rows : Rows} (hn : ∀ r ∈ rows, r.Nodup) (ds : List DemI) : ringB rows ds = true ↔ ds ≠ [] ∧ ∀ (i : Nat) d, ds[i]? = some d → OkAt rows ds i d := by
  unfold ringB
  rw [Bool.and_eq_true, Bool.and_eq_true, List.all_eq_true, nextB_iff]
  constructor
  · rintro ⟨h0, h1, h2⟩
    refine ⟨fun e => (by rw [e] at h0; cases h0), fun i d hd => ?_⟩
    obtain ⟨a, b, c, e⟩ := (demB_iff hn d).mp (h1 d (List.mem_of_getElem? hd))
    exact ⟨a, h2 i d hd, b, c, e⟩
  · rintro ⟨h0, h1⟩
    refine ⟨?_, fun d hd => ?_, fun i d hd => (h1 i d hd).2.1⟩
    · cases ds with
      | nil => exact absurd rfl h0
      | cons d t => rfl
    · obtain ⟨i, hi⟩ := List.mem_iff_getElem?.mp hd
      obtain ⟨a, _, b, c, e⟩ := h1 i d hi
      exact (demB_iff hn d).mpr ⟨a, b, c, e⟩
theorem ringB_no {rows : Rows} (hn : ∀ r ∈ rows, r.Nodup) {ds : List DemI} {i : Nat} {d : DemI} (hd : ds[i]? = some d) (h : ¬ OkAt rows ds i d) : ringB rows ds = false := by
  cases e : ringB rows ds with
  | false => rfl
  | true => exact absurd (((ringB_iff hn ds).mp e).2 i d hd) h
theorem ringB_empty (ds : List DemI) : ringB [] ds = false := by
  cases ds with
  | nil => rfl
  | cons d t =>
    have h : demB [] d = false := by
      unfold demB
      rw [if_neg (by show ¬ (0 ≤ d.num ∧ d.num < (0 : Int)); omega)]
    show (!false && ((demB [] d && t.all (demB [])) && _)) = false
    rw [h]
    rfl
end Kin
namespace Kin
open PySem PySem.Spec PyProof.Rows L2 RZ
/-! ### all orders of some names -/
def ins (x : Str) (o : List Str) : Rows := (List.range (o.length + 1)).map fun k => o.take k ++ [x] ++ o.drop k
theorem ins_iff (x : Str) (o u : List Str) : u ∈ ins x o ↔ ∃ a b, o = a ++ b ∧ u = a ++ x :: b := by
  unfold ins
  rw [List.mem_map]
  constructor
  · rintro ⟨k, _, rfl⟩
    exact ⟨o.take k, o.drop k, (List.take_append_drop k o).symm, by rw [List.append_assoc]; rfl⟩
  · rintro ⟨a, b, rfl, rfl⟩
    refine ⟨a.length, List.mem_range.mpr (by rw [List.length_append]; omega), ?_⟩
    rw [List.take_left, List.drop_left, List.append_assoc]
    rfl
theorem ins_step {found : Rows} {pre : List Str} {x : Str} (h : ∀ o, o ∈ found ↔ o.Perm pre) (u : List Str) : u ∈ found.flatMap (ins x) ↔ u.Perm (pre ++ [x]) := by
  rw [List.mem_flatMap]
  constructor
  · rintro ⟨o, ho, hu⟩
    obtain ⟨a, b, rfl, rfl⟩ := (ins_iff x o u).mp hu
    have h1 := (h _).mp ho
    exact (List.perm_middle.trans (h1.cons x)).trans (List.perm_append_singleton x pre).symm
  · intro hp
    have hx : x ∈ u := hp.mem_iff.mpr (List.mem_append.mpr (.inr (List.mem_singleton.mpr rfl)))
    obtain ⟨a, b, rfl⟩ := List.append_of_mem hx
    refine ⟨a ++ b, (h _).mpr ?_, (ins_iff x _ _).mpr ⟨a, b, rfl, rfl⟩⟩
    have h2 : (x :: (a ++ b)).Perm (x :: pre) := (List.perm_middle.symm.trans hp).trans (List.perm_append_singleton x pre)
    exact h2.cons_inv
theorem ins_len (x : Str) (o : List Str) : (ins x o).length = o.length + 1 := by
  unfold ins
  rw [List.length_map, List.length_range]
/-! ### an order that keeps the rows -/
def keepsB (o : List Str) (rows : Rows) : Bool := rows.all fun r => decide (o.filter (inRow r) = r)
theorem keepsB_iff (o : List Str) (rows : Rows) : keepsB o rows = true ↔ ∀ r ∈ rows, o.filter (inRow r) = r := by
  unfold keepsB
  rw [List.all_eq_true]
  exact ⟨fun h r hr => of_decide_eq_true (h r hr), fun h r hr => decide_eq_true (h r hr)⟩
theorem no_ring {rows : Rows} {line : List Str} {ds : List Dem} (nd : line.Nodup) (k : ∀ r ∈ rows, line.filter (inRow r) = r) : ¬ IsRing rows ds := by
  intro hI
  have hn : ∀ r ∈ line :: rows, r.Nodup := fun r hr => by
    rcases List.mem_cons.mp hr with e | e
    · rw [e]; exact nd
    · rw [← k r e]; exact nd.filter _
  have hI2 : IsRing (line :: rows) (ds.map fun d => ⟨d.one, d.other, d.num + 1⟩) := by
    obtain ⟨h0, h1, h2⟩ := hI
    refine ⟨fun e => h0 (List.map_eq_nil_iff.mp e), fun d hd => ?_, fun i hi => ?_⟩
    · obtain ⟨e, he, rfl⟩ := List.mem_map.mp hd
      obtain ⟨row, hr, ha⟩ := h1 e he
      exact ⟨row, hr, ha⟩
    · rw [List.length_map] at hi ⊢
      have := h2 i hi
      rw [List.getElem?_map, List.getElem?_map, Option.map_map, Option.map_map]
      exact this
  have hm : merged (line :: rows) = some line := told_line line nd (line :: rows) (fun r hr => by
    rcases List.mem_cons.mp hr with e | e
    · rw [e]; exact List.filter_eq_self.mpr fun x hx => decide_eq_true hx
    · exact k r e) List.mem_cons_self
  rw [ring_none hI2 hn] at hm
  cases hm
/-- what the program's look calls a ring, of numbers from 0, is one -/
theorem ring_of {rows : Rows} {ds : List Dem} (hn : ∀ r ∈ rows, r.Nodup) (h : ringB rows (ds.map Dem.toI) = true) : IsRing rows ds := by
  obtain ⟨h0, h1⟩ := (ringB_iff hn _).mp h
  refine ⟨fun e => h0 (by rw [e]; rfl), fun d hd => ?_, fun i hi => ?_⟩
  · obtain ⟨i, hi⟩ := List.mem_iff_getElem?.mp hd
    obtain ⟨⟨a1, a2⟩, _, a3, a4, a5⟩ := h1 i d.toI (by rw [List.getElem?_map, hi]; rfl)
    have hl : d.num < rows.length := by
      have : (d.num : Int) < rows.length := a2
      omega
    have e : rows.getD ((d.num : Int)).toNat [] = rows[d.num] := by
      rw [Int.toNat_natCast, List.getD_eq_getElem?_getD, List.getElem?_eq_getElem hl]
      rfl
    refine ⟨rows[d.num], List.getElem?_eq_getElem hl, ?_⟩
    have a3 : d.one ∈ rows[d.num] := by rw [← e]; exact a3
    have a4 : d.other ∈ rows[d.num] := by rw [← e]; exact a4
    have a5 : rows[d.num].idxOf d.one < rows[d.num].idxOf d.other := by rw [← e]; exact a5
    have i1 := idx_at a3
    have hlt := (List.getElem?_eq_some_iff.mp i1).1
    refine ⟨rows[d.num].take (rows[d.num].idxOf d.one), rows[d.num].drop (rows[d.num].idxOf d.one + 1), ?_, (idx_drop (hn _ (List.getElem_mem hl))).mpr ⟨a4, a5⟩⟩
    have h3 := List.take_append_drop (rows[d.num].idxOf d.one) rows[d.num]
    rw [List.drop_eq_getElem_cons hlt] at h3
    have h4 : rows[d.num][rows[d.num].idxOf d.one] = d.one := by
      rw [List.getElem?_eq_getElem hlt] at i1
      exact Option.some.inj i1
    rw [h4] at h3
    exact h3.symm
  · obtain ⟨_, ⟨d2, e1, e2⟩, _⟩ := h1 i (ds[i]).toI (by rw [List.getElem?_map, List.getElem?_eq_getElem hi]; rfl)
    rw [List.length_map, List.getElem?_map] at e1
    obtain ⟨d3, e3, rfl⟩ := Option.map_eq_some_iff.mp e1
    rw [List.getElem?_eq_getElem hi, e3]
    show some (ds[i]).other = some d3.one
    have e2 : d3.one = (ds[i]).other := e2
    rw [e2]
/-! ### sorted names -/
def leS (a b : Str) : Prop := a.cps.toList ≤ b.cps.toList
theorem leS_of {a b : Str} (h : ltCps b.cps.toList a.cps.toList = false) : leS a b := by
  rw [ltCps_eq] at h
  exact List.not_lt.mp (of_decide_eq_false h)
theorem leS_trans {a b c : Str} (h1 : leS a b) (h2 : leS b c) : leS a c := List.le_trans h1 h2
theorem leS_anti {a b : Str} (h1 : leS a b) (h2 : leS b a) : a = b := by
  have h := List.le_antisymm h1 h2
  cases a with
  | mk x =>
    cases b with
    | mk y =>
      have : x = y := Array.toList_inj.mp h
      rw [this]
theorem rising_pair : ∀ (l : List Str) (p : Str), risingS p l = true → (p :: l).Pairwise leS
  | [], p, _ => List.pairwise_singleton _ _
  | x :: r, p, h => by
    unfold risingS at h
    rw [Bool.and_eq_true] at h
    have h1 : leS p x := leS_of (by cases e : ltCps x.cps.toList p.cps.toList with | false => rfl | true => rw [e] at h; cases h.1)
    have h2 := rising_pair r x h.2
    refine List.pairwise_cons.mpr ⟨fun y hy => ?_, h2⟩
    rcases List.mem_cons.mp hy with e | e
    · rw [e]; exact h1
    · exact leS_trans h1 ((List.pairwise_cons.mp h2).1 y e)
theorem sorted_pair {l : List Str} (h : sortedS l = true) : l.Pairwise leS := by
  cases l with
  | nil => exact .nil
  | cons x r => exact rising_pair r x h
theorem sorted_eq {xs ys : List Str} (hx : sortedS xs = true) (hy : sortedS ys = true) (hp : xs.Perm ys) : xs = ys :=
  List.Perm.eq_of_pairwise (fun a b _ _ h1 h2 => leS_anti h1 h2) (sorted_pair hx) (sorted_pair hy) hp
theorem perm_names {xs ys : List Str} (hx : xs.Nodup) (hy : ys.Nodup) (h : ∀ x, x ∈ xs ↔ x ∈ ys) : xs.Perm ys := (List.perm_ext_iff_of_nodup hx hy).mpr h
end Kin
namespace Kin
open PySem PySem.Spec PyProof.Rows L2 RZ
def topS (i : Nat) : Stmt := PySem.Challenge.pw_swiftkin_k04_whole_line_or_ring.main.body.getD i (.Pass ⟨0, 0, 0, 0⟩)
section
variable {P : Program} {w : World} {K : PySem.W.Frag} {mg : Str → Option Value} {base : Heap}
/-! _law_blend -/
abbrev s_law_blend : Stmt := topS 9
theorem sc_law_blend : FnScope ["cell", "at", "one", "two", "three"] ["cell", "at"] (defScope s_law_blend) := ⟨rfl, rfl, rfl, by decide +kernel, rfl, by decide +kernel, by decide +kernel⟩
def sp_law_blend : Sp := fun vs H Q _ => ∃ cell at' : Int, vs = [.int cell, .int at'] ∧ 0 ≤ at' ∧ ∀ r : Int, 0 ≤ r → Q (.int r) H
theorem ok_law_blend (F : Def K mg "_law_blend" ["cell", "at"] s_law_blend) : Cl P w K mg base 1 "_law_blend" sp_law_blend := by
  refine F.cl sc_law_blend (fun vs H Q E h => ?_) (fun f cdv A outer s H vs Q E hr h => ?_)
  · obtain ⟨x, y, rfl, _⟩ := h
    rfl
  obtain ⟨cell, at', rfl, h0, q⟩ := h
  have nd := sc_law_blend.nd
  refine ⟨_, (pss_cons (ps_if (pt_cmpR op_ge (pv 0) (pe_op op_pow pe_int pe_int) (by rfl)) (pss_one (ps_ret (pv 0))) pss_nil)
    (pss_cons (ps_set (i := 2) nd rfl (Or.inl rfl) (pe_op op_mod (pe_op op_add (pe_op op_add (pe_op op_mul (pe_op op_mod (pv 0) pe_int) pe_int) (pe_op op_mul (pv 1) pe_int)) pe_int) pe_int))
    (pss_cons (ps_set (i := 3) nd rfl (Or.inl rfl) (pe_op op_mod (pe_op op_add (pe_op op_add (pe_op op_mul (pv 2) (pv 2)) (pe_op op_mul (pv 1) pe_int)) (pe_op op_mod (pv 0) pe_int)) pe_int))
    (pss_cons (ps_set (i := 4) nd rfl (Or.inl rfl) (pe_op op_mod (pe_op op_add (pe_op op_add (pe_op op_mul (pv 3) (pv 3)) (pe_op op_mul (pv 2) pe_int)) pe_int) pe_int))
    (pss_one (ps_ret (pe_op op_add (pe_op op_mul (pe_op op_add (pe_op op_mul (pv 2) pe_int) (pv 3)) pe_int) (pv 4)))))))), ?_⟩
  refine ⟨_, rfl, _, _, rfl, rfl, ⟨by decide, by decide, by decide⟩, _, _, rfl, rfl, _, rfl, ite2 (fun c => ?_) (fun c => ?_)⟩
  · exact ⟨_, rfl, q _ (by
      have e : (10 : Int) ^ Int.toNat 18 = 1000000000000000000 := by decide
      have := of_decide_eq_true c
      omega)⟩
  · have a1 : 0 ≤ cell % 998244353 := Int.emod_nonneg _ (by decide)
    have a2 : cell % 998244353 < 998244353 := Int.emod_lt_of_pos _ (by decide)
    refine ⟨_, rfl, _, _, rfl, rfl, (by show (0 : Int) < 998244353; decide), _, _, rfl, rfl, .inl ⟨by omega, by omega⟩, _, rfl, _, _, rfl, rfl, .inr ⟨by decide, by decide⟩, _, _, rfl, rfl, _, _, rfl, rfl, _, _, rfl, rfl, (by show (0 : Int) < 2147483399; decide), ?_⟩
    generalize hone : (cell % 998244353 * 40692 + at' * 69621 + 1009) % 2147483399 = one
    have b1 : 0 ≤ one := by rw [← hone]; exact Int.emod_nonneg _ (by decide)
    have b2 : one < 2147483399 := by rw [← hone]; exact Int.emod_lt_of_pos _ (by decide)
    refine ⟨_, rfl, _, rfl, _, _, rfl, rfl, .inl ⟨by omega, by omega⟩, _, rfl, _, _, rfl, rfl, .inr ⟨by decide, by decide⟩, _, _, rfl, rfl, _, rfl, _, _, rfl, rfl, (by show (0 : Int) < 131071; decide), _, _, rfl, rfl, _, _, rfl, rfl, (by show (0 : Int) < 2147483647; decide), ?_⟩
    generalize htwo : (one * one + at' * 48271 + cell % 131071) % 2147483647 = two
    have c1 : 0 ≤ two := by rw [← htwo]; exact Int.emod_nonneg _ (by decide)
    have c2 : two < 2147483647 := by rw [← htwo]; exact Int.emod_lt_of_pos _ (by decide)
    refine ⟨_, rfl, _, rfl, _, _, rfl, rfl, .inl ⟨by omega, by omega⟩, _, rfl, _, _, rfl, rfl, .inl ⟨by omega, by omega⟩, _, _, rfl, rfl, _, _, rfl, rfl, _, _, rfl, rfl, (by show (0 : Int) < 2147483629; decide), ?_⟩
    generalize hthree : (two * two + one * 17 + 3) % 2147483629 = three
    have d1 : 0 ≤ three := by rw [← hthree]; exact Int.emod_nonneg _ (by decide)
    refine ⟨_, rfl, _, _, rfl, rfl, .inl ⟨by omega, by omega⟩, _, rfl, _, _, rfl, rfl, _, _, rfl, rfl, .inr ⟨by decide, by decide⟩, _, rfl, _, _, rfl, rfl, ?_⟩
    exact q _ (by omega)
/-! _law_pot -/
abbrev s_law_pot : Stmt := topS 10
theorem sc_law_pot : FnScope ["script", "cells", "k", "cell"] ["script"] (defScope s_law_pot) := ⟨rfl, rfl, rfl, by decide +kernel, rfl, by decide +kernel, by decide +kernel⟩
def sp_law_pot (K : PySem.W.Frag) : Sp := fun vs H Q _ => ∃ (a : Addr) (ns : List Int), vs = [.ref a] ∧ SqL K H a (ns.map V.int) ∧ ns.length ≤ 63 ∧ ∀ p c ms H', Same H H' → H p = none → H c = none → Pot H' p c ms → Q (.ref p) H'
theorem ok_law_pot (F : Def K mg "_law_pot" ["script"] s_law_pot) (m_list : mg "list" = none) (m_enumerate : mg "enumerate" = none) : Cl P w K mg base 1 "_law_pot" (sp_law_pot K) := by
  refine F.cl sc_law_pot (fun vs H Q E h => ?_) (fun f cdv A outer s H vs Q E hr h => ?_)
  · obtain ⟨x, y, rfl, _⟩ := h
    rfl
  obtain ⟨a, ns, rfl, hS, hl, q⟩ := h
  have nd := sc_law_pot.nd
  refine ⟨_, (pss_cons (ps_set (i := 1) nd rfl (Or.inl rfl) (pe_callTy (call_listK K) (by rfl) m_list (by decide +kernel) (pa_cons (pe_slice (sl_listK K) (pv 0) po_none (po_some pe_int)) pa_nil)))
    (pss_cons (ps_for PassesOwn.never rfl (pi_enumK K (by rfl) m_enumerate (pa_cons (pe_slice (sl_listK K) (pv 0) (po_some pe_int) (po_some pe_int)) pa_nil)) (pg_tupK K 2 rfl (pgs_cons (pg_name (i := 2) nd rfl (Or.inl rfl)) (pgs_cons (pg_name (i := 3) nd rfl (Or.inl rfl)) pgs_nil))) (pss_one (ps_asg (pe_op op_add (pe_ix (ix_listK K) (pv 1) (pe_op op_mod (pv 2) pe_int) (fun _ _ => rfl)) (pv 3)) (pg_sub (pv 1) (pe_op op_mod (pv 2) pe_int) set_list))))
    (pss_one (ps_ret (pe_lst (pa_cons (pv 1) (pa_cons pe_int (pa_cons pe_int pa_nil)))))))), ?_⟩
  have e1 : cutV (ns.map V.int) none (some 12) = (ns.take 12).map V.int := by rw [List.map_take]; exact cut_to _ 12
  have e2 : cutV (ns.map V.int) (some 12) (some 63) = (ns.drop 12).map V.int := by
    unfold cutV
    have q1 := HT.sIx_nat (ns.map V.int).length 0 12
    have q2 := HT.sIx_nat (ns.map V.int).length (ns.map V.int).length 63
    rw [show ((12 : Nat) : Int) = 12 from rfl] at q1
    rw [show ((63 : Nat) : Int) = 63 from rfl] at q2
    rw [q1, q2, List.length_map, Nat.min_eq_right hl, List.map_drop]
    by_cases h : 12 ≤ ns.length
    · rw [Nat.min_eq_left h]
      exact List.take_of_length_le (by rw [List.length_drop, List.length_map]; omega)
    · rw [Nat.min_eq_right (by omega), Nat.sub_self, List.take_zero]
      exact (List.drop_of_length_le (by rw [List.length_map]; omega)).symm
  generalize hms : ns.take 12 = ms at e1
  generalize hzs : ns.drop 12 = zs at e2
  have hlen : zs.length ≠ 0 → ms.length = 12 := fun h => by
    rw [← hzs, List.length_drop] at h
    rw [← hms, List.length_take]
    omega
  refine ⟨_, rfl, 12, rfl, a, _, rfl, hS, fun d nd => ?_⟩
  rw [e1]
  refine ⟨d, _, rfl, .inl (SqL.of upd_same), fun c nc => ?_⟩
  have g1 : Same H (upd (upd H d (.lst (ms.map V.int))) c (.lst (ms.map V.int))) := (same_new nd).trans (same_new nc)
  refine ⟨_, rfl, 12, rfl, 63, rfl, a, ns.map V.int, rfl, g1.seq hS, fun e ne => ?_⟩
  rw [e2]
  have nec : c ≠ e := fun q => by
    rw [← q, upd_same] at ne
    cases ne
  have ncH : H c = none := (same_new nd).free nc
  refine ⟨e, _, rfl, SqL.of upd_same, for_enum (xs := zs.map V.int) (fun i σ H' => ∃ (y2 y3 : Option V) (ks : List Int), σ = [some (.ref a), some (.ref c), y2, y3] ∧ Same H H' ∧ H' e = some (.lst (zs.map V.int)) ∧ H' c = some (.lst (ks.map V.int)) ∧ ks.length = ms.length) ?_ ?_ ?_ ?_⟩
  · refine ⟨none, none, ms, rfl, g1.trans (same_new ne), upd_same, ?_, rfl⟩
    rw [upd_ne nec, upd_same]
  · rintro i σ H' hi ⟨y2, y3, ks, rfl, sm, he, hc, hk⟩
    exact SqL.of he
  · rintro i x σ H' T hx ⟨y2, y3, ks, rfl, sm, he, hc, hk⟩ nT
    obtain ⟨z, hz, rfl⟩ : ∃ z, zs[i]? = some z ∧ x = .int z := by
      rw [List.getElem?_map] at hx
      cases e : zs[i]? with
      | none => rw [e] at hx; cases hx
      | some z => rw [e] at hx; exact ⟨z, rfl, (Option.some.inj hx).symm⟩
    have hi := (List.getElem?_eq_some_iff.mp hz).1
    have h12 : ks.length = 12 := hk.trans (hlen (by omega))
    have nTc : c ≠ T := ne_of_none hc nT
    have nTe : e ≠ T := ne_of_none he nT
    obtain ⟨j, hj, ej⟩ : ∃ j : Nat, j < ks.length ∧ (i : Int) % 12 = (j : Int) := ⟨((i : Int) % 12).toNat, by omega, by omega⟩
    have gj : (ks.map V.int)[j]? = some (.int ks[j]) := by rw [List.getElem?_map, List.getElem?_eq_getElem hj]; rfl
    refine ⟨T, _, rfl, SqT.of upd_same, rfl, _, _, rfl, _, _, rfl, rfl, ?_⟩
    refine ⟨_, rfl, _, rfl, _, _, rfl, rfl, (by show (0 : Int) < 12; decide), c, _, _, _, rfl, rfl, SqL.of (by rw [upd_ne nTc]; exact hc), at_of ej gj, _, rfl, _, _, rfl, rfl, ?_⟩
    refine ⟨_, rfl, _, rfl, _, _, rfl, rfl, (by show (0 : Int) < 12; decide), c, _, _, j, rfl, rfl, (by rw [upd_ne nTc]; exact hc), (by rw [ej]; exact Evl.ixN_nat (by rw [List.length_map]; exact hj)), ?_⟩
    refine ⟨some (.int i), some (.int z), ks.set j (ks[j] + z), rfl, same_mut (sm.trans (same_new nT)) ncH, ?_, ?_, by rw [List.length_set]; exact hk⟩
    · rw [upd_ne nec.symm, upd_ne nTe]
      exact he
    · rw [upd_same, List.map_set]
  · rintro σ H' ⟨y2, y3, ks, rfl, sm, he, hc, hk⟩
    refine ⟨_, rfl, (by show 3 ≤ sizeLine; decide), fun p np => ?_⟩
    exact q p c ks _ (sm.trans (same_new np)) (sm.free np) ncH ⟨0, 0, upd_same, by rw [upd_ne (ne_of_none hc np)]; exact hc, Int.le_refl 0, Int.le_refl 0⟩
/-! _law_pick -/
abbrev s_law_pick : Stmt := topS 11
theorem sc_law_pick : FnScope ["pot", "many", "at", "cell", "found"] ["pot", "many"] (defScope s_law_pick) := ⟨rfl, rfl, rfl, by decide +kernel, rfl, by decide +kernel, by decide +kernel⟩

def Mny (m : Int) : Prop := 0 < m ∧ m < 2 ^ 200
def sp_law_pick : Sp := fun vs H Q _ => ∃ (p c : Addr) (ns : List Int) (many : Int), vs = [.ref p, .int many] ∧ Pot H p c ns ∧ Mny many ∧ ∀ (r : Int) H', 0 ≤ r → r < many → Go p c ns H H' → Q (.int r) H'
theorem ok_law_pick (F : Def K mg "_law_pick" ["pot", "many"] s_law_pick) (m_len : mg "len" = none) (c_law_blend : Cl P w K mg base 1 "_law_blend" sp_law_blend) : Cl P w K mg base 2 "_law_pick" sp_law_pick := by
  refine F.cl sc_law_pick (fun vs H Q E h => ?_) (fun f cdv A outer s H vs Q E hr h => ?_)
  · obtain ⟨p, c, ns, m, rfl, _⟩ := h
    rfl
  obtain ⟨p, c, ns, m, rfl, hP, hm, q⟩ := h
  have nd := sc_law_pick.nd
  refine ⟨_, (pss_cut' (ps_if (pt_cmpR op_lt (pe_ix (ix_listK K) (pv 0) pe_int (fun _ _ => rfl)) (pv 1) (by rfl)) (pss_cons (ps_set (i := 2) nd rfl (Or.inl rfl) (pe_ix (ix_listK K) (pv 0) pe_int (fun _ _ => rfl)))
    (pss_cons (ps_set (i := 3) nd rfl (Or.inl rfl) (pe_op op_mul pe_int (pv 2)))
    (pss_cut' (ps_if (pt_cmpR op_lt (pv 2) (pe_callB (call_lenK K) (by rfl) m_len PySem.boot_len (pa_cons (pe_ix (ix_listK K) (pv 0) pe_int (fun _ _ => rfl)) pa_nil)) (by rfl)) (pss_one (ps_set (i := 3) nd rfl (Or.inl rfl) (pe_ix (ix_listK K) (pe_ix (ix_listK K) (pv 0) pe_int (fun _ _ => rfl)) (pv 2) (fun _ _ => rfl)))) (pss_one (ps_if (pt_cmpR (op_neK K hr.units) (pe_ix (ix_listK K) (pv 0) pe_int (fun _ _ => rfl)) (pe_lst pa_nil) (by rfl)) (pss_one (ps_set (i := 3) nd rfl (Or.inl rfl) (pe_op op_mod (pe_ix (ix_listK K) (pe_ix (ix_listK K) (pv 0) pe_int (fun _ _ => rfl)) (pe_op op_mod (pe_op op_add (pe_op op_mul (pv 2) pe_int) pe_int) (pe_callB (call_lenK K) (by rfl) m_len PySem.boot_len (pa_cons (pe_ix (ix_listK K) (pv 0) pe_int (fun _ _ => rfl)) pa_nil))) (fun _ _ => rfl)) (pe_op op_add (pe_op op_pow pe_int pe_int) (pe_op op_mul pe_int (pv 2)))))) pss_nil)))
    (pss_cons (ps_asg (pe_op op_add (pv 2) pe_int) (pg_sub (pv 0) pe_int set_list))
    (pss_one (ps_asg (pe_cl c_law_blend hr (by decide) (by rfl) (pa_cons (pv 3) (pa_cons (pv 2) pa_nil))) (pg_sub (pv 0) pe_int set_list))))))) pss_nil)
    (pss_cons (ps_set (i := 4) nd rfl (Or.inl rfl) (pe_op op_mod (pe_ix (ix_listK K) (pv 0) pe_int (fun _ _ => rfl)) (pv 1)))
    (pss_cons (ps_asg (pe_op op_fdivW (pe_ix (ix_listK K) (pv 0) pe_int (fun _ _ => rfl)) (pv 1)) (pg_sub (pv 0) pe_int set_list))
    (pss_one (ps_ret (pv 4)))))), ?_⟩
  obtain ⟨a, r, hp⟩ := id hP
  -- behind the first if: the pot's third is r, whatever it is
  refine ⟨fun σ H' => ∃ (y2 y3 : Option V), σ = [some (.ref p), some (.int m), y2, y3, none] ∧ Go p c ns H H', ?_, ?_⟩
  · refine ⟨_, rfl, p, _, _, _, rfl, rfl, SqL.of hp.hp, at_of (j := 2) rfl rfl, _, rfl, _, _, rfl, rfl, _, rfl, ite2 (fun e => ?_) (fun e => ?_)⟩
    · refine ⟨_, rfl, p, _, _, _, rfl, rfl, SqL.of hp.hp, at_of (j := 1) rfl rfl, _, rfl, _, _, rfl, rfl, .inl ⟨by decide, by decide⟩, ?_⟩
      -- cell, whatever it is
      refine ⟨fun σ H' => ∃ (z : Int), σ = [some (.ref p), some (.int m), some (.int a), some (.int z), none] ∧ Same H H', ?_, ?_⟩
      · refine ⟨_, rfl, _, rfl, p, _, _, _, rfl, rfl, SqL.of hp.hp, at_of (j := 0) rfl rfl, c, _, rfl, .inl (SqL.of hp.hc), _, _, rfl, rfl, _, rfl, ite2 (fun e2 => ?_) (fun e2 => ?_)⟩
        · have e3 := of_decide_eq_true e2
          rw [List.length_map] at e3
          have h0 := hp.ha
          obtain ⟨j, hj, ej⟩ : ∃ j : Nat, j < ns.length ∧ a = (j : Int) := ⟨a.toNat, by omega, by omega⟩
          refine ⟨_, rfl, p, _, _, _, rfl, rfl, SqL.of hp.hp, at_of (j := 0) rfl rfl, _, rfl, c, _, _, .int ns[j], rfl, rfl, SqL.of hp.hc, at_of ej (by rw [List.getElem?_map, List.getElem?_eq_getElem hj]; rfl), ?_⟩
          exact ⟨_, rfl, Same.refl H⟩
        · refine ⟨_, rfl, p, _, _, _, rfl, rfl, SqL.of hp.hp, at_of (j := 0) rfl rfl, (by show 0 ≤ sizeLine; decide), fun l nl => ?_⟩
          have sl : Same H (upd H l (.lst [])) := same_new nl
          refine ⟨.list (ns.map PyData.int), .list [], .lst (SqL.of (sl _ _ hp.hc)) (dp_ints ns), .lst (SqL.of upd_same) .nil, shaped_ints ns, by decide +kernel, _, rfl, ite2 (fun e3 => ?_) (fun e3 => ?_)⟩
          · have h0 := hp.ha
            have hne : ns ≠ [] := fun z => by
              rw [z] at e3
              exact absurd e3 (by decide)
            have hpos : 0 < ns.length := List.length_pos_iff.mpr hne
            have hp2 : PotAt (upd H l (.lst [])) p c ns a r := ⟨sl _ _ hp.hp, sl _ _ hp.hc, hp.ha, hp.hr⟩
            obtain ⟨j, hj, ej⟩ : ∃ j : Nat, j < ns.length ∧ (a * 7 + 1) % (((ns.map V.int).length : Nat) : Int) = (j : Int) := by
              rw [List.length_map]
              have g1 := Int.emod_nonneg (a * 7 + 1) (show ((ns.length : Nat) : Int) ≠ 0 by omega)
              have g2 := Int.emod_lt_of_pos (a * 7 + 1) (show (0 : Int) < ((ns.length : Nat) : Int) by omega)
              exact ⟨((a * 7 + 1) % (ns.length : Int)).toNat, by omega, by omega⟩
            refine ⟨_, rfl, p, _, _, _, rfl, rfl, SqL.of hp2.hp, at_of (j := 0) rfl rfl, _, rfl, _, _, rfl, rfl, .inr ⟨by decide, by decide⟩, _, _, rfl, rfl, ?_⟩
            refine ⟨_, rfl, p, _, _, _, rfl, rfl, SqL.of hp2.hp, at_of (j := 0) rfl rfl, c, _, rfl, .inl (SqL.of hp2.hc), _, _, rfl, rfl, (by show (0 : Int) < (((ns.map V.int).length : Nat) : Int); rw [List.length_map]; omega), ?_⟩
            refine ⟨c, _, _, .int ns[j], rfl, rfl, SqL.of hp2.hc, at_of ej (by rw [List.getElem?_map, List.getElem?_eq_getElem hj]; rfl), ?_⟩
            refine ⟨_, _, rfl, rfl, ⟨by decide, by decide, by decide⟩, _, rfl, _, _, rfl, rfl, .inl ⟨by decide, by decide⟩, _, _, rfl, rfl, _, _, rfl, rfl, ?_, ?_⟩
            · show (0 : Int) < 10 ^ Int.toNat 17 + 3 * a
              have e : (10 : Int) ^ Int.toNat 17 = 100000000000000000 := by decide
              omega
            · exact ⟨_, rfl, sl⟩
          · exact ⟨_, rfl, sl⟩
      · rintro σ H' ⟨z, rfl, sm⟩
        have hp' : PotAt H' p c ns a r := ⟨sm _ _ hp.hp, sm _ _ hp.hc, hp.ha, hp.hr⟩
        refine ⟨_, rfl, _, _, rfl, rfl, _, rfl, p, _, _, 1, rfl, rfl, hp'.hp, rfl, ?_⟩
        refine ⟨_, rfl, _, rfl, z, a, rfl, hp.ha, fun r2 h2 => ?_⟩
        refine ⟨_, rfl, p, _, _, 2, rfl, rfl, upd_same, rfl, ?_⟩
        rw [upd_upd]
        exact ⟨_, _, rfl, ((Go.refl hP).same sm).trans ⟨⟨a, r, hp'⟩, Fp.at, _, _, hp'.upd (by have := hp.ha; omega) h2⟩⟩
    · exact ⟨none, none, rfl, Go.refl hP⟩
  · rintro σ H' ⟨y2, y3, rfl, G⟩
    obtain ⟨a', r', hp'⟩ := id G.pot
    refine ⟨_, rfl, p, _, _, _, rfl, rfl, SqL.of hp'.hp, at_of (j := 2) rfl rfl, _, rfl, _, _, rfl, rfl, hm.1, ?_⟩
    refine ⟨_, rfl, p, _, _, _, rfl, rfl, SqL.of hp'.hp, at_of (j := 2) rfl rfl, _, rfl, _, _, rfl, rfl, wide_div (b := 200) hm.1 (by have := hm.1; have := hm.2; omega) (by decide) (by decide), ?_⟩
    refine ⟨_, rfl, p, _, _, 2, rfl, rfl, hp'.hp, rfl, ?_⟩
    exact ⟨_, rfl, q _ _ (Int.emod_nonneg _ (by have := hm.1; omega)) (Int.emod_lt_of_pos _ hm.1) (G.trans ⟨G.pot, Fp.at, _, _, hp'.upd hp'.ha (Int.ediv_nonneg hp'.hr (by have := hm.1; omega))⟩)⟩
end
end Kin
namespace Kin
open PySem PySem.Spec PyProof.Rows L2 RZ
section
variable {P : Program} {w : World} {K : PySem.W.Frag} {mg : Str → Option Value} {base : Heap}
/-! _law_order -/
abbrev s_law_order : Stmt := topS 12
theorem sc_law_order : FnScope ["pot", "many", "order", "k"] ["pot", "many"] (defScope s_law_order) := ⟨rfl, rfl, rfl, by decide +kernel, rfl, by decide +kernel, by decide +kernel⟩

theorem perm_ins {ks : List Nat} {n : Nat} (r : Nat) (h : ks.Perm (List.range n)) : (ks.take r ++ [n] ++ ks.drop r).Perm (List.range (n + 1)) := by
  rw [List.range_succ]
  have h1 : (ks.take r ++ [n] ++ ks.drop r).Perm ([n] ++ (ks.take r ++ ks.drop r)) := by
    rw [← List.append_assoc]
    exact List.Perm.append_right _ List.perm_append_comm
  rw [List.take_append_drop] at h1
  exact h1.trans ((List.Perm.append_left [n] h).trans List.perm_append_comm)
def sp_law_order : Sp := fun vs H Q _ => ∃ (p c : Addr) (ns : List Int) (n : Nat), vs = [.ref p, nV n] ∧ Pot H p c ns ∧ n ≤ 1000 ∧ ∀ (l : Addr) (ks : List Nat) H', Go p c ns H H' → H l = none → H' l = some (.lst (ks.map nV)) → ks.Perm (List.range n) → Q (.ref l) H'
theorem mny {m : Int} (h : 0 < m) (h2 : m ≤ 100000) : Mny m := ⟨h, by omega⟩
theorem ok_law_order (F : Def K mg "_law_order" ["pot", "many"] s_law_order) (m_range : mg "range" = none) (c_law_pick : Cl P w K mg base 2 "_law_pick" sp_law_pick) : Cl P w K mg base 3 "_law_order" sp_law_order := by
  refine F.cl sc_law_order (fun vs H Q E h => ?_) (fun f cdv A outer s H vs Q E hr h => ?_)
  · obtain ⟨p, c, ns, m, rfl, _⟩ := h
    rfl
  obtain ⟨p, c, ns, m, rfl, hP, hm, q⟩ := h
  have nd := sc_law_order.nd
  refine ⟨_, (pss_cons (ps_set (i := 2) nd rfl (Or.inl rfl) (pe_lst pa_nil))
    (pss_cons (ps_for PassesOwn.never rfl (pi_range1 (by rfl) m_range (pa_cons (pv 1) pa_nil)) (pg_name (i := 3) nd rfl (Or.inl rfl)) (pss_one (ps_expr (pe_bmK K PySem.F.plainAttrs_list PySem.F.slot_list_insert PySem.F.type_list_insert mt_insert (pv 2) (pa_cons (pe_cl c_law_pick hr (by decide) (by rfl) (pa_cons (pv 0) (pa_cons (pe_op op_add (pv 3) pe_int) pa_nil))) (pa_cons (pv 3) pa_nil))))))
    (pss_one (ps_ret (pv 2))))), ?_⟩
  refine ⟨(by show 0 ≤ sizeLine; decide), fun l nl => ?_⟩
  refine ⟨_, rfl, _, rfl, by omega, by omega, for_range (lo := 0) (n := (m : Int).toNat) (fun i σ H' => ∃ (y : Option V) (ks : List Nat), σ = [some (.ref p), some (nV m), some (.ref l), y] ∧ Go p c ns H H' ∧ H' l = some (.lst (ks.map nV)) ∧ ks.Perm (List.range i)) ?_ ?_ ?_⟩
  · exact ⟨none, [], rfl, (Go.refl hP).new nl, upd_same, List.Perm.refl _⟩
  · rintro i σ H' hi ⟨y, ks, rfl, G, hl, hp⟩
    have hlen : ks.length = i := by rw [hp.length_eq, List.length_range]
    refine ⟨_, rfl, .inl ⟨rfl, _, SqL.of hl⟩, _, rfl, _, rfl, _, _, rfl, rfl, p, c, ns, _, rfl, G.pot, mny (by omega) (by omega), fun r H2 r0 r1 G2 => ?_⟩
    have hl2 : H2 l = some (.lst (ks.map nV)) := G2.get (hP.nep nl) hl
    refine ⟨_, rfl, l, _, r, _, rfl, rfl, hl2, ?_, r0, by omega, ?_⟩
    · rw [List.length_map, hlen]
      exact Nat.lt_of_lt_of_le (show i < 1000 by omega) (by decide)
    · refine ⟨some (.int ((0 : Int) + (i : Int))), ks.take r.toNat ++ [i] ++ ks.drop r.toNat, rfl, (G.trans G2).mut nl, ?_, perm_ins _ hp⟩
      rw [upd_same, List.map_append, List.map_append, List.map_take, List.map_drop]
      show some (HO.lst (_ ++ [V.int (0 + (i : Int))] ++ _)) = some (HO.lst (_ ++ [V.int (i : Int)] ++ _))
      rw [Int.zero_add]
  · rintro σ H' ⟨y, ks, rfl, G, hl, hp⟩
    exact ⟨_, rfl, q l ks H' G nl hl hp⟩
/-! _law_letters -/
abbrev s_law_letters : Stmt := topS 13
theorem sc_law_letters : FnScope ["pot", "many", "small", "rest", "spot", "turn", "size", "found", "k", "part", "at"] ["pot", "many"] (defScope s_law_letters) := ⟨rfl, rfl, rfl, by decide +kernel, rfl, by decide +kernel, by decide +kernel⟩
def sp_law_letters : Sp := fun vs H Q _ => ∃ (p c : Addr) (ns : List Int) (n : Nat), vs = [.ref p, nV n] ∧ Pot H p c ns ∧ n ≤ 26 ∧ ∀ (l : Addr) (xs : List Str) H', Go p c ns H H' → H l = none → H' l = some (.lst (xs.map V.str)) → xs.length = n → xs.Nodup → (∀ x ∈ xs, IsName x) → Q (.ref l) H'
theorem spot_at {sp : Nat} (h : sp < 3) (n : Nat) : atI [V.int 0, V.int (n : Int), V.int ((n : Int) / 2)] (sp : Int) = some (V.int ((spotL sp n : Nat) : Int)) := by
  refine atI_nat ?_
  match sp, h with
  | 0, _ => rfl
  | 1, _ => rfl
  | 2, _ => rfl
theorem ok_law_letters (F : Def K mg "_law_letters" ["pot", "many"] s_law_letters) (m_range : mg "range" = none) (m_len : mg "len" = none) (c_law_pick : Cl P w K mg base 2 "_law_pick" sp_law_pick) : Cl P w K mg base 3 "_law_letters" sp_law_letters := by
  refine F.cl sc_law_letters (fun vs H Q E h => ?_) (fun f cdv A outer s H vs Q E hr h => ?_)
  · obtain ⟨p, c, ns, m, rfl, _⟩ := h
    rfl
  obtain ⟨p, c, ns, m, rfl, hP, hm, q⟩ := h
  have nd := sc_law_letters.nd
  refine ⟨_, (pss_cons (ps_set (i := 2) nd rfl (Or.inr rfl) pe_str)
    (pss_cons (ps_set (i := 3) nd rfl (Or.inl rfl) (pe_joinK K pe_str (pe_lc (own := [("k", 8)]) (g := gName 8) (tt := tYes) (by rfl) nd (pi_range1 (by rfl) m_range (pa_cons pe_int pa_nil)) (blkOk_by (own := [("k", 8)]) (N := ["pot", "many", "small", "rest", "spot", "turn", "size", "found", "k", "part", "at"]) (sc := defScope s_law_letters) (by decide +kernel)) (fun _ _ _ _ _ => (pg_name (i := 8) nd rfl (Or.inl rfl))) (fun _ _ _ _ _ => pts_nil) (fun _ _ _ _ _ => (pe_ix ix_str (pv 2) (pe_cl c_law_pick hr (by decide) (by rfl) (pa_cons (pv 0) (pa_cons pe_int pa_nil))) (fun _ _ => rfl))))))
    (pss_cons (ps_set (i := 4) nd rfl (Or.inl rfl) (pe_cl c_law_pick hr (by decide) (by rfl) (pa_cons (pv 0) (pa_cons pe_int pa_nil))))
    (pss_cons (ps_set (i := 5) nd rfl (Or.inl rfl) (pe_cl c_law_pick hr (by decide) (by rfl) (pa_cons (pv 0) (pa_cons pe_int pa_nil))))
    (pss_cons (ps_set (i := 6) nd rfl (Or.inl rfl) (pe_cl c_law_pick hr (by decide) (by rfl) (pa_cons (pv 0) (pa_cons pe_int pa_nil))))
    (pss_cons (ps_set (i := 7) nd rfl (Or.inl rfl) (pe_lst pa_nil))
    (pss_cons (ps_for PassesOwn.never rfl (pi_range1 (by rfl) m_range (pa_cons (pv 1) pa_nil)) (pg_name (i := 8) nd rfl (Or.inl rfl)) (pss_cons (ps_set (i := 9) nd rfl (Or.inl rfl) (pe_slice sl_str (pv 3) po_none (po_some (pe_op op_mod (pe_op op_add (pv 6) (pe_op op_mul (pv 8) (pe_op op_mod (pv 4) pe_int))) pe_int))))
    (pss_cons (ps_set (i := 10) nd rfl (Or.inl rfl) (pe_ix (ix_listK K) (pe_lst (pa_cons pe_int (pa_cons (pe_callB call_len_str (by rfl) m_len PySem.boot_len (pa_cons (pv 9) pa_nil)) (pa_cons (pe_op op_fdivW (pe_callB call_len_str (by rfl) m_len PySem.boot_len (pa_cons (pv 9) pa_nil)) pe_int) pa_nil)))) (pv 4) (fun _ _ => rfl)))
    (pss_one (ps_expr (pe_bmK K PySem.F.plainAttrs_list PySem.F.slot_list_append PySem.F.type_list_append mt_append (pv 7) (pa_cons (pe_op op_add_str (pe_op op_add_str (pe_slice sl_str (pv 9) po_none (po_some (pv 10))) (pe_ix ix_str (pv 2) (pe_op op_mod (pe_op op_add (pv 5) (pe_op op_mul pe_int (pv 8))) pe_int) (fun _ _ => rfl))) (pe_slice sl_str (pv 9) (po_some (pv 10)) po_none)) pa_nil)))))))
    (pss_one (ps_ret (pv 7)))))))))), ?_⟩
  rw [small_eq, show Str.ofString "" = mk [] by decide +kernel]
  -- rest
  refine ⟨⟨_, rfl⟩, 7, rfl, by decide, by decide, fun D nD => lc_range (lo := 0) (n := 7) (fun i H' => ∃ cs : List Nat, Go p c ns H H' ∧ H' D = some (.lst ((cs.map fun x => mk [x]).map V.str)) ∧ cs.length = i ∧ ∀ x ∈ cs, 97 ≤ x ∧ x ≤ 122) ?_ ?_ ?_⟩
  · exact ⟨[], (Go.refl hP).new nD, upd_same, rfl, fun x hx => nomatch hx⟩
  · rintro i H' hi ⟨cs, G, hD, hl, hc⟩
    refine ⟨rfl, ?_⟩
    refine ⟨_, rfl, _, rfl, p, c, ns, _, rfl, G.pot, mny (by decide) (by decide), fun r H2 r0 r1 G2 => ?_⟩
    have hD2 : H2 D = some (.lst ((cs.map fun x => mk [x]).map V.str)) := G2.get (hP.nep nD) hD
    refine ⟨_, _, _, rfl, rfl, by decide +kernel, small_at r0 r1, _, hD2, ?_, cs ++ [letter r.toNat], (G.trans G2).mut nD, ?_, by rw [List.length_append, hl]; rfl, fun x hx => ?_⟩
    · rw [List.length_map, List.length_map, hl]
      exact small1000 (by omega)
    · rw [upd_same, List.map_append, List.map_append]
      rfl
    · rcases List.mem_append.mp hx with h | h
      · exact hc x h
      · rw [List.mem_singleton.mp h]
        exact letter_rng _
  rintro H1 ⟨rest, G1, hD, hl, hrest⟩
  refine ⟨_, _, _, rfl, rfl, .inl (SqL.of hD), ?_, ?_⟩
  · rw [List.map_map, List.length_map, hl]
    have e : ∀ cs : List Nat, (cs.map ((fun x : Str => x.length) ∘ fun x => mk [x])).sum = cs.length := fun cs => by
      induction cs with
      | nil => rfl
      | cons a r ih =>
        rw [List.map_cons, List.sum_cons, ih, List.length_cons]
        exact Nat.add_comm 1 _
    rw [e, hl]
    decide
  rw [mk_join]
  refine ⟨_, rfl, p, c, ns, _, rfl, G1.pot, mny (by decide) (by decide), fun sp H2 sp0 sp1 G2 => ?_⟩
  refine ⟨_, rfl, p, c, ns, _, rfl, G2.pot, mny (by decide) (by decide), fun tu H3 tu0 tu1 G3 => ?_⟩
  refine ⟨_, rfl, p, c, ns, _, rfl, G3.pot, mny (by decide) (by decide), fun si H4 si0 si1 G4 => ?_⟩
  have G := ((G1.trans G2).trans G3).trans G4
  obtain ⟨sp, rfl⟩ : ∃ n : Nat, sp = (n : Int) := ⟨sp.toNat, by omega⟩
  obtain ⟨tu, rfl⟩ : ∃ n : Nat, tu = (n : Int) := ⟨tu.toNat, by omega⟩
  obtain ⟨si, rfl⟩ : ∃ n : Nat, si = (n : Int) := ⟨si.toNat, by omega⟩
  refine ⟨(by show 0 ≤ sizeLine; decide), fun l nl => ?_⟩
  have nlH : H l = none := G.free nl
  refine ⟨_, rfl, _, rfl, by omega, by omega, for_range (lo := 0) (n := (m : Int).toNat) (fun i σ H' => ∃ (y8 y9 y10 : Option V), σ = [some (.ref p), some (nV m), some (.str small), some (.str (mk rest)), some (.int sp), some (.int tu), some (.int si), some (.ref l), y8, y9, y10] ∧ Go p c ns H H' ∧ H' l = some (.lst ((namesL rest sp tu si i).map V.str))) ?_ ?_ ?_⟩
  · exact ⟨none, none, none, rfl, G.new nl, upd_same⟩
  · rintro i σ H' hi ⟨y8, y9, y10, rfl, G, hl⟩
    have si31 : i < 26 := by omega
    have e8 : ((si : Int) + ((0 : Int) + (i : Int)) * ((sp : Int) % 2)) % 8 = (((si + i * (sp % 2)) % 8 : Nat) : Int) := by
      rw [Int.zero_add, Int.natCast_emod, Int.natCast_add, Int.natCast_mul, Int.natCast_emod]
      rfl
    -- part
    refine ⟨_, rfl, _, rfl, _, rfl, _, rfl, _, _, rfl, rfl, (by show (0 : Int) < 2; decide), _, _, rfl, rfl, .inl ⟨by omega, by omega⟩, _, _, rfl, rfl, _, _, rfl, rfl, (by show (0 : Int) < 8; decide), _, rfl, mk rest, rfl, ?_, ?_⟩
    · rw [mk_len]
      exact Nat.le_of_lt (small1000 (by omega))
    rw [e8, mk_to]
    have pl := part_len rest si sp i
    show tSeq _ _ _ [some (.ref p), some (nV m), some (.str small), some (.str (mk rest)), some (.int sp), some (.int tu), some (.int si), some (.ref l), some (.int ((0 : Int) + (i : Int))), some (.str (mk (partL rest si sp i))), y10] H'
    generalize hpt : partL rest si sp i = pt at pl
    have pz : (mk pt).length ≤ sizeLine := by
      rw [mk_len]
      exact Nat.le_of_lt (small1000 (by omega))
    -- at
    refine ⟨_, rfl, _, rfl, pz, _, rfl, _, rfl, pz, _, _, rfl, rfl, ⟨by decide, by decide⟩, (by show 3 ≤ sizeLine; decide), fun q3 nq3 => ?_⟩
    refine ⟨_, rfl, q3, _, _, .int (spotL sp pt.length), rfl, rfl, SqL.of upd_same, ?_, ?_⟩
    · rw [mk_len]
      exact spot_at (by omega) _
    -- found.append
    have hl2 : upd H' q3 (.lst [V.int 0, V.int (mk pt).length, V.int (((mk pt).length : Int) / 2)]) l = some (.lst ((namesL rest sp tu si i).map V.str)) := same_new nq3 _ _ hl
    refine ⟨_, rfl, .inl ⟨rfl, _, SqL.of hl2⟩, _, rfl, _, rfl, _, rfl, _, rfl, pz, _, rfl, _, rfl, _, rfl, _, _, rfl, rfl, .inl ⟨by decide, by decide⟩, _, _, rfl, rfl, _, _, rfl, rfl, (by show (0 : Int) < 26; decide), _, _, _, rfl, rfl, by decide +kernel, small_at (Int.emod_nonneg _ (by decide)) (Int.emod_lt_of_pos _ (by decide)), _, _, rfl, rfl, ?_, ?_⟩
    · rw [mk_to, mk_len, List.length_take]
      exact Nat.le_of_lt (small1000 (by show min (spotL sp pt.length) pt.length + 1 ≤ 1000; omega))
    refine ⟨_, rfl, _, rfl, _, rfl, _, rfl, pz, _, _, rfl, rfl, ?_, ?_⟩
    · rw [mk_to, mk_from, mk_len, List.length_drop]
      refine Nat.le_of_lt (small1000 ?_)
      show (mk (pt.take _) ++ mk [_]).length + _ ≤ 1000
      rw [mk_app, mk_len, List.length_append, List.length_take]
      show min _ _ + 1 + _ ≤ 1000
      omega
    have el : letter (((tu : Int) + 5 * ((0 : Int) + (i : Int))) % 26).toNat = letter (tu + 5 * i) := by
      unfold letter
      omega
    have ev : cutS (mk pt) none (some ((spotL sp pt.length : Nat) : Int)) ++ ⟨#[letter (((tu : Int) + 5 * ((0 : Int) + (i : Int))) % 26).toNat]⟩ ++ cutS (mk pt) (some ((spotL sp pt.length : Nat) : Int)) none = mk (nameL rest sp tu si i) := by
      rw [mk_to, mk_from, el, show (⟨#[letter (tu + 5 * i)]⟩ : Str) = mk [letter (tu + 5 * i)] from rfl, mk_app, mk_app]
      unfold nameL
      rw [hpt, List.append_assoc]
      rfl
    refine ⟨l, _, _, rfl, rfl, hl2, ?_, _, _, _, rfl, (G.new nq3).mut nlH, ?_⟩
    · rw [List.length_map]
      unfold namesL
      rw [List.length_map, List.length_range]
      exact small1000 (by omega)
    · rw [upd_same]
      show some (HO.lst (_ ++ [V.str (cutS (mk pt) none (some ((spotL sp pt.length : Nat) : Int)) ++ ⟨#[letter (((tu : Int) + 5 * ((0 : Int) + (i : Int))) % 26).toNat]⟩ ++ cutS (mk pt) (some ((spotL sp pt.length : Nat) : Int)) none)])) = _
      rw [ev]
      unfold namesL
      rw [List.range_succ, List.map_append, List.map_append]
      rfl
  · rintro σ H' ⟨y8, y9, y10, rfl, G, hl⟩
    rw [Int.toNat_natCast] at hl
    exact ⟨_, rfl, q l _ H' G nlH hl (by unfold namesL; rw [List.length_map, List.length_range]) (names_nodup (by omega) hm) (fun x hx => by
      obtain ⟨k, _, rfl⟩ := List.mem_map.mp hx
      exact name_ok hrest _ _ _ _)⟩
/-! _law_names -/
abbrev s_law_names : Stmt := topS 14
theorem sc_law_names : FnScope ["pot", "many", "way", "turn", "small", "found", "k"] ["pot", "many"] (defScope s_law_names) := ⟨rfl, rfl, rfl, by decide +kernel, rfl, by decide +kernel, by decide +kernel⟩
def sp_law_names : Sp := fun vs H Q _ => ∃ (p c : Addr) (ns : List Int) (n : Nat), vs = [.ref p, nV n] ∧ Pot H p c ns ∧ n ≤ 26 ∧ ∀ (l : Addr) (xs : List Str) H', Go p c ns H H' → H l = none → H' l = some (.lst (xs.map V.str)) → xs.length = n → xs.Nodup → (∀ x ∈ xs, IsName x) → Q (.ref l) H'
theorem picks_perm {α : Type} (d : α) {ks : List Nat} (xs : List α) (h : ks.Perm (List.range xs.length)) : (ks.map fun k => xs.getD k d).Perm xs := by
  have e : (List.range xs.length).map (fun k => xs.getD k d) = xs := by
    refine List.ext_getElem (by rw [List.length_map, List.length_range]) fun i h1 h2 => ?_
    rw [List.getElem_map, List.getElem_range, List.getD_eq_getElem?_getD, List.getElem?_eq_getElem h2]
    rfl
  have h2 := h.map (fun k => xs.getD k d)
  rw [e] at h2
  exact h2
theorem ok_law_names (F : Def K mg "_law_names" ["pot", "many"] s_law_names) (m_range : mg "range" = none) (c_law_pick : Cl P w K mg base 2 "_law_pick" sp_law_pick) (c_law_letters : Cl P w K mg base 3 "_law_letters" sp_law_letters) (c_law_order : Cl P w K mg base 3 "_law_order" sp_law_order) : Cl P w K mg base 4 "_law_names" sp_law_names := by
  refine F.cl sc_law_names (fun vs H Q E h => ?_) (fun f cdv A outer s H vs Q E hr h => ?_)
  · obtain ⟨p, c, ns, m, rfl, _⟩ := h
    rfl
  obtain ⟨p, c, ns, m, rfl, hP, hm, q⟩ := h
  have nd := sc_law_names.nd
  refine ⟨_, (pss_cons (ps_set (i := 2) nd rfl (Or.inl rfl) (pe_cl c_law_pick hr (by decide) (by rfl) (pa_cons (pv 0) (pa_cons pe_int pa_nil))))
    (pss_cons (ps_set (i := 3) nd rfl (Or.inr rfl) (pe_cl c_law_pick hr (by decide) (by rfl) (pa_cons (pv 0) (pa_cons pe_int pa_nil))))
    (pss_cons (ps_set (i := 4) nd rfl (Or.inr rfl) pe_str)
    (pss_cut' (ps_if (pt_cmpR op_eq (pv 2) pe_int (by rfl)) (pss_one (ps_set (i := 5) nd rfl (Or.inr rfl) (pe_lc (own := [("k", 6)]) (g := gName 6) (tt := tYes) (by rfl) nd (pi_range1 (by rfl) m_range (pa_cons (pv 1) pa_nil)) (blkOk_by (own := [("k", 6)]) (N := ["pot", "many", "way", "turn", "small", "found", "k"]) (sc := defScope s_law_names) (by decide +kernel)) (fun _ _ _ _ _ => (pg_name (i := 6) nd rfl (Or.inl rfl))) (fun _ _ _ _ _ => pts_nil) (fun _ _ _ _ _ => (pe_op op_repS (pe_ix ix_str (pv 4) (pe_op op_mod (pe_op op_add (pv 3) (pe_op op_fdivW (pv 6) pe_int)) pe_int) (fun _ _ => rfl)) (pe_op op_add pe_int (pe_op op_mod (pv 6) pe_int))))))) (pss_one (ps_set (i := 5) nd rfl (Or.inr rfl) (pe_cl c_law_letters hr (by decide) (by rfl) (pa_cons (pv 0) (pa_cons (pv 1) pa_nil))))))
    (pss_one (ps_ret (pe_lc (own := [("k", 6)]) (g := gName 6) (tt := tYes) (by rfl) nd (pi_listK K (pe_cl c_law_order hr (by decide) (by rfl) (pa_cons (pv 0) (pa_cons (pv 1) pa_nil)))) (blkOk_by (own := [("k", 6)]) (N := ["pot", "many", "way", "turn", "small", "found", "k"]) (sc := defScope s_law_names) (by decide +kernel)) (fun _ _ _ _ _ => (pg_name (i := 6) nd rfl (Or.inl rfl))) (fun _ _ _ _ _ => pts_nil) (fun _ _ _ _ _ => (pe_ix (ix_listK K) (pv 5) (pv 6) (fun _ _ => rfl)))))))))), ?_⟩
  rw [small_eq]
  refine ⟨_, rfl, p, c, ns, _, rfl, hP, mny (by decide) (by decide), fun way H1 w0 w1 G1 => ?_⟩
  refine ⟨_, rfl, p, c, ns, _, rfl, G1.pot, mny (by decide) (by decide), fun tu H2 t0 t1 G2 => ?_⟩
  have G := G1.trans G2
  obtain ⟨tu, rfl⟩ : ∃ n : Nat, tu = (n : Int) := ⟨tu.toNat, by omega⟩
  refine ⟨fun σ H' => ∃ (fl : Addr) (xs : List Str), σ = [some (.ref p), some (nV m), some (.int way), some (.int tu), some (.str small), some (.ref fl), none] ∧ Go p c ns H H' ∧ H fl = none ∧ H' fl = some (.lst (xs.map V.str)) ∧ xs.length = m ∧ xs.Nodup ∧ ∀ x ∈ xs, IsName x, ?_, ?_⟩
  · refine ⟨_, rfl, rfl, _, rfl, ite2 (fun e => ?_) (fun e => ?_)⟩
    · refine ⟨_, rfl, _, rfl, by omega, by omega, fun D nD => lc_range (lo := 0) (n := (m : Int).toNat) (fun i H' => Same H2 H' ∧ H' D = some (.lst (((List.range i).map fun k => mk (repL tu k)).map V.str))) ?_ ?_ ?_⟩
      · exact ⟨same_new nD, upd_same⟩
      · rintro i H' hi ⟨sm, hD⟩
        refine ⟨rfl, ?_⟩
        refine ⟨_, rfl, _, rfl, _, rfl, _, _, rfl, rfl, ⟨by decide, by decide⟩, _, _, rfl, rfl, _, _, rfl, rfl, (by show (0 : Int) < 26; decide), _, _, _, rfl, rfl, by decide +kernel, small_at (Int.emod_nonneg _ (by decide)) (Int.emod_lt_of_pos _ (by decide)), ?_⟩
        refine ⟨_, rfl, _, _, rfl, rfl, (by show (0 : Int) < 8; decide), _, _, rfl, rfl, _, _, rfl, rfl, by omega, by omega, by show 1 ≤ 1000; decide, by show 1 ≤ 1; decide, ?_⟩
        have e1 : letter (((tu : Int) + ((0 : Int) + (i : Int)) / 8) % 26).toNat = letter (tu + i / 8) := by
          unfold letter
          omega
        have e2 : (1 + ((0 : Int) + (i : Int)) % 8).toNat = 1 + i % 8 := by omega
        refine ⟨_, hD, ?_, same_mut sm nD, ?_⟩
        · rw [List.length_map, List.length_map, List.length_range]
          exact small1000 (by omega)
        · rw [upd_same, List.range_succ, List.map_append, List.map_append]
          show some (HO.lst (_ ++ [V.str ⟨(List.replicate (1 + ((0 : Int) + (i : Int)) % 8).toNat [letter (((tu : Int) + ((0 : Int) + (i : Int)) / 8) % 26).toNat]).flatten.toArray⟩])) = _
          rw [e1, e2, List.flatten_replicate_singleton]
          rfl
      · rintro H' ⟨sm, hD⟩
        rw [Int.toNat_natCast] at hD
        refine ⟨D, _, rfl, G.same sm, G.free nD, hD, by rw [List.length_map, List.length_range], nodup_map fun a b ha hb h => rep_inj (turn := tu) (by omega) (by omega) (mk_inj h), fun x hx => ?_⟩
        obtain ⟨k, _, rfl⟩ := List.mem_map.mp hx
        exact rep_ok _ _
    · refine ⟨_, rfl, _, rfl, p, c, ns, m, rfl, G.pot, hm, fun l xs H3 G3 nl hl h1 h2 h3 => ?_⟩
      exact ⟨l, xs, rfl, G.trans G3, G.free nl, hl, h1, h2, h3⟩
  · rintro σ H' ⟨fl, xs, rfl, G', nfl, hfl, hlen, hnd, hnm⟩
    refine ⟨_, rfl, _, rfl, p, c, ns, m, rfl, G'.pot, by omega, fun ol ks H3 G3 nol hol hperm => ⟨ol, rfl, ⟨_, SqL.of hol⟩, fun D nD => lc_list (xs := ks.map nV) (fun i H4 => Same H3 H4 ∧ H4 D = some (.lst (((ks.take i).map fun k => xs.getD k (mk [])).map V.str))) ?_ ?_ ?_ ?_⟩⟩
    · exact ⟨same_new nD, upd_same⟩
    · rintro i H4 _ ⟨sm, _⟩
      exact SqL.of (sm _ _ hol)
    · rintro i x H4 hx ⟨sm, hD⟩
      obtain ⟨k, hk, rfl⟩ : ∃ k, ks[i]? = some k ∧ x = nV k := by
        rw [List.getElem?_map] at hx
        cases e : ks[i]? with
        | none => rw [e] at hx; cases hx
        | some z => rw [e] at hx; exact ⟨z, rfl, (Option.some.inj hx).symm⟩
      have hkm : k < xs.length := by
        have h1 := hperm.mem_iff.mp (List.mem_of_getElem? hk)
        rw [hlen]
        exact List.mem_range.mp h1
      have hil := (List.getElem?_eq_some_iff.mp hk).1
      have hkl : ks.length = m := by rw [hperm.length_eq, List.length_range]
      have hf : H4 fl = some (.lst (xs.map V.str)) := sm _ _ (G3.get (hP.nep nfl) hfl)
      refine ⟨rfl, ?_⟩
      refine ⟨_, rfl, _, rfl, fl, _, _, V.str (xs.getD k (mk [])), rfl, rfl, SqL.of hf, at_of (j := k) rfl ?_, _, hD, ?_, same_mut sm nD, ?_⟩
      · rw [List.getElem?_map, List.getD_eq_getElem?_getD, List.getElem?_eq_getElem hkm]
        rfl
      · rw [List.length_map, List.length_map, List.length_take]
        exact small1000 (by omega)
      · rw [upd_same, List.take_add_one, hk, List.map_append, List.map_append]
        rfl
    · rintro H4 ⟨sm, hD⟩
      rw [List.length_map, List.take_length] at hD
      have hp := picks_perm (mk []) (ks := ks) xs (by rw [hlen]; exact hperm)
      exact q D _ H4 ((G'.trans G3).same sm) ((G'.trans G3).free nD) hD (by rw [hp.length_eq, hlen]) (hp.nodup_iff.mpr hnd) fun x hx => hnm x (hp.mem_iff.mp hx)
end
end Kin
namespace Kin
open PySem PySem.Spec PyProof.Rows L2 RZ
section
variable {P : Program} {w : World} {K : PySem.W.Frag} {mg : Str → Option Value} {base : Heap}
/-! _row_against -/
abbrev s_row_against : Stmt := topS 5
theorem sc_row_against : FnScope ["left", "name", "number", "row"] ["left", "name"] (defScope s_row_against) := ⟨rfl, rfl, rfl, by decide +kernel, rfl, by decide +kernel, by decide +kernel⟩
def sp_row_against (K : PySem.W.Frag) : Sp := fun vs H Q _ => ∃ (a : Addr) (as : List Addr) (left : Rows) (x : Str), vs = [.ref a, .str x] ∧ RowsAt K H a as left ∧ ∀ H', Same H H' → Q (numV (against left x)) H'
theorem ok_row_against (F : Def K mg "_row_against" ["left", "name"] s_row_against) (m_enumerate : mg "enumerate" = none) : Cl P w K mg base 1 "_row_against" (sp_row_against K) := by
  refine F.cl sc_row_against (fun vs H Q E h => ?_) (fun f cdv A outer s H vs Q E hr h => ?_)
  · obtain ⟨a, as, left, x, rfl, _⟩ := h
    rfl
  obtain ⟨a, as, left, x, rfl, hR, q⟩ := h
  have nd := sc_row_against.nd
  refine ⟨_, (pss_cons (ps_for PassesOwn.never rfl (pi_enumK K (by rfl) m_enumerate (pa_cons (pv 0) pa_nil)) (pg_tupK K 2 rfl (pgs_cons (pg_name (i := 2) nd rfl (Or.inl rfl)) (pgs_cons (pg_name (i := 3) nd rfl (Or.inl rfl)) pgs_nil))) (pss_one (ps_if (pt_cmpR (op_inK K) (pv 1) (pe_slice (sl_listK K) (pv 3) (po_some pe_int) po_none) (by rfl)) (pss_one (ps_ret (pv 2))) pss_nil)))
    (pss_one (ps_ret pe_non))), ?_⟩
  refine ⟨_, rfl, a, _, rfl, hR.1, for_enum (xs := as.map V.ref) (fun i σ H' => ∃ y2 y3, σ = [some (.ref a), some (.str x), y2, y3] ∧ Same H H' ∧ ∀ (j : Nat) r, j < i → left[j]? = some r → x ∉ r.tail) ?_ ?_ ?_ ?_⟩
  · exact ⟨none, none, rfl, Same.refl H, fun j r h => absurd h (Nat.not_lt_zero j)⟩
  · rintro i σ H' _ ⟨y2, y3, rfl, sm, _⟩
    exact (hR.same sm).1
  · rintro i y σ H' T hy ⟨y2, y3, rfl, sm, hn⟩ nT
    obtain ⟨b, hb, rfl⟩ := ref_of hy
    obtain ⟨row, hrow, hS⟩ := hR.2.get hb
    have s1 := sm.trans (same_new (o := .tup [.int (i : Nat), .ref b]) nT)
    refine ⟨T, _, rfl, SqT.of upd_same, rfl, _, _, rfl, _, _, rfl, rfl, ?_⟩
    refine ⟨_, rfl, _, rfl, 1, rfl, b, _, rfl, s1.seq hS, fun d nd' => ?_⟩
    rw [cut_tail]
    refine ⟨d, _, rfl, .inl (SqL.of upd_same), rfl, flat_strs _, _, rfl, ?_⟩
    show (if inV (.str x) (row.tail.map V.str) = true then _ else _)
    rw [inV_strs]
    have s2 := s1.trans (same_new (o := .lst (row.tail.map V.str)) nd')
    refine ite2 (fun e => ?_) (fun e => ?_)
    · have hx := of_decide_eq_true e
      refine ⟨_, rfl, ?_⟩
      have ea : against left x = some i := by
        unfold against
        rw [List.findIdx?_eq_some_iff_getElem]
        obtain ⟨hi, ei⟩ := List.getElem?_eq_some_iff.mp hrow
        refine ⟨hi, by rw [ei]; exact decide_eq_true hx, fun j hj => ?_⟩
        have hj2 : j < left.length := by omega
        rw [decide_eq_false (hn j left[j] hj (List.getElem?_eq_getElem hj2))]
        decide
      have z := q _ s2
      rw [ea] at z
      exact z
    · have hx : x ∉ row.tail := of_decide_eq_false (Bool.eq_false_iff.mpr e)
      refine ⟨some (.int (i : Nat)), some (.ref b), rfl, s2, fun j r hj h => ?_⟩
      by_cases c : j = i
      · subst c
        rw [hrow] at h
        exact Option.some.inj h ▸ hx
      · exact hn j r (by omega) h
  · rintro σ H' ⟨y2, y3, rfl, sm, hn⟩
    have ea : against left x = none := by
      rw [against_none, mem_behind]
      rintro ⟨r, hr, hx⟩
      obtain ⟨j, hj, e⟩ := List.getElem_of_mem hr
      refine hn j r ?_ (by rw [List.getElem?_eq_getElem hj, e]) hx
      rw [List.length_map, hR.2.len]
      exact hj
    have z := q _ sm
    rw [ea] at z
    exact z
/-! _next_name -/
abbrev s_next_name : Stmt := topS 4
theorem sc_next_name : FnScope ["left", "row"] ["left"] (defScope s_next_name) := ⟨rfl, rfl, rfl, by decide +kernel, rfl, by decide +kernel, by decide +kernel⟩
def sp_next_name (K : PySem.W.Frag) : Sp := fun vs H Q _ => ∃ (a : Addr) (as : List Addr) (left : Rows), vs = [.ref a] ∧ RowsAt K H a as left ∧ ∀ H', Same H H' → Q (strV (heads left).head?) H'
theorem ok_next_name (F : Def K mg "_next_name" ["left"] s_next_name) (c_row_against : Cl P w K mg base 1 "_row_against" (sp_row_against K)) : Cl P w K mg base 2 "_next_name" (sp_next_name K) := by
  refine F.cl sc_next_name (fun vs H Q E h => ?_) (fun f cdv A outer s H vs Q E hr h => ?_)
  · obtain ⟨a, as, left, rfl, _⟩ := h
    rfl
  obtain ⟨a, as, left, rfl, hR, q⟩ := h
  have nd := sc_next_name.nd
  refine ⟨_, (pss_cons (ps_for PassesOwn.never rfl (pi_listK K (pv 0)) (pg_name (i := 1) nd rfl (Or.inl rfl)) (pss_one (ps_if (PW.pt (pw_and (pt_truK K (pv 1) (by intro _; rfl)) (pw_and1 (pt_cmpR op_isN (pe_cl c_row_against hr (by decide) (by rfl) (pa_cons (pv 0) (pa_cons (pe_ix (ix_listK K) (pv 1) pe_int (fun _ _ => rfl)) pa_nil))) pe_non (by rfl))))) (pss_one (ps_ret (pe_ix (ix_listK K) (pv 1) pe_int (fun _ _ => rfl)))) pss_nil)))
    (pss_one (ps_ret pe_non))), ?_⟩
  refine ⟨_, rfl, a, rfl, ⟨_, hR.1⟩, for_list (xs := as.map V.ref) (fun i σ H' => ∃ y, σ = [some (.ref a), y] ∧ Same H H' ∧ ∀ (j : Nat) r, j < i → left[j]? = some r → freeHd left r = none) ?_ ?_ ?_ ?_⟩
  · exact ⟨none, rfl, Same.refl H, fun j r h => absurd h (Nat.not_lt_zero j)⟩
  · rintro i σ H' _ ⟨y, rfl, sm, _⟩
    exact (hR.same sm).1
  · rintro i y σ H' hy ⟨y1, rfl, sm, hn⟩
    obtain ⟨b, hb, rfl⟩ := ref_of hy
    obtain ⟨row, hrow, hS⟩ := hR.2.get hb
    have step : ∀ H2, Same H H2 → freeHd left row = none → ∃ y, [some (V.ref a), some (.ref b)] = [some (.ref a), y] ∧ Same H H2 ∧ ∀ (j : Nat) r, j < i + 1 → left[j]? = some r → freeHd left r = none := fun H2 s2 e => by
      refine ⟨_, rfl, s2, fun j r hj h => ?_⟩
      by_cases c : j = i
      · subst c
        rw [hrow] at h
        exact Option.some.inj h ▸ e
      · exact hn j r (by omega) h
    refine ⟨_, rfl, _, .inl ⟨_, sm.seq hS, rfl⟩, ?_⟩
    cases row with
    | nil => exact step _ sm rfl
    | cons h t =>
      refine ⟨_, rfl, _, rfl, b, _, _, .str h, rfl, rfl, sm.seq hS, at_of (j := 0) rfl rfl, a, as, left, h, rfl, hR.same sm, fun H2 s2 => ?_⟩
      have s3 := sm.trans s2
      cases ea : against left h with
      | none =>
        refine ⟨rfl, _, rfl, ?_⟩
        refine ⟨_, rfl, b, _, _, .str h, rfl, rfl, s3.seq hS, at_of (j := 0) rfl rfl, ?_⟩
        have z := q _ s3
        have eh : (heads left).head? = some h := by
          unfold heads
          rw [List.head?_filterMap, List.findSome?_eq_some_iff]
          obtain ⟨hi, ei⟩ := List.getElem?_eq_some_iff.mp hrow
          refine ⟨left.take i, h :: t, left.drop (i + 1), ?_, ?_, fun r hr => ?_⟩
          · rw [← ei, ← List.drop_eq_getElem_cons hi, List.take_append_drop]
          · rw [freeHd_cons, if_neg (against_none.mp ea)]
          · obtain ⟨j, hj, e⟩ := List.getElem_of_mem hr
            rw [List.length_take] at hj
            rw [List.getElem_take] at e
            exact hn j r (by omega) (by rw [List.getElem?_eq_getElem (show j < left.length by omega), e])
        rw [eh] at z
        exact z
      | some n =>
        refine ⟨rfl, _, rfl, ?_⟩
        refine step _ s3 ?_
        rw [freeHd_cons, if_pos]
        exact Classical.not_not.mp fun c => by
          rw [against_none.mpr c] at ea
          cases ea
  · rintro σ H' ⟨y, rfl, sm, hn⟩
    have z := q _ sm
    have eh : (heads left).head? = none := by
      rw [List.head?_eq_none_iff]
      unfold heads
      rw [List.filterMap_eq_nil_iff]
      intro r hr
      obtain ⟨j, hj, e⟩ := List.getElem_of_mem hr
      exact hn j r (by rw [List.length_map, hR.2.len]; exact hj) (by rw [List.getElem?_eq_getElem hj, e])
    rw [eh] at z
    exact z
/-! _without_first -/
abbrev s_without_first : Stmt := topS 6
theorem sc_without_first : FnScope ["row", "name"] ["row", "name"] (defScope s_without_first) := ⟨rfl, rfl, rfl, by decide +kernel, rfl, by decide +kernel, by decide +kernel⟩
def sp_without_first (K : PySem.W.Frag) : Sp := fun vs H Q _ => ∃ (b : Addr) (row : List Str) (x : Str), vs = [.ref b, .str x] ∧ SqL K H b (row.map V.str) ∧ Ok (x :: row) ∧ ∀ c H', Same H H' → (c = b ∧ without x row = row ∨ H c = none ∧ H' c = some (.lst ((without x row).map V.str))) → Q (.ref c) H'
theorem ok_without_first (F : Def K mg "_without_first" ["row", "name"] s_without_first) : Cl P w K mg base 1 "_without_first" (sp_without_first K) := by
  refine F.cl sc_without_first (fun vs H Q E h => ?_) (fun f cdv A outer s H vs Q E hr h => ?_)
  · obtain ⟨b, row, x, rfl, _⟩ := h
    rfl
  obtain ⟨b, row, x, rfl, hS, ok, q⟩ := h
  have nd := sc_without_first.nd
  refine ⟨_, (pss_one (ps_ret (pe_ifExp (pt_cmpR (op_eqK K hr.units) (pe_slice (sl_listK K) (pv 0) po_none (po_some pe_int)) (pe_lst (pa_cons (pv 1) pa_nil)) (by rfl)) (pe_slice (sl_listK K) (pv 0) (po_some pe_int) po_none) (pv 0)))), ?_⟩
  refine ⟨_, rfl, 1, rfl, b, _, rfl, hS, fun d nd' => ?_⟩
  rw [cut_head]
  refine ⟨_, rfl, (by show 1 ≤ sizeLine; decide), fun e ne => ?_⟩
  have s1 := same_new (o := .lst ((row.take 1).map V.str)) nd'
  have s2 := same_new (o := .lst [V.str x]) ne
  have ok1 : Ok (row.take 1) := fun y hy => ok y (List.mem_cons_of_mem _ (List.mem_of_mem_take hy))
  have ok2 : Ok [x] := fun y hy => ok y (by rw [List.mem_singleton.mp hy]; exact List.mem_cons_self)
  refine ⟨.list ((row.take 1).map PyData.str), .list ([x].map PyData.str), .lst (SqL.of (s2 _ _ upd_same)) (dp_strs _), .lst (SqL.of upd_same) (dp_strs [x]), shaped_strs ok1, shaped_strs ok2, _, rfl, ?_⟩
  show (if PyData.eqvAll ((row.take 1).map PyData.str) ([x].map PyData.str) = true then _ else _)
  rw [eqv_strs]
  refine ite2 (fun c => ?_) (fun c => ?_)
  · have c' := of_decide_eq_true c
    refine ⟨_, rfl, 1, rfl, b, _, rfl, (s1.trans s2).seq hS, fun g ng => ?_⟩
    rw [cut_tail]
    refine q g _ ((s1.trans s2).trans (same_new ng)) (.inr ⟨(s1.trans s2).free ng, ?_⟩)
    have e : without x row = row.tail := by
      unfold without
      rw [if_pos]
      cases row with
      | nil => cases c'
      | cons y t => cases c'; rfl
    rw [e]
    exact upd_same
  · have c' : ¬ row.take 1 = [x] := of_decide_eq_false (Bool.eq_false_iff.mpr c)
    refine ⟨_, rfl, q b _ (s1.trans s2) (.inl ⟨rfl, ?_⟩)⟩
    have e : without x row = row := by
      unfold without
      rw [if_neg]
      intro h
      cases row with
      | nil => cases h
      | cons y t => cases h; exact c' rfl
    exact e
/-! _ring -/
abbrev s_ring : Stmt := topS 7
theorem sc_ring : FnScope ["left", "name", "met", "demands", "number", "ring", "row"] ["left"] (defScope s_ring) := ⟨rfl, rfl, rfl, by decide +kernel, rfl, by decide +kernel, by decide +kernel⟩
def sp_ring (K : PySem.W.Frag) : Sp := fun vs H Q _ => ∃ (a : Addr) (as : List Addr) (left rows : Rows), vs = [.ref a] ∧ RowsAt K H a as left ∧ LeftOf rows left ∧ done left = false ∧ (heads left).head? = none ∧ left.length ≤ 1000 ∧
  ∀ l ts ds H', Same H H' → H l = none → H' l = some (.lst (ts.map V.ref)) → DemsAt H' ts ds → IsRing rows ds → ds.length ≤ 1000 → Q (.ref l) H'
theorem ok_ring (F : Def K mg "_ring" ["left"] s_ring) (c_row_against : Cl P w K mg base 1 "_row_against" (sp_row_against K)) : Cl P w K mg base 2 "_ring" (sp_ring K) := by
  refine F.cl sc_ring (fun vs H Q E h => ?_) (fun f cdv A outer s H vs Q E hr h => ?_)
  · obtain ⟨a, as, left, rows, rfl, _⟩ := h
    rfl
  obtain ⟨a, as, left, rows, rfl, hR, hL, hd, he, hz, q⟩ := h
  have nd := sc_ring.nd
  refine ⟨_, (pss_cons (ps_set (i := 1) nd rfl (Or.inl rfl) (pe_ix (ix_listK K) (pe_lc (own := [("row", 6)]) (g := gName 6) (by rfl) nd (pi_listK K (pv 0)) (blkOk_by (own := [("row", 6)]) (N := ["left", "name", "met", "demands", "number", "ring", "row"]) (sc := defScope s_ring) (by decide +kernel)) (fun _ _ _ _ _ => (pg_name (i := 6) nd rfl (Or.inl rfl))) (fun _ _ _ _ _ => (pts_one (pt_truK K (pv 6) (by intro _; rfl)))) (fun _ _ _ _ _ => (pe_ix (ix_listK K) (pv 6) pe_int (fun _ _ => rfl)))) pe_int (fun _ _ => rfl)))
    (pss_cons (ps_set (i := 2) nd rfl (Or.inl rfl) (pe_lst pa_nil))
    (pss_cons (ps_set (i := 3) nd rfl (Or.inl rfl) (pe_lst pa_nil))
    (pss_cons (ps_while PassesOwn.never (pt_cmpR (op_notInK K) (pv 1) (pv 2) (by rfl)) (pss_cons (ps_set (i := 4) nd rfl (Or.inl rfl) (pe_cl c_row_against hr (by decide) (by rfl) (pa_cons (pv 0) (pa_cons (pv 1) pa_nil))))
    (pss_cons (ps_expr (pe_bmK K PySem.F.plainAttrs_list PySem.F.slot_list_append PySem.F.type_list_append mt_append (pv 2) (pa_cons (pv 1) pa_nil)))
    (pss_cons (ps_expr (pe_bmK K PySem.F.plainAttrs_list PySem.F.slot_list_append PySem.F.type_list_append mt_append (pv 3) (pa_cons (pe_tup (pa_cons (pe_ix (ix_listK K) (pe_ix (ix_listK K) (pv 0) (pv 4) (fun _ _ => rfl)) pe_int (fun _ _ => rfl)) (pa_cons (pv 1) (pa_cons (pv 4) pa_nil)))) pa_nil)))
    (pss_one (ps_set (i := 1) nd rfl (Or.inl rfl) (pe_ix (ix_listK K) (pe_ix (ix_listK K) (pv 0) (pv 4) (fun _ _ => rfl)) pe_int (fun _ _ => rfl))))))))
    (pss_cons (ps_set (i := 5) nd rfl (Or.inl rfl) (pe_slice (sl_listK K) (pv 3) (po_some (pe_bmK K PySem.F.plainAttrs_list PySem.F.slot_list_index PySem.F.type_list_index (mt_indexK K) (pv 2) (pa_cons (pv 1) pa_nil))) po_none))
    (pss_one (ps_ret (pe_revK K (pv 5))))))))), ?_⟩
  refine ⟨_, rfl, a, rfl, ⟨_, hR.1⟩, fun D nD => lc_list (xs := as.map V.ref) (fun i H' => Same H H' ∧ H' D = some (.lst ((hds (left.take i)).map V.str)) ∧ (hds (left.take i)).length ≤ i) ?_ ?_ ?_ ?_⟩
  · exact ⟨same_new nD, upd_same, Nat.le_refl 0⟩
  · rintro i H' _ ⟨sm, _⟩
    exact (hR.same sm).1
  · rintro i y H' hy ⟨sm, hD, hlen⟩
    obtain ⟨b, hb, rfl⟩ := ref_of hy
    obtain ⟨row, hrow, hS⟩ := hR.2.get hb
    have hi := (List.getElem?_eq_some_iff.mp hrow).1
    have et : hds (left.take (i + 1)) = hds (left.take i) ++ row.head?.toList := by
      unfold hds
      rw [List.take_add_one, hrow, List.filterMap_append]
      cases row <;> rfl
    refine ⟨rfl, ?_⟩
    refine ⟨_, rfl, _, .inl ⟨_, sm.seq hS, rfl⟩, ?_⟩
    rw [et]
    cases row with
    | nil =>
      refine ⟨sm, ?_, ?_⟩
      · rw [hD]
        show _ = some (HO.lst ((hds (left.take i) ++ []).map V.str))
        rw [List.append_nil]
      · show (hds (left.take i) ++ []).length ≤ i + 1
        rw [List.append_nil]
        omega
    | cons x t =>
      refine ⟨_, rfl, b, _, _, .str x, rfl, rfl, sm.seq hS, at_of (j := 0) rfl rfl, _, hD, ?_, same_mut sm nD, ?_, ?_⟩
      · rw [List.length_map]
        exact small1000 (by omega)
      · rw [upd_same, List.map_append]
        rfl
      · rw [List.length_append]
        show _ + 1 ≤ i + 1
        omega
  rintro H1 ⟨sm1, hD, _⟩
  rw [show (as.map V.ref).length = left.length by rw [List.length_map]; exact hR.2.len, List.take_length] at hD
  obtain ⟨n0, rest, e0⟩ : ∃ x r, hds left = x :: r := by
    obtain ⟨x, t, hm⟩ := not_done hd
    have : x ∈ hds left := List.mem_filterMap.mpr ⟨x :: t, hm, rfl⟩
    cases q : hds left with
    | nil => rw [q] at this; cases this
    | cons y r => exact ⟨y, r, rfl⟩
  have h0 : ∃ t, (n0 :: t) ∈ left := by
    have hm : n0 ∈ hds left := by rw [e0]; exact List.mem_cons_self
    obtain ⟨r, hr, e⟩ := List.mem_filterMap.mp hm
    cases r with
    | nil => cases e
    | cons y t => cases e; exact ⟨t, hr⟩
  rw [e0] at hD
  refine ⟨D, _, _, .str n0, rfl, rfl, SqL.of hD, at_of (j := 0) rfl rfl, ?_⟩
  refine ⟨(by show 0 ≤ sizeLine; decide), fun lm nlm => ?_⟩
  refine ⟨(by show 0 ≤ sizeLine; decide), fun ld nld => ?_⟩
  have s2 := sm1.trans (same_new (o := .lst []) nlm)
  have hlmd : lm ≠ ld := fun e => by
    rw [← e, upd_same] at nld
    cases nld
  have nlmH : H lm = none := sm1.free nlm
  have nldH : H ld = none := s2.free nld
  obtain ⟨t0, h0⟩ := h0
  refine ⟨fun m σ H' => ∃ (met : List Str) (ds : List Dem) (ts : List Addr) (name : Str) (y4 : Option V), σ = [some (.ref a), some (.str name), some (.ref lm), some (.ref ld), y4, none, none] ∧ Same H H' ∧ H' lm = some (.lst (met.map V.str)) ∧ H' ld = some (.lst (ts.map V.ref)) ∧ DemsAt H' ts ds ∧ Met left met ds name ∧ m = unmet left met ∧ met.length + m ≤ left.length,
    ⟨unmet left [], [], [], [], n0, none, rfl, s2.trans (same_new nld), (by rw [upd_ne hlmd]; exact upd_same), upd_same, .nil, Met.start h0, rfl, ?_⟩, ?_⟩
  · show 0 + unmet left [] ≤ left.length
    have := unmet_le left []
    omega
  rintro m σ H' ⟨met, ds, ts, name, y4, rfl, sm, hm, hl, hD2, M, em, hle⟩
  refine ⟨_, rfl, _, rfl, lm, _, rfl, .inl (SqL.of hm), rfl, flat_strs _, _, rfl, ?_⟩
  show (if (!inV (V.str name) (met.map V.str)) = true then _ else _)
  rw [inV_strs]
  by_cases c : name ∈ met
  · -- the ring
    rw [decide_eq_true c, if_neg (by decide)]
    obtain ⟨j, hj, ej⟩ := List.getElem_of_mem c
    have hj2 : met[j]? = some name := by rw [List.getElem?_eq_getElem hj, ej]
    refine ⟨_, rfl, _, rfl, .inl ⟨rfl, _, SqL.of hm⟩, _, rfl, lm, _, .str name, j, .str name, rfl, rfl, SqL.of hm, rfl, flat_strs _, (by rw [List.getElem?_map, hj2]; rfl), beq_self_eq_true name, fun k z hk hz => ?_, _, rfl, ld, _, rfl, SqL.of hl, fun r nr => ?_⟩
    · obtain ⟨x, hx, rfl⟩ := str_of hz
      refine beq_false_of_ne fun e => ?_
      subst e
      have := nd_ix M.nd hx hj2
      omega
    rw [cut_from, ← List.map_drop]
    refine ⟨_, rfl, r, _, rfl, SqL.of upd_same, fun l nl => ?_⟩
    rw [← List.map_reverse]
    have s3 := sm.trans ((same_new (o := .lst ((ts.drop j).map V.ref)) nr).trans (same_new (o := .lst ((ts.drop j).reverse.map V.ref)) nl))
    exact q l _ _ _ s3 (by exact (sm.trans (same_new nr)).free nl) upd_same (paired_rev (paired_drop j (hD2.same ((same_new nr).trans (same_new nl))))) (M.ring hL hj2) (by rw [List.length_reverse, List.length_drop, M.len]; omega)
  · rw [decide_eq_false c, if_pos (by decide)]
    obtain ⟨t1, ht1⟩ := M.hd
    obtain ⟨r1, hr1, hx1⟩ := no_head he ht1
    obtain ⟨n, ea⟩ : ∃ n, against left name = some n := by
      cases q : against left name with
      | none => exact absurd (mem_behind.mpr ⟨r1, hr1, hx1⟩) (against_none.mp q)
      | some n => exact ⟨n, rfl⟩
    obtain ⟨r, hrn, hxr⟩ := against_some ea
    obtain ⟨one, t, rfl⟩ : ∃ x t, r = x :: t := by
      cases r with
      | nil => cases hxr
      | cons x t => exact ⟨x, t, rfl⟩
    have hxt : name ∈ t := hxr
    obtain ⟨b, hb, hS⟩ := hR.2.at hrn
    have M2 := M.step c hrn hxt
    have hlt := unmet_lt ht1 c
    rw [← em] at hlt
    refine ⟨fun σ2 H2 => ∃ m', m' < m ∧ ∃ (met : List Str) (ds : List Dem) (ts : List Addr) (name : Str) (y4 : Option V), σ2 = [some (.ref a), some (.str name), some (.ref lm), some (.ref ld), y4, none, none] ∧ Same H H2 ∧ H2 lm = some (.lst (met.map V.str)) ∧ H2 ld = some (.lst (ts.map V.ref)) ∧ DemsAt H2 ts ds ∧ Met left met ds name ∧ m' = unmet left met ∧ met.length + m' ≤ left.length, fun σ2 H2 h => h, ?_⟩
    refine ⟨_, rfl, _, rfl, a, as, left, name, rfl, hR.same sm, fun H2 s2' => ?_⟩
    rw [ea]
    have hm2 : H2 lm = some (.lst (met.map V.str)) := s2' _ _ hm
    have hl2 : H2 ld = some (.lst (ts.map V.ref)) := s2' _ _ hl
    -- met.append(name)
    refine ⟨_, rfl, .inl ⟨rfl, _, SqL.of hm2⟩, _, rfl, lm, _, _, rfl, rfl, hm2, ?_, ?_⟩
    · rw [List.length_map]
      exact small1000 (by omega)
    have sm2 : Same H (upd H2 lm (.lst (met.map V.str ++ [V.str name]))) := same_mut (sm.trans s2') nlmH
    have hl3 : upd H2 lm (.lst (met.map V.str ++ [V.str name])) ld = some (.lst (ts.map V.ref)) := by
      rw [upd_ne hlmd.symm]
      exact hl2
    have hD3 : DemsAt (upd H2 lm (.lst (met.map V.str ++ [V.str name]))) ts ds := (hD2.same s2').mut hm2
    have hR3 := hR.same sm2
    have ha1 : (as.map V.ref)[n]? = some (.ref b) := by
      rw [List.getElem?_map, hb]
      rfl
    -- demands.append((left[number][0], name, number))
    refine ⟨_, rfl, .inl ⟨rfl, _, SqL.of hl3⟩, ?_⟩
    refine ⟨_, rfl, _, rfl, a, _, _, .ref b, rfl, rfl, hR3.1, at_of (j := n) rfl ha1, b, _, _, .str one, rfl, rfl, sm2.seq hS, at_of (j := 0) rfl rfl, _, rfl, _, rfl, (by show 3 ≤ sizeLine; decide), fun T nT => ?_⟩
    have s4 := same_new (o := .tup [V.str one, V.str name, nV n]) nT
    refine ⟨ld, _, _, rfl, rfl, s4 _ _ hl3, ?_, ?_⟩
    · rw [List.length_map, Paired.length hD3, M.len]
      exact small1000 (by omega)
    have hl4 : upd (upd H2 lm (.lst (met.map V.str ++ [V.str name]))) T (.tup [V.str one, V.str name, nV n]) ld = some (.lst (ts.map V.ref)) := s4 _ _ hl3
    have sm5 : Same H (upd (upd (upd H2 lm (.lst (met.map V.str ++ [V.str name]))) T (.tup [V.str one, V.str name, nV n])) ld (.lst (ts.map V.ref ++ [V.ref T]))) := same_mut (sm2.trans s4) nldH
    have hR5 := hR.same sm5
    -- name = left[number][0]
    refine ⟨_, rfl, _, rfl, a, _, _, .ref b, rfl, rfl, hR5.1, at_of (j := n) rfl ha1, b, _, _, .str one, rfl, rfl, sm5.seq hS, at_of (j := 0) rfl rfl, ?_⟩
    have hTl : T ≠ ld := ne_of (o := .tup [V.str one, V.str name, nV n]) upd_same hl4 (fun e => nomatch e)
    have hTm : lm ≠ T := ne_of_none (o := .lst (met.map V.str ++ [V.str name])) upd_same nT
    refine ⟨unmet left (met ++ [name]), hlt, met ++ [name], ds ++ [⟨one, name, n⟩], ts ++ [T], one, some (nV n), rfl, sm5, ?_, ?_, ?_, M2, rfl, ?_⟩
    · rw [upd_ne hlmd, upd_ne hTm, upd_same, List.map_append]
      rfl
    · rw [upd_same, List.map_append]
      rfl
    · refine paired_snoc ?_ ((hD3.same s4).mut hl4)
      rw [upd_ne hTl]
      exact upd_same
    · rw [List.length_append]
      show met.length + 1 + _ ≤ _
      omega
/-! merge -/
abbrev s_merge : Stmt := topS 1
theorem sc_merge : FnScope ["rows", "left", "names", "name", "row"] ["rows"] (defScope s_merge) := ⟨rfl, rfl, rfl, by decide +kernel, rfl, by decide +kernel, by decide +kernel⟩
def sp_merge (K : PySem.W.Frag) : Sp := fun vs H Q _ => ∃ (a : Addr) (as : List Addr) (rows : Rows), vs = [.ref a] ∧ RowsAt K H a as rows ∧ (∀ r ∈ rows, Ok r) ∧ rows.length ≤ 1000 ∧ total rows ≤ 1000 ∧
  (∀ line, merged rows = some line → ∀ t l H', Same H H' → H t = none → H l = none → t ≠ l → H' t = some (.tup [.str "line", .ref l]) → H' l = some (.lst (line.map V.str)) → Q (.ref t) H') ∧
  (merged rows = none → ∀ t l ts ds H', Same H H' → H t = none → H l = none → t ≠ l → H' t = some (.tup [.str "ring", .ref l]) → H' l = some (.lst (ts.map V.ref)) → DemsAt H' ts ds → IsRing rows ds → ds.length ≤ 1000 → Q (.ref t) H')
theorem ok_merge (F : Def K mg "merge" ["rows"] s_merge) (m_any : mg "any" = none) (m_list : mg "list" = none) (c_next_name : Cl P w K mg base 2 "_next_name" (sp_next_name K)) (c_ring : Cl P w K mg base 2 "_ring" (sp_ring K)) (c_without_first : Cl P w K mg base 1 "_without_first" (sp_without_first K)) :
    Cl P w K mg base 3 "merge" (sp_merge K) := by
  refine F.cl sc_merge (fun vs H Q E h => ?_) (fun f cdv A outer s H vs Q E hr h => ?_)
  · obtain ⟨a, as, rows, rfl, _⟩ := h
    rfl
  obtain ⟨a, as, rows, rfl, hR, ok, hz, htot, q1, q2⟩ := h
  have nd := sc_merge.nd
  refine ⟨_, (pss_cons (ps_setLc (i := 1) (own := [("row", 4)]) (g := gName 4) (tt := tYes) (by rfl) nd rfl rfl (sw_true rfl rfl rfl (by decide +kernel)) (pi_listK K (pv 0)) (blkOk_by (own := [("row", 4)]) (N := ["rows", "left", "names", "name", "row"]) (sc := defScope s_merge) (by decide +kernel)) (fun _ _ _ _ _ => (pg_name (i := 4) nd rfl (Or.inl rfl))) (fun _ _ _ _ _ => pts_nil) (fun _ _ _ _ _ => (pe_callTy (call_listK K) (by rfl) m_list (by decide +kernel) (pa_cons (pv 4) pa_nil))))
    (pss_cons (ps_set (i := 2) nd rfl (Or.inl rfl) (pe_lst pa_nil))
    (pss_cons (ps_while PassesOwn.never (pt_val (pe_callB (cr_anyLK K) (by rfl) m_any (by decide +kernel) (pa_cons (pv 1) pa_nil))) (pss_cons (ps_set (i := 3) nd rfl (Or.inr rfl) (pe_cl c_next_name hr (by decide) (by rfl) (pa_cons (pv 1) pa_nil)))
    (pss_cons (ps_if (pt_cmpR op_isN (pv 3) pe_non (by rfl)) (pss_one (ps_ret (pe_tup (pa_cons pe_str (pa_cons (pe_cl c_ring hr (by decide) (by rfl) (pa_cons (pv 1) pa_nil)) pa_nil))))) pss_nil)
    (pss_cons (ps_expr (pe_bmK K PySem.F.plainAttrs_list PySem.F.slot_list_append PySem.F.type_list_append mt_append (pv 2) (pa_cons (pv 3) pa_nil)))
    (pss_one (ps_setLc (i := 1) (own := [("row", 4)]) (g := gName 4) (tt := tYes) (by rfl) nd rfl rfl (sw_true rfl rfl rfl (by decide +kernel)) (pi_listK K (pv 1)) (blkOk_by (own := [("row", 4)]) (N := ["rows", "left", "names", "name", "row"]) (sc := defScope s_merge) (by decide +kernel)) (fun _ _ _ _ _ => (pg_name (i := 4) nd rfl (Or.inl rfl))) (fun _ _ _ _ _ => pts_nil) (fun _ _ _ _ _ => (pe_cl c_without_first hr (by decide) (by rfl) (pa_cons (pv 4) (pa_cons (pv 3) pa_nil))))))))))
    (pss_one (ps_ret (pe_tup (pa_cons pe_str (pa_cons (pv 2) pa_nil)))))))), ?_⟩
  -- left = [list(row) for row in rows]
  refine ⟨_, rfl, a, rfl, ⟨_, hR.1⟩, fun D nD => lc_list (xs := as.map V.ref) (fun i H' => Same H H' ∧ ∃ cs, H' D = some (.lst (cs.map V.ref)) ∧ StrsN H' [D] cs (rows.take i)) ?_ ?_ ?_ ?_⟩
  · exact ⟨same_new nD, [], upd_same, .nil⟩
  · rintro i H' _ ⟨sm, _⟩
    exact (hR.same sm).1
  · rintro i y H' hy ⟨sm, cs, hD, hC⟩
    obtain ⟨b, hb, rfl⟩ := ref_of hy
    obtain ⟨row, hrow, hS⟩ := hR.2.get hb
    have hi := (List.getElem?_eq_some_iff.mp hrow).1
    refine ⟨rfl, ?_⟩
    refine ⟨_, rfl, b, _, rfl, .inl (sm.seq hS), fun l nl => ?_⟩
    have s2 := same_new (o := .lst (row.map V.str)) nl
    have hlD : l ≠ D := fun e => by
      rw [e, hD] at nl
      cases nl
    refine ⟨_, s2 _ _ hD, ?_, same_mut (sm.trans s2) nD, cs ++ [l], ?_, ?_⟩
    · rw [List.length_map, Paired.length hC, List.length_take]
      exact small1000 (by omega)
    · rw [upd_same, List.map_append]
      rfl
    · rw [List.take_add_one, hrow]
      refine paired_snoc ⟨?_, fun h => hlD (List.mem_singleton.mp h)⟩ ((hC.same s2).mut List.mem_cons_self)
      rw [upd_ne hlD]
      exact upd_same
  rintro H1 ⟨sm1, cs, hD, hC⟩
  rw [show (as.map V.ref).length = rows.length by rw [List.length_map]; exact hR.2.len, List.take_length] at hC
  -- names = []
  refine ⟨(by show 0 ≤ sizeLine; decide), fun ln nln => ?_⟩
  have s2 := same_new (o := .lst []) nln
  have hlnD : D ≠ ln := ne_of_none hD nln
  have nlnH : H ln = none := sm1.free nln
  refine ⟨fun m σ H' => ∃ (al : Addr) (bs : List Addr) (left : Rows) (line : List Str) (y3 : Option V), σ = [some (.ref a), some (.ref al), some (.ref ln), y3, none] ∧ Same H H' ∧ H' al = some (.lst (bs.map V.ref)) ∧ al ≠ ln ∧ StrsN H' [ln] bs left ∧ LeftOf rows left ∧ (∀ r ∈ left, Ok r) ∧ H' ln = some (.lst (line.map V.str)) ∧
      merged rows = (merged left).map (line ++ ·) ∧ m = total left ∧ line.length + m ≤ total rows,
    ⟨total rows, D, cs, rows, [], none, rfl, sm1.trans s2, s2 _ _ hD, hlnD, ?_, LeftOf.refl rows, ok, upd_same, ?_, rfl, ?_⟩, ?_⟩
  · exact (StrsN.av hC fun b hb _ hm => hb (by rw [List.mem_singleton.mp hm]; exact nln)).same s2
  · cases merged rows <;> rfl
  · show 0 + total rows ≤ total rows
    omega
  rintro m σ H' ⟨al, bs, left, line, y3, rfl, sm, hal, hne, hB, L, okl, hln, hmg, em, hle⟩
  have hRl : RowsAt K H' al bs left := ⟨SqL.of hal, hB.strs⟩
  have hll : left.length ≤ 1000 := by
    rw [L.1]
    exact hz
  refine ⟨_, rfl, al, bs, _, rfl, SqL.of hal, hRl.2.lists, _, rfl, ?_⟩
  rw [any_done]
  show (if (!done left) = true then _ else _)
  by_cases d : done left = true
  · -- return ('line', names)
    rw [d, if_neg (by decide)]
    refine ⟨_, rfl, (by show 2 ≤ sizeLine; decide), fun t nt => ?_⟩
    rw [merged_done d] at hmg
    have s3 := same_new (o := .tup [V.str "line", .ref ln]) nt
    refine q1 _ hmg t ln _ (sm.trans s3) (sm.free nt) nlnH (ne_of_none hln nt).symm upd_same ?_
    show _ = some (HO.lst ((line ++ []).map V.str))
    rw [List.append_nil]
    exact s3 _ _ hln
  · have d2 : done left = false := by
      cases q : done left with
      | true => exact absurd q d
      | false => rfl
    rw [d2, if_pos (by decide)]
    refine ⟨_, fun _ _ h => h, ?_⟩
    refine ⟨_, rfl, al, bs, left, rfl, hRl, fun H2 s3 => ?_⟩
    cases e : (heads left).head? with
    | none =>
      refine ⟨_, rfl, rfl, _, rfl, ?_⟩
      show (if decide (V.non = V.non) = true then _ else _)
      rw [if_pos (decide_eq_true rfl)]
      refine ⟨_, rfl, al, bs, left, rows, rfl, hRl.same s3, L, d2, e, hll, fun l ts ds H3 s4 nl hl hDs hI hdl => ⟨(by show 2 ≤ sizeLine; decide), fun t nt => ?_⟩⟩
      rw [merged_none d2 e] at hmg
      have s5 := same_new (o := .tup [V.str "ring", .ref l]) nt
      exact q2 hmg t l ts ds _ (((sm.trans s3).trans s4).trans s5) (((sm.trans s3).trans s4).free nt) ((sm.trans s3).free nl) (ne_of_none hl nt).symm upd_same (s5 _ _ hl) (hDs.same s5) hI hdl
    | some x =>
      refine ⟨_, rfl, rfl, _, rfl, ?_⟩
      show (if decide (V.str x = V.non) = true then _ else _)
      rw [if_neg (by rw [decide_eq_false fun h => nomatch h]; decide)]
      obtain ⟨t0, hx0, _⟩ := head_mem e
      have okx : PyData.strOk x = true := okl _ hx0 x List.mem_cons_self
      have hlt := total_lt hx0
      have hln2 : H2 ln = some (.lst (line.map V.str)) := s3 _ _ hln
      refine ⟨_, rfl, .inl ⟨rfl, _, SqL.of hln2⟩, _, rfl, ln, _, _, rfl, rfl, hln2, ?_, ?_⟩
      · rw [List.length_map]
        exact small1000 (by omega)
      have sm3 : Same H (upd H2 ln (.lst (line.map V.str ++ [strV (some x)]))) := same_mut (sm.trans s3) nlnH
      have hal3 : upd H2 ln (.lst (line.map V.str ++ [strV (some x)])) al = some (.lst (bs.map V.ref)) := by
        rw [upd_ne hne]
        exact s3 _ _ hal
      have hB3 : StrsN (upd H2 ln (.lst (line.map V.str ++ [strV (some x)]))) [ln] bs left := (hB.same s3).mut List.mem_cons_self
      have hln3 : upd H2 ln (.lst (line.map V.str ++ [strV (some x)])) ln = some (.lst (line.map V.str ++ [V.str x])) := upd_same
      generalize upd H2 ln (.lst (line.map V.str ++ [strV (some x)])) = H3 at sm3 hal3 hB3 hln3 ⊢
      refine ⟨_, rfl, al, rfl, ⟨_, SqL.of hal3⟩, fun D2 nD2 => lc_list (xs := bs.map V.ref) (fun i H4 => Same H3 H4 ∧ ∃ cs2, H4 D2 = some (.lst (cs2.map V.ref)) ∧ StrsN H4 [D2, ln] cs2 ((left.take i).map (without x))) ?_ ?_ ?_ ?_⟩
      · exact ⟨same_new nD2, [], upd_same, .nil⟩
      · rintro i H4 _ ⟨s4, _⟩
        exact SqL.of (s4 _ _ hal3)
      · rintro i y H4 hy ⟨s4, cs2, hD2, hC2⟩
        obtain ⟨b, hb, rfl⟩ := ref_of hy
        obtain ⟨row, hrow, hS, hbn⟩ := hB3.get hb
        have hi := (List.getElem?_eq_some_iff.mp hrow).1
        have hbln : b ≠ ln := fun h => hbn (List.mem_singleton.mpr h)
        refine ⟨rfl, ?_⟩
        refine ⟨_, rfl, _, rfl, b, row, x, rfl, SqL.of (s4 _ _ hS), fun z hz => ?_, fun c H5 s5 hc => ?_⟩
        · rcases List.mem_cons.mp hz with h | h
          · rw [h]
            exact okx
          · exact okl row (List.mem_of_getElem? hrow) z h
        have hc2 : H5 c = some (.lst ((without x row).map V.str)) ∧ c ∉ [D2, ln] := by
          rcases hc with ⟨h1, h2⟩ | ⟨h1, h2⟩
          · rw [h1, h2]
            refine ⟨s5 _ _ (s4 _ _ hS), fun hm => ?_⟩
            rcases List.mem_cons.mp hm with h | h
            · exact ne_of_none hS nD2 h
            · exact hbln (List.mem_singleton.mp h)
          · refine ⟨h2, fun hm => ?_⟩
            rcases List.mem_cons.mp hm with h | h
            · exact ne_of_none hD2 h1 h.symm
            · exact ne_of_none (s4 _ _ hln3) h1 (List.mem_singleton.mp h).symm
        refine ⟨_, s5 _ _ hD2, ?_, same_mut (s4.trans s5) nD2, cs2 ++ [c], ?_, ?_⟩
        · rw [List.length_map, Paired.length hC2, List.length_map, List.length_take]
          exact small1000 (by omega)
        · rw [upd_same, List.map_append]
          rfl
        · rw [List.take_add_one, hrow, List.map_append]
          refine paired_snoc ⟨?_, hc2.2⟩ ((hC2.same s5).mut List.mem_cons_self)
          rw [upd_ne fun h : c = D2 => hc2.2 (by rw [h]; exact List.mem_cons_self)]
          exact hc2.1
      · rintro H4 ⟨s4, cs2, hD2, hC2⟩
        have elen : (bs.map V.ref).length = left.length := by
          rw [List.length_map]
          exact Paired.length hB
        rw [elen, List.take_length] at hC2
        refine ⟨total (left.map (without x)), by omega, D2, cs2, left.map (without x), line ++ [x], some (.str x), rfl, sm3.trans s4, hD2, (ne_of_none hln3 nD2).symm, ?_, L.step x, ok_without okl x, ?_, ?_, rfl, ?_⟩
        · exact StrsN.av hC2 fun b _ hn hm => hn (List.mem_cons_of_mem _ hm)
        · rw [List.map_append]
          exact s4 _ _ hln3
        · rw [hmg, merged_some d2 e]
          cases merged (left.map (without x)) with
          | none => rfl
          | some z =>
            show some (line ++ x :: z) = some (line ++ [x] ++ z)
            rw [List.append_assoc]
            rfl
        · rw [List.length_append]
          show line.length + 1 + _ ≤ _
          omega
end
end Kin
namespace Kin
open PySem PySem.Spec PyProof.Rows L2 RZ
/-! ### the rows as they are drawn -/
abbrev FreshN (H : Hp) (rl : Addr) (H' : Hp) : List Addr → Rows → Prop := Paired fun b row => (H b = none ∧ b ≠ rl) ∧ H' b = some (.lst (row.map V.str))
structure RS (p c : Addr) (ns : List Int) (H : Hp) (nl : Addr) (xs : List Str) (rl : Addr) (as : List Addr) (rows : Rows) (H' : Hp) : Prop where
  go : Go p c ns H H'
  hn : H' nl = some (.lst (xs.map V.str))
  nn : H nl = none
  hl : H' rl = some (.lst (as.map V.ref))
  nr : H rl = none
  ne : nl ≠ rl
  fr : FreshN H rl H' as rows
structure Av (H : Hp) (nl rl : Addr) (as : List Addr) (q : Addr) : Prop where
  n0 : H q = none
  n1 : q ≠ nl
  n2 : q ≠ rl
  n3 : q ∉ as
section
variable {p c nl rl q : Addr} {ns : List Int} {H H' H2 : Hp} {xs : List Str} {as : List Addr} {rows : Rows} {o : HO}
theorem FreshN.mem : ∀ {as : List Addr} {rows : Rows}, FreshN H rl H' as rows → q ∈ as → H' q ≠ none
  | _, _, .nil, h => nomatch h
  | a :: as, r :: rows, .cons h t, hm => by
    rcases List.mem_cons.mp hm with e | e
    · rw [e, h.2]
      exact fun e => nomatch e
    · exact FreshN.mem t e
theorem RS.step (r : RS p c ns H nl xs rl as rows H') (G : Go p c ns H' H2) : RS p c ns H nl xs rl as rows H2 :=
  ⟨r.go.trans G, G.get (r.go.st.nep r.nn) r.hn, r.nn, G.get (r.go.st.nep r.nr) r.hl, r.nr, r.ne, Paired.mapP r.fr fun b _ z => ⟨z.1, G.get (r.go.st.nep z.1.1) z.2⟩⟩
theorem RS.same (r : RS p c ns H nl xs rl as rows H') (e : Same H' H2) : RS p c ns H nl xs rl as rows H2 :=
  ⟨r.go.same e, e _ _ r.hn, r.nn, e _ _ r.hl, r.nr, r.ne, Paired.mapP r.fr fun b _ z => ⟨z.1, e _ _ z.2⟩⟩
theorem RS.fresh (r : RS p c ns H nl xs rl as rows H') (h : H' q = none) : Av H nl rl as q :=
  ⟨r.go.free h, (ne_of_none r.hn h).symm, (ne_of_none r.hl h).symm, fun hm => FreshN.mem r.fr hm h⟩
theorem FreshN.upd_ : ∀ {as : List Addr} {rows : Rows}, FreshN H rl H' as rows → q ∉ as → FreshN H rl (upd H' q o) as rows
  | _, _, .nil, _ => .nil
  | a :: as, r :: rows, .cons h t, hm => .cons ⟨h.1, by
      rw [upd_ne fun e : a = q => hm (by rw [e]; exact List.mem_cons_self)]
      exact h.2⟩ (FreshN.upd_ t fun h => hm (List.mem_cons_of_mem _ h))
theorem RS.put (r : RS p c ns H nl xs rl as rows H') (a : Av H nl rl as q) : RS p c ns H nl xs rl as rows (upd H' q o) :=
  ⟨r.go.mut a.n0, by rw [upd_ne a.n1.symm]; exact r.hn, r.nn, by rw [upd_ne a.n2.symm]; exact r.hl, r.nr, r.ne, FreshN.upd_ r.fr a.n3⟩
theorem FreshN.at_ : ∀ {as : List Addr} {rows : Rows}, FreshN H rl H' as rows → FreshN H rl (upd H' rl o) as rows
  | _, _, .nil => .nil
  | a :: as, r :: rows, .cons h t => .cons ⟨h.1, by
      rw [upd_ne h.1.2]
      exact h.2⟩ (FreshN.at_ t)
theorem RS.push {row : List Str} (r : RS p c ns H nl xs rl as rows H') (a : Av H nl rl as q) (h : H' q = some (.lst (row.map V.str))) : RS p c ns H nl xs rl (as ++ [q]) (rows ++ [row]) (upd H' rl (.lst (as.map V.ref ++ [.ref q]))) :=
  ⟨r.go.mut r.nr, by rw [upd_ne r.ne]; exact r.hn, r.nn, by rw [upd_same, List.map_append]; rfl, r.nr, r.ne, paired_snoc ⟨⟨a.n0, a.n2⟩, by rw [upd_ne a.n2]; exact h⟩ (FreshN.at_ r.fr)⟩
end
/-- a row of these names, each once -/
structure RowOk (xs row : List Str) : Prop where
  nd : row.Nodup
  sub : ∀ x ∈ row, x ∈ xs
  len : row.length ≤ xs.length
theorem RowOk.sublist {xs row : List Str} (hn : xs.Nodup) (h : row.Sublist xs) : RowOk xs row := ⟨h.nodup hn, fun x hx => h.subset hx, h.length_le⟩
theorem RowOk.perm {xs row row' : List Str} (h : RowOk xs row) (q : row'.Perm row) : RowOk xs row' := ⟨q.nodup_iff.mpr h.nd, fun x hx => h.sub x (q.mem_iff.mp hx), by rw [q.length_eq]; exact h.len⟩
theorem at4 {a b d e : Int} {r : Int} (h0 : 0 ≤ r) (h1 : r < 4) : ∃ z : Int, atI [V.int a, V.int b, V.int d, V.int e] r = some (.int z) ∧ (z = a ∨ z = b ∨ z = d ∨ z = e) := by
  obtain ⟨n, rfl⟩ : ∃ n : Nat, r = (n : Int) := ⟨r.toNat, by omega⟩
  have hn : n < 4 := by omega
  match n, hn with
  | 0, _ => exact ⟨a, atI_nat rfl, .inl rfl⟩
  | 1, _ => exact ⟨b, atI_nat rfl, .inr (.inl rfl)⟩
  | 2, _ => exact ⟨d, atI_nat rfl, .inr (.inr (.inl rfl))⟩
  | 3, _ => exact ⟨e, atI_nat rfl, .inr (.inr (.inr rfl))⟩
theorem erase_map (f : Str → V) (l : List Str) (k : Nat) : (l.eraseIdx k).map f = (l.map f).eraseIdx k := by
  rw [List.eraseIdx_eq_take_drop_succ, List.eraseIdx_eq_take_drop_succ, List.map_append, List.map_take, List.map_drop]
theorem perm_move {row : List Str} {k : Nat} {x : Str} (n : Nat) (h : row[k]? = some x) : ((row.eraseIdx k).take n ++ [x] ++ (row.eraseIdx k).drop n).Perm row := by
  have h1 : ((row.eraseIdx k).take n ++ [x] ++ (row.eraseIdx k).drop n).Perm ([x] ++ ((row.eraseIdx k).take n ++ (row.eraseIdx k).drop n)) := by
    rw [← List.append_assoc]
    exact List.Perm.append_right _ List.perm_append_comm
  rw [List.take_append_drop] at h1
  obtain ⟨hk, e⟩ := List.getElem?_eq_some_iff.mp h
  refine h1.trans ?_
  rw [← e]
  have h2 : row.Perm (row[k] :: row.eraseIdx k) := by
    have e2 : row.eraseIdx k = row.take k ++ row.drop (k + 1) := List.eraseIdx_eq_take_drop_succ row k
    rw [e2]
    have e3 : row = row.take k ++ row[k] :: row.drop (k + 1) := by rw [← List.drop_eq_getElem_cons hk, List.take_append_drop]
    conv => lhs; rw [e3]
    exact List.perm_middle
  exact h2.symm
section
variable {P : Program} {w : World} {K : PySem.W.Frag} {mg : Str → Option Value} {base : Heap}
/-! _law_rows -/
abbrev s_law_rows : Stmt := topS 15
theorem sc_law_rows : FnScope ["pot", "shape", "many", "names", "rows", "k", "share", "row", "at", "name"] ["pot"] (defScope s_law_rows) := ⟨rfl, rfl, rfl, by decide +kernel, rfl, by decide +kernel, by decide +kernel⟩
def sp_law_rows : Sp := fun vs H Q _ => ∃ (p c : Addr) (ns : List Int), vs = [.ref p] ∧ Pot H p c ns ∧
  ∀ (rl : Addr) (as : List Addr) (rows : Rows) (xs : List Str) H', Go p c ns H H' → H rl = none → H' rl = some (.lst (as.map V.ref)) → FreshN H rl H' as rows → rows.length ≤ 16 → (∀ r ∈ rows, RowOk xs r) → xs.length ≤ 16 → (∀ x ∈ xs, IsName x) → Q (.ref rl) H'
theorem ok_law_rows (F : Def K mg "_law_rows" ["pot"] s_law_rows) (M : MB mg) (c_law_pick : Cl P w K mg base 2 "_law_pick" sp_law_pick) (c_law_names : Cl P w K mg base 4 "_law_names" sp_law_names) (c_law_order : Cl P w K mg base 3 "_law_order" sp_law_order) : Cl P w K mg base 5 "_law_rows" sp_law_rows := by
  refine F.cl sc_law_rows (fun vs H Q E h => ?_) (fun f cdv A outer s H vs Q E hr h => ?_)
  · obtain ⟨p, c, ns, rfl, _⟩ := h
    rfl
  obtain ⟨p, c, ns, rfl, hP, q⟩ := h
  have nd := sc_law_rows.nd
  have m_range := M.m_range
  have m_len := M.m_len
  refine ⟨_, (pss_cons (ps_set (i := 1) nd rfl (Or.inl rfl) (pe_cl c_law_pick hr (by decide) (by rfl) (pa_cons (pv 0) (pa_cons pe_int pa_nil))))
    (pss_cons (ps_set (i := 2) nd rfl (Or.inl rfl) (pe_op op_add pe_int (pe_cl c_law_pick hr (by decide) (by rfl) (pa_cons (pv 0) (pa_cons (pe_ix (ix_listK K) (pe_lst (pa_cons pe_int (pa_cons pe_int (pa_cons pe_int (pa_cons pe_int pa_nil))))) (pe_cl c_law_pick hr (by decide) (by rfl) (pa_cons (pv 0) (pa_cons pe_int pa_nil))) (fun _ _ => rfl)) pa_nil)))))
    (pss_cons (ps_set (i := 3) nd rfl (Or.inl rfl) (pe_cl c_law_names hr (by decide) (by rfl) (pa_cons (pv 0) (pa_cons (pv 2) pa_nil))))
    (pss_cons (ps_set (i := 4) nd rfl (Or.inl rfl) (pe_lst pa_nil))
    (pss_cons (ps_for PassesOwn.never rfl (pi_range1 (by rfl) m_range (pa_cons (pe_cl c_law_pick hr (by decide) (by rfl) (pa_cons (pv 0) (pa_cons (pe_ix (ix_listK K) (pe_lst (pa_cons pe_int (pa_cons pe_int (pa_cons pe_int (pa_cons pe_int pa_nil))))) (pe_cl c_law_pick hr (by decide) (by rfl) (pa_cons (pv 0) (pa_cons pe_int pa_nil))) (fun _ _ => rfl)) pa_nil))) pa_nil)) (pg_name (i := 5) nd rfl (Or.inl rfl)) (pss_cons (ps_set (i := 6) nd rfl (Or.inr rfl) (pe_op op_add pe_int (pe_cl c_law_pick hr (by decide) (by rfl) (pa_cons (pv 0) (pa_cons pe_int pa_nil)))))
    (pss_cons (ps_set (i := 7) nd rfl (Or.inr rfl) (pe_lc (own := [("name", 9)]) (g := gName 9) (by rfl) nd (pi_listK K (pv 3)) (blkOk_by (own := [("name", 9)]) (N := ["pot", "shape", "many", "names", "rows", "k", "share", "row", "at", "name"]) (sc := defScope s_law_rows) (by decide +kernel)) (fun _ _ _ _ _ => (pg_name (i := 9) nd rfl (Or.inl rfl))) (fun _ _ _ _ _ => (pts_one (pt_cmpR op_lt (pe_cl c_law_pick hr (by decide) (by rfl) (pa_cons (pv 0) (pa_cons pe_int pa_nil))) (pv 6) (by rfl)))) (fun _ _ _ _ _ => (pv 9))))
    (pss_cut' (ps_if (PW.pt (pw_and (pt_cmpR op_gt (pv 1) pe_int (by rfl)) (pw_and (pt_cmpR (op_neK K hr.units) (pv 7) (pe_lst pa_nil) (by rfl)) (pw_and1 (pt_cmpR op_lt (pe_cl c_law_pick hr (by decide) (by rfl) (pa_cons (pv 0) (pa_cons pe_int pa_nil))) (pe_op op_sub (pv 1) pe_int) (by rfl)))))) (pss_cons (ps_set (i := 8) nd rfl (Or.inl rfl) (pe_cl c_law_pick hr (by decide) (by rfl) (pa_cons (pv 0) (pa_cons (pe_callB (call_lenK K) (by rfl) m_len PySem.boot_len (pa_cons (pv 7) pa_nil)) pa_nil))))
    (pss_one (ps_expr (pe_bmK K PySem.F.plainAttrs_list PySem.F.slot_list_insert PySem.F.type_list_insert mt_insert (pv 7) (pa_cons (pe_cl c_law_pick hr (by decide) (by rfl) (pa_cons (pv 0) (pa_cons (pe_callB (call_lenK K) (by rfl) m_len PySem.boot_len (pa_cons (pv 7) pa_nil)) pa_nil))) (pa_cons (pe_bmK K PySem.F.plainAttrs_list PySem.F.slot_list_pop PySem.F.type_list_pop mt_popAt (pv 7) (pa_cons (pv 8) pa_nil)) pa_nil)))))) pss_nil)
    (pss_cut' (ps_if (PW.pt (pw_and (pt_cmpR op_eq (pv 1) pe_int (by rfl)) (pw_and1 (pt_cmpR op_eq (pe_cl c_law_pick hr (by decide) (by rfl) (pa_cons (pv 0) (pa_cons pe_int pa_nil))) pe_int (by rfl))))) (pss_one (ps_set (i := 7) nd rfl (Or.inr rfl) (pe_lc (own := [("at", 8)]) (g := gName 8) (tt := tYes) (by rfl) nd (pi_listK K (pe_cl c_law_order hr (by decide) (by rfl) (pa_cons (pv 0) (pa_cons (pe_callB (call_lenK K) (by rfl) m_len PySem.boot_len (pa_cons (pv 7) pa_nil)) pa_nil)))) (blkOk_by (own := [("at", 8)]) (N := ["pot", "shape", "many", "names", "rows", "k", "share", "row", "at", "name"]) (sc := defScope s_law_rows) (by decide +kernel)) (fun _ _ _ _ _ => (pg_name (i := 8) nd rfl (Or.inl rfl))) (fun _ _ _ _ _ => pts_nil) (fun _ _ _ _ _ => (pe_ix (ix_listK K) (pv 7) (pv 8) (fun _ _ => rfl)))))) pss_nil)
    (pss_one (ps_expr (pe_bmK K PySem.F.plainAttrs_list PySem.F.slot_list_append PySem.F.type_list_append mt_append (pv 4) (pa_cons (pv 7) pa_nil)))))))))
    (pss_one (ps_ret (pv 4)))))))), ?_⟩
  refine ⟨_, rfl, p, c, ns, _, rfl, hP, mny (by decide) (by decide), fun sh H1 sh0 sh1 G1 => ?_⟩
  -- many
  refine ⟨_, rfl, (by show 4 ≤ sizeLine; decide), fun q1 nq1 => ?_⟩
  have G1' := G1.new (o := .lst [V.int 3, V.int 5, V.int 8, V.int 16]) nq1
  refine ⟨_, rfl, p, c, ns, _, rfl, G1'.pot, mny (by decide) (by decide), fun r H2 r0 r1 G2 => ?_⟩
  obtain ⟨z, hz, hzz⟩ := at4 (a := 3) (b := 5) (d := 8) (e := 16) r0 r1
  have G12 := G1'.trans G2
  refine ⟨q1, _, _, _, rfl, rfl, SqL.of (G2.get (G1.pot.nep nq1) upd_same), hz, p, c, ns, z, rfl, G12.pot, mny (by omega) (by omega), fun m H3 m0 m1 G3 => ⟨_, _, rfl, rfl, ?_⟩⟩
  have G13 := G12.trans G3
  obtain ⟨m, rfl⟩ : ∃ n : Nat, m = (n : Int) := ⟨m.toNat, by omega⟩
  have em : ((1 : Int) + (m : Int)) = ((1 + m : Nat) : Int) := by omega
  refine ⟨_, rfl, _, rfl, p, c, ns, 1 + m, (by show [V.ref p, V.int ((1 : Int) + (m : Int))] = [V.ref p, V.int ((1 + m : Nat) : Int)]; rw [em]), G13.pot, by omega, fun nl xs H4 G4 nnl hnl hxl hxn hxm => ?_⟩
  have G14 := G13.trans G4
  refine ⟨(by show 0 ≤ sizeLine; decide), fun rl nrl => ?_⟩
  have R0 : RS p c ns H nl xs rl [] [] (upd H4 rl (.lst [])) :=
    ⟨G14.new nrl, same_new nrl _ _ hnl, G13.free nnl, upd_same, G14.free nrl, ne_of_none hnl nrl, .nil⟩
  refine ⟨_, rfl, (by show 4 ≤ sizeLine; decide), fun q2 nq2 => ?_⟩
  have R1 := R0.same (same_new (o := .lst [V.int 3, V.int 5, V.int 8, V.int 17]) nq2)
  refine ⟨_, rfl, p, c, ns, _, rfl, R1.go.pot, mny (by decide) (by decide), fun r' H5 r0' r1' G5 => ?_⟩
  obtain ⟨z', hz', hzz'⟩ := at4 (a := 3) (b := 5) (d := 8) (e := 17) r0' r1'
  have R2 := R1.step G5
  refine ⟨q2, _, _, _, rfl, rfl, SqL.of (G5.get (R0.go.pot.nep nq2) upd_same), hz', p, c, ns, z', rfl, R2.go.pot, mny (by omega) (by omega), fun n H6 n0 n1 G6 => ?_⟩
  have R3 := R2.step G6
  refine ⟨n, rfl, by omega, by omega, for_range (lo := 0) (n := n.toNat) (fun i σ H' => ∃ (y5 y6 y7 y8 : Option V) (as : List Addr) (rows : Rows), σ = [some (.ref p), some (.int sh), some (.int ((1 : Int) + (m : Int))), some (.ref nl), some (.ref rl), y5, y6, y7, y8, none] ∧ RS p c ns H nl xs rl as rows H' ∧ rows.length = i ∧ ∀ r ∈ rows, RowOk xs r) ?_ ?_ ?_⟩
  · exact ⟨none, none, none, none, [], [], rfl, R3, rfl, fun r h => nomatch h⟩
  · rintro i σ H' hi ⟨y5, y6, y7, y8, as, rows, rfl, R, hlen, hok⟩
    have hlen17 : i < 16 := by omega
    -- share
    refine ⟨_, rfl, p, c, ns, _, rfl, R.go.pot, mny (by decide) (by decide), fun s H7 s0 s1 G7 => ⟨_, _, rfl, rfl, ?_⟩⟩
    have R7 := R.step G7
    -- row = [name for name in names if _law_pick(pot, 4) < share]
    refine ⟨_, rfl, nl, rfl, ⟨_, SqL.of R7.hn⟩, fun D nD => lc_list (xs := xs.map V.str) (fun j H8 => ∃ acc : List Str, Go p c ns H7 H8 ∧ H8 D = some (.lst (acc.map V.str)) ∧ acc.Sublist (xs.take j)) ?_ ?_ ?_ ?_⟩
    · exact ⟨[], (Go.refl R7.go.pot).new nD, upd_same, List.Sublist.refl _⟩
    · rintro j H8 _ ⟨acc, G8, _⟩
      exact SqL.of (G8.get (hP.nep R.nn) R7.hn)
    · rintro j y H8 hy ⟨acc, G8, hD, hsub⟩
      obtain ⟨x, hx, rfl⟩ := str_of hy
      have hjl := (List.getElem?_eq_some_iff.mp hx).1
      refine ⟨rfl, ?_⟩
      refine ⟨_, rfl, p, c, ns, _, rfl, G8.pot, mny (by decide) (by decide), fun r8 H9 r80 r81 G9 => ⟨_, rfl, _, _, rfl, rfl, _, rfl, ite2 (fun e => ?_) (fun e => ?_)⟩⟩
      · have hD9 : H9 D = some (.lst (acc.map V.str)) := G9.get (R7.go.pot.nep nD) hD
        have hal := hsub.length_le
        refine ⟨_, rfl, _, hD9, ?_, acc ++ [x], (G8.trans G9).mut nD, ?_, ?_⟩
        · rw [List.length_map]
          rw [List.length_take] at hal
          exact small1000 (by omega)
        · rw [upd_same, List.map_append]
          rfl
        · rw [List.take_add_one, hx]
          exact List.Sublist.append hsub (List.Sublist.refl _)
      · refine ⟨acc, G8.trans G9, G9.get (R7.go.pot.nep nD) hD, ?_⟩
        rw [List.take_add_one]
        exact hsub.trans (List.sublist_append_left _ _)
    rintro H8 ⟨row, G8, hD, hsub⟩
    rw [List.length_map, List.take_length] at hsub
    have ok0 : RowOk xs row := RowOk.sublist hxn hsub
    have R8 := R7.step G8
    have A8 : Av H nl rl as D := R7.fresh nD
    have okn : ∀ {row : List Str}, RowOk xs row → Ok row := fun k x hx => (hxm x (k.sub x hx)).ok
    -- behind the first if: a row of the same names, in D still
    refine ⟨fun σ H' => ∃ (y8 : Option V) (row : List Str), σ = [some (.ref p), some (.int sh), some (.int ((1 : Int) + (m : Int))), some (.ref nl), some (.ref rl), some (.int ((0 : Int) + (i : Int))), some (.int (1 + s)), some (.ref D), y8, none] ∧ RS p c ns H nl xs rl as rows H' ∧ RowOk xs row ∧ H' D = some (.lst (row.map V.str)), ?_, ?_⟩
    · have skip : ∀ H', RS p c ns H nl xs rl as rows H' → H' D = some (.lst (row.map V.str)) → ∃ (y8 : Option V) (row : List Str), [some (V.ref p), some (.int sh), some (.int ((1 : Int) + (m : Int))), some (.ref nl), some (.ref rl), some (.int ((0 : Int) + (i : Int))), some (.int (1 + s)), some (.ref D), y8, none] = [some (.ref p), some (.int sh), some (.int ((1 : Int) + (m : Int))), some (.ref nl), some (.ref rl), some (.int ((0 : Int) + (i : Int))), some (.int (1 + s)), some (.ref D), y8, none] ∧ RS p c ns H nl xs rl as rows H' ∧ RowOk xs row ∧ H' D = some (.lst (row.map V.str)) :=
        fun H' hR hh => ⟨y8, row, rfl, hR, ok0, hh⟩
      refine ⟨_, rfl, _, _, rfl, rfl, _, rfl, ite2 (fun e1 => ?_) (fun e1 => no (by decide) ⟨y8, row, rfl, R8, ok0, hD⟩)⟩
      refine ⟨_, rfl, (by show 0 ≤ sizeLine; decide), fun l nl' => ?_⟩
      have s9 := same_new (o := .lst []) nl'
      have R9 := R8.same s9
      have hD9 := s9 _ _ hD
      refine ⟨.list (row.map PyData.str), .list [], .lst (SqL.of hD9) (dp_strs _), .lst (SqL.of upd_same) .nil, shaped_strs (okn ok0), by decide +kernel, _, rfl, ite2 (fun e2 => ?_) (fun e2 => no (by decide) ⟨y8, row, rfl, R9, ok0, hD9⟩)⟩
      have hpos : 0 < row.length := by
        cases row with
        | nil => cases e2
        | cons _ _ => exact Nat.succ_pos _
      have hlr : (((row.map V.str).length : Nat) : Int) = (row.length : Int) := by rw [List.length_map]
      have hl16 : row.length ≤ 16 := Nat.le_trans ok0.len (by omega)
      refine ⟨_, rfl, p, c, ns, _, rfl, R9.go.pot, mny (by decide) (by decide), fun r9 H10 _ _ G10 => ⟨_, rfl, _, _, rfl, rfl, _, _, rfl, rfl, _, rfl, ite2 (fun e3 => ?_) (fun e3 => ⟨y8, row, rfl, R9.step G10, ok0, G10.get (hP.nep A8.n0) hD9⟩)⟩⟩
      have nDp : D ≠ p := hP.nep A8.n0
      have R10 := R9.step G10
      have hD10 := G10.get nDp hD9
      -- at
      refine ⟨_, rfl, _, rfl, D, _, rfl, .inl (SqL.of hD10), p, c, ns, _, rfl, R10.go.pot, mny (by omega) (by omega), fun at' H11 a0 a1 G11 => ?_⟩
      have R11 := R10.step G11
      have hD11 := G11.get nDp hD10
      -- row.insert(.., row.pop(at))
      refine ⟨_, rfl, .inl ⟨rfl, _, SqL.of hD11⟩, _, rfl, _, rfl, D, _, rfl, .inl (SqL.of hD11), p, c, ns, _, rfl, R11.go.pot, mny (by omega) (by omega), fun r12 H12 b0 b1 G12 => ?_⟩
      have R12 := R11.step G12
      have hD12 := G12.get nDp hD11
      obtain ⟨k, rfl⟩ : ∃ n : Nat, at' = (n : Int) := ⟨at'.toNat, by omega⟩
      have hk : k < row.length := by omega
      have hkl : k < (row.map V.str).length := by rw [List.length_map]; exact hk
      have gk : (row.map V.str)[k]? = some (.str row[k]) := by rw [List.getElem?_map, List.getElem?_eq_getElem hk]; rfl
      refine ⟨_, rfl, .inl ⟨rfl, _, SqL.of hD12⟩, _, rfl, D, _, _, k, _, rfl, rfl, hD12, by omega, by omega, (ixN_seq (Evl.ixN_nat hkl)).1, gk, ?_⟩
      refine ⟨D, _, r12, _, rfl, rfl, upd_same, ?_, b0, by omega, ?_⟩
      · exact Nat.lt_of_le_of_lt (List.length_eraseIdx_le _ _) (by rw [List.length_map]; exact small1000 (by omega))
      · rw [upd_upd]
        refine ⟨_, (row.eraseIdx k).take r12.toNat ++ [row[k]] ++ (row.eraseIdx k).drop r12.toNat, rfl, R12.put A8, ok0.perm (perm_move _ (List.getElem?_eq_getElem hk)), ?_⟩
        rw [upd_same, List.map_append, List.map_append, List.map_take, List.map_drop, erase_map]
        rfl
    rintro σ H9 ⟨y9, row9, rfl, R9, ok9, hD9⟩
    have nDp : D ≠ p := hP.nep A8.n0
    have hl16 : row9.length ≤ 16 := Nat.le_trans ok9.len (by omega)
    refine ⟨fun σ H' => ∃ (y8 : Option V) (rw_ : Addr) (row : List Str), σ = [some (.ref p), some (.int sh), some (.int ((1 : Int) + (m : Int))), some (.ref nl), some (.ref rl), some (.int ((0 : Int) + (i : Int))), some (.int (1 + s)), some (.ref rw_), y8, none] ∧ RS p c ns H nl xs rl as rows H' ∧ RowOk xs row ∧ Av H nl rl as rw_ ∧ H' rw_ = some (.lst (row.map V.str)), ?_, ?_⟩
    · refine ⟨_, rfl, rfl, _, rfl, ite2 (fun e1 => ?_) (fun e1 => no (by decide) ⟨y9, D, row9, rfl, R9, ok9, A8, hD9⟩)⟩
      refine ⟨_, rfl, p, c, ns, _, rfl, R9.go.pot, mny (by decide) (by decide), fun r9 H10 _ _ G10 => ⟨rfl, _, rfl, ite2 (fun e3 => ?_) (fun e3 => ⟨y9, D, row9, rfl, R9.step G10, ok9, A8, G10.get nDp hD9⟩)⟩⟩
      have R10 := R9.step G10
      have hD10 := G10.get nDp hD9
      refine ⟨_, rfl, _, rfl, D, _, rfl, .inl (SqL.of hD10), p, c, ns, row9.length, (by show [V.ref p, V.int (((row9.map V.str).length : Nat) : Int)] = _; rw [List.length_map]; rfl), R10.go.pot, by omega, fun ol ks H11 G11 nol hol hperm => ⟨ol, rfl, ⟨_, SqL.of hol⟩, fun D2 nD2 => lc_list (xs := ks.map nV) (fun j H12 => Same H11 H12 ∧ H12 D2 = some (.lst (((ks.take j).map fun k => row9.getD k (mk [])).map V.str))) ?_ ?_ ?_ ?_⟩⟩
      · exact ⟨same_new nD2, upd_same⟩
      · rintro j H12 _ ⟨sm, _⟩
        exact SqL.of (sm _ _ hol)
      · rintro j x H12 hx ⟨sm, hD2⟩
        obtain ⟨k, hk, rfl⟩ : ∃ k, ks[j]? = some k ∧ x = nV k := by
          rw [List.getElem?_map] at hx
          cases e : ks[j]? with
          | none => rw [e] at hx; cases hx
          | some z => rw [e] at hx; exact ⟨z, rfl, (Option.some.inj hx).symm⟩
        have hkm : k < row9.length := List.mem_range.mp (hperm.mem_iff.mp (List.mem_of_getElem? hk))
        have hjl := (List.getElem?_eq_some_iff.mp hk).1
        have hkl : ks.length = row9.length := by rw [hperm.length_eq, List.length_range]
        have hD12 : H12 D = some (.lst (row9.map V.str)) := sm _ _ (G11.get nDp hD10)
        refine ⟨rfl, ?_⟩
        refine ⟨_, rfl, _, rfl, D, _, _, V.str (row9.getD k (mk [])), rfl, rfl, SqL.of hD12, at_of (j := k) rfl ?_, _, hD2, ?_, same_mut sm nD2, ?_⟩
        · rw [List.getElem?_map, List.getD_eq_getElem?_getD, List.getElem?_eq_getElem hkm]
          rfl
        · rw [List.length_map, List.length_map, List.length_take]
          exact small1000 (by omega)
        · rw [upd_same, List.take_add_one, hk, List.map_append, List.map_append]
          rfl
      · rintro H12 ⟨sm, hD2⟩
        rw [List.length_map, List.take_length] at hD2
        have R11 := R10.step G11
        exact ⟨_, D2, _, rfl, R11.same sm, ok9.perm (picks_perm (mk []) (ks := ks) row9 hperm), R11.fresh nD2, hD2⟩
    rintro σ H13 ⟨y13, rw_, row13, rfl, R13, ok13, A13, h13⟩
    refine ⟨_, rfl, .inl ⟨rfl, _, SqL.of R13.hl⟩, _, rfl, rl, _, _, rfl, rfl, R13.hl, ?_, ?_⟩
    · rw [List.length_map, Paired.length R13.fr, hlen]
      exact small1000 (by omega)
    · refine ⟨_, _, _, _, as ++ [rw_], rows ++ [row13], rfl, R13.push A13 h13, by rw [List.length_append, hlen]; rfl, fun r hr => ?_⟩
      rcases List.mem_append.mp hr with h | h
      · exact hok r h
      · rw [List.mem_singleton.mp h]
        exact ok13
  · rintro σ H' ⟨y5, y6, y7, y8, as, rows, rfl, R, hlen, hok⟩
    exact ⟨_, rfl, q rl as rows xs H' R.go R.nr R.hl R.fr (by omega) hok (by omega) hxm⟩
end
end Kin
namespace Kin
open PySem PySem.Spec PyProof.Rows L2 RZ
/-! ### the program's own look at a ring -/
section
variable {P : Program} {w : World} {K : PySem.W.Frag} {mg : Str → Option Value} {base : Heap}
/-! _is_demand -/
abbrev s_is_demand : Stmt := topS 3
theorem sc_is_demand : FnScope ["rows", "demand", "one", "other", "number", "row"] ["rows", "demand"] (defScope s_is_demand) := ⟨rfl, rfl, rfl, by decide +kernel, rfl, by decide +kernel, by decide +kernel⟩
def sp_is_demand (K : PySem.W.Frag) : Sp := fun vs H Q _ => ∃ (a : Addr) (as : List Addr) (rows : Rows) (t : Addr) (d : DemI), vs = [.ref a, .ref t] ∧ RowsAt K H a as rows ∧ H t = some (.tup [.str d.one, .str d.other, .int d.num]) ∧
  ∀ H', Same H H' → Q (.bl (demB rows d)) H'
theorem ok_is_demand (F : Def K mg "_is_demand" ["rows", "demand"] s_is_demand) (M : MB mg) : Cl P w K mg base 1 "_is_demand" (sp_is_demand K) := by
  refine F.cl sc_is_demand (fun vs H Q E h => ?_) (fun f cdv A outer s H vs Q E hr h => ?_)
  · obtain ⟨a, as, rows, t, d, rfl, _⟩ := h
    rfl
  obtain ⟨a, as, rows, t, d, rfl, hR, ht, q⟩ := h
  have nd := sc_is_demand.nd
  have m_len := M.m_len
  refine ⟨_, (pss_cons (ps_asg (pv 1) (pg_tupK K 3 rfl (pgs_cons (pg_name (i := 2) nd rfl (Or.inl rfl)) (pgs_cons (pg_name (i := 3) nd rfl (Or.inl rfl)) (pgs_cons (pg_name (i := 4) nd rfl (Or.inl rfl)) pgs_nil)))))
    (pss_cons (ps_if (pt_not (pt_chain op_le op_lt pe_int (pv 4) (pe_callB (call_lenK K) (by rfl) m_len PySem.boot_len (pa_cons (pv 0) pa_nil)))) (pss_one (ps_ret pe_bl)) pss_nil)
    (pss_cons (ps_set (i := 5) nd rfl (Or.inl rfl) (pe_ix (ix_listK K) (pv 0) (pv 4) (fun _ _ => rfl)))
    (pss_one (ps_ret (pe_and (pe_cmpR (op_inK K) (pv 2) (pv 5) (by rfl)) (pe_one (pe_cmpR (op_inK K) (pv 3) (pe_slice (sl_listK K) (pv 5) (po_some (pe_op op_add (pe_bmK K PySem.F.plainAttrs_list PySem.F.slot_list_index PySem.F.type_list_index (mt_indexK K) (pv 5) (pa_cons (pv 2) pa_nil)) pe_int)) po_none) (by rfl))))))))), ?_⟩
  refine ⟨_, rfl, t, _, rfl, SqT.of ht, rfl, _, _, rfl, _, _, rfl, _, _, rfl, rfl, ?_⟩
  have hlen : (((as.map V.ref).length : Nat) : Int) = (rows.length : Int) := by rw [List.length_map, hR.2.len]
  -- if not 0 <= number < len(rows)
  refine ⟨_, rfl, _, _, rfl, rfl, _, rfl, ?_⟩
  by_cases c : 0 ≤ d.num ∧ d.num < (rows.length : Int)
  · refine yes (decide_eq_true c.1) ?_
    refine ⟨_, rfl, a, _, rfl, .inl hR.1, _, _, rfl, rfl, _, rfl, ?_⟩
    refine no (by rw [decide_eq_true (by rw [hlen]; exact c.2)]; decide) ?_
    obtain ⟨j, ej⟩ : ∃ j : Nat, d.num = (j : Int) := ⟨d.num.toNat, by omega⟩
    have hj : j < rows.length := by omega
    obtain ⟨b, hb, hS⟩ := hR.2.at (List.getElem?_eq_getElem hj)
    refine ⟨_, rfl, _, rfl, a, _, _, .ref b, rfl, rfl, hR.1, at_of (j := j) ej (by rw [List.getElem?_map, hb]; rfl), ?_⟩
    have eB : demB rows d = (decide (d.one ∈ rows[j]) && decide (d.other ∈ rows[j].drop (rows[j].idxOf d.one + 1))) := by
      unfold demB
      rw [if_pos c, ej, Int.toNat_natCast, List.getD_eq_getElem?_getD, List.getElem?_eq_getElem hj]
      rfl
    refine ⟨_, rfl, _, rfl, b, _, rfl, .inl hS, rfl, flat_strs _, ?_⟩
    show ∃ c, V.bl (inV (V.str d.one) (rows[j].map V.str)) = .bl c ∧ _
    rw [inV_strs]
    refine ⟨_, rfl, ?_⟩
    by_cases c1 : d.one ∈ rows[j]
    · refine yes (decide_eq_true c1) ?_
      have hi : rows[j][rows[j].idxOf d.one]? = some d.one := by
        rw [List.getElem?_eq_getElem (List.idxOf_lt_length_of_mem c1)]
        exact congrArg some (List.getElem_idxOf _)
      refine ⟨_, rfl, _, rfl, _, rfl, .inl ⟨rfl, _, hS⟩, _, rfl, b, _, .str d.one, rows[j].idxOf d.one, .str d.one, rfl, rfl, hS, rfl, flat_strs _, (by rw [List.getElem?_map, hi]; rfl), beq_self_eq_true d.one, ?_, _, _, rfl, rfl, _, rfl, b, _, rfl, hS, fun g ng => ?_⟩
      · intro m z hm hz
        obtain ⟨y, hy, rfl⟩ := str_of hz
        refine beq_false_of_ne fun e => ?_
        rw [e] at hy
        exact absurd hm (Nat.not_lt.mpr (idx_le hy))
      · rw [show ((rows[j].idxOf d.one : Nat) : Int) + 1 = ((rows[j].idxOf d.one + 1 : Nat) : Int) by omega, cut_from, ← List.map_drop]
        refine ⟨g, _, rfl, .inl (SqL.of upd_same), rfl, flat_strs _, ?_⟩
        show Q (.bl (inV (V.str d.other) ((rows[j].drop (rows[j].idxOf d.one + 1)).map V.str))) _
        have z := q _ (same_new (o := .lst ((rows[j].drop (rows[j].idxOf d.one + 1)).map V.str)) ng)
        rw [eB, decide_eq_true c1, Bool.true_and] at z
        rw [inV_strs]
        exact z
    · refine no (by rw [decide_eq_false c1]; decide) ?_
      have z := q _ (Same.refl H)
      rw [eB, decide_eq_false c1, Bool.false_and] at z
      exact z
  · have eB : demB rows d = false := by
      unfold demB
      rw [if_neg c]
    have z := q _ (Same.refl H)
    rw [eB] at z
    by_cases c0 : 0 ≤ d.num
    · refine yes (decide_eq_true c0) ?_
      refine ⟨_, rfl, a, _, rfl, .inl hR.1, _, _, rfl, rfl, _, rfl, ?_⟩
      refine yes (by rw [decide_eq_false (by rw [hlen]; omega)]; rfl) ?_
      exact z
    · refine no (by rw [decide_eq_false c0]; decide) ?_
      refine ⟨_, rfl, ?_⟩
      refine yes rfl ?_
      exact z
/-! is_ring -/
abbrev s_is_ring : Stmt := topS 2
theorem sc_is_ring : FnScope ["rows", "demands", "behind", "demand", "after"] ["rows", "demands"] (defScope s_is_ring) := ⟨rfl, rfl, rfl, by decide +kernel, rfl, by decide +kernel, by decide +kernel⟩
def sp_is_ring (K : PySem.W.Frag) : Sp := fun vs H Q _ => ∃ (a : Addr) (as : List Addr) (rows : Rows) (l : Addr) (ts : List Addr) (ds : List DemI), vs = [.ref a, .ref l] ∧ RowsAt K H a as rows ∧ H l = some (.lst (ts.map V.ref)) ∧ DemsI H ts ds ∧ ds.length ≤ 10000 ∧
  ∀ H', Same H H' → Q (.bl (ringB rows ds)) H'
theorem ok_is_ring (F : Def K mg "is_ring" ["rows", "demands"] s_is_ring) (M : MB mg) (c_is_demand : Cl P w K mg base 1 "_is_demand" (sp_is_demand K)) : Cl P w K mg base 2 "is_ring" (sp_is_ring K) := by
  refine F.cl sc_is_ring (fun vs H Q E h => ?_) (fun f cdv A outer s H vs Q E hr h => ?_)
  · obtain ⟨a, as, rows, l, ts, ds, rfl, _⟩ := h
    rfl
  obtain ⟨a, as, rows, l, ts, ds, rfl, hR, hl, hD, hz, q⟩ := h
  have nd := sc_is_ring.nd
  obtain ⟨m_isinstance, m_bool, m_str, m_int, m_tuple, m_list, m_len, m_all, m_zip, _⟩ := M
  refine ⟨_, (pss_cons (ps_if (pt_not (pt_truK K (pv 1) (by intro _; rfl))) (pss_one (ps_ret pe_bl)) pss_nil)
    (pss_cons (ps_set (i := 2) nd rfl (Or.inl rfl) (pe_op op_cat (pe_slice (sl_listK K) (pv 1) (po_some pe_int) po_none) (pe_slice (sl_listK K) (pv 1) po_none (po_some pe_int))))
    (pss_one (ps_ret (pe_and (pe_callB (cr_allK K) (by rfl) m_all (by decide +kernel) (pa_cons (pe_lc (own := [("demand", 3)]) (g := gName 3) (tt := tYes) (by rfl) nd (pi_listK K (pv 1)) (blkOk_by (own := [("demand", 3)]) (N := ["rows", "demands", "behind", "demand", "after"]) (sc := defScope s_is_ring) (by decide +kernel)) (fun _ _ _ _ _ => (pg_name (i := 3) nd rfl (Or.inl rfl))) (fun _ _ _ _ _ => pts_nil) (fun _ _ _ _ _ => (pe_cl c_is_demand hr (by decide) (by rfl) (pa_cons (pv 0) (pa_cons (pv 3) pa_nil))))) pa_nil)) (pe_one (pe_callB (cr_allK K) (by rfl) m_all (by decide +kernel) (pa_cons (pe_lc (own := [("demand", 3), ("after", 4)]) (tt := tYes) (by rfl) nd (pi_zipK K (by rfl) m_zip (pa_cons (pv 1) (pa_cons (pv 2) pa_nil))) (blkOk_by (own := [("demand", 3), ("after", 4)]) (N := ["rows", "demands", "behind", "demand", "after"]) (sc := defScope s_is_ring) (by decide +kernel)) (fun _ _ _ _ _ => (pg_tupK K 2 rfl (pgs_cons (pg_name (i := 3) nd rfl (Or.inl rfl)) (pgs_cons (pg_name (i := 4) nd rfl (Or.inl rfl)) pgs_nil)))) (fun _ _ _ _ _ => pts_nil) (fun _ _ _ _ _ => (pe_cmpR op_eq (pe_ix (ix_tupK K) (pv 3) pe_int (fun _ _ => rfl)) (pe_ix (ix_tupK K) (pv 4) pe_int (fun _ _ => rfl)) (by rfl)))) pa_nil)))))))), ?_⟩
  have hlen : ts.length = ds.length := Paired.length hD
  refine ⟨_, rfl, _, .inl ⟨_, SqL.of hl, rfl⟩, ?_⟩
  show (if (!(!(ts.map V.ref).isEmpty)) = true then _ else _)
  by_cases c : ds = []
  · have et : ts = [] := List.length_eq_zero_iff.mp (by rw [hlen, c]; rfl)
    refine yes (by rw [et]; rfl) ?_
    have z := q _ (Same.refl H)
    rw [c] at z
    exact z
  · have et : (ts.map V.ref).isEmpty = false := by
      cases ts with
      | nil => exact absurd (List.length_eq_zero_iff.mp hlen.symm) c
      | cons t r => rfl
    refine no (by rw [et]; decide) ?_
    refine ⟨_, rfl, 1, rfl, l, _, rfl, SqL.of hl, fun g1 n1 => ?_⟩
    have s1 := same_new (o := .lst (cutV (ts.map V.ref) (some 1) none)) n1
    refine ⟨_, rfl, 1, rfl, l, _, rfl, SqL.of (s1 _ _ hl), fun g2 n2 => ?_⟩
    have s2 := same_new (o := .lst (cutV (ts.map V.ref) none (some 1))) n2
    have e1 : cutV (ts.map V.ref) (some 1) none = (ts.drop 1).map V.ref := by rw [List.map_drop]; exact cut_from _ 1
    have e2 : cutV (ts.map V.ref) none (some 1) = (ts.take 1).map V.ref := by rw [List.map_take]; exact cut_to _ 1
    refine ⟨g1, g2, _, _, rfl, rfl, s2 _ _ upd_same, upd_same, ?_, fun bh nb => ?_⟩
    · rw [e1, e2, List.length_map, List.length_map, List.length_drop, List.length_take]
      exact Nat.le_trans (show ts.length - 1 + min 1 ts.length ≤ 100000 by omega) (by decide)
    have s3 := same_new (o := .lst (cutV (ts.map V.ref) (some 1) none ++ cutV (ts.map V.ref) none (some 1))) nb
    have s13 := (s1.trans s2).trans s3
    have hbh : upd (upd (upd H g1 (.lst (cutV (ts.map V.ref) (some 1) none))) g2 (.lst (cutV (ts.map V.ref) none (some 1)))) bh (.lst (cutV (ts.map V.ref) (some 1) none ++ cutV (ts.map V.ref) none (some 1))) bh = some (.lst ((ts.drop 1 ++ ts.take 1).map V.ref)) := by
      rw [upd_same, e1, e2, List.map_append]
    generalize upd (upd (upd H g1 (.lst (cutV (ts.map V.ref) (some 1) none))) g2 (.lst (cutV (ts.map V.ref) none (some 1)))) bh (.lst (cutV (ts.map V.ref) (some 1) none ++ cutV (ts.map V.ref) none (some 1))) = H3 at s13 hbh ⊢
    have hl3 := s13 _ _ hl
    have hD3 : DemsI H3 ts ds := Paired.mapP hD fun _ _ z => s13 _ _ z
    have hB3 : DemsI H3 (ts.drop 1 ++ ts.take 1) (ds.tail ++ ds.take 1) := by
      rw [← List.drop_one]
      exact paired_app (paired_drop 1 hD3) (paired_take 1 hD3)
    refine ⟨_, rfl, l, rfl, ⟨_, SqL.of hl3⟩, fun D nD => lc_list (xs := ts.map V.ref) (fun i H' => Same H3 H' ∧ H' D = some (.lst (((ds.take i).map (demB rows)).map V.bl))) ?_ ?_ ?_ ?_⟩
    · exact ⟨same_new nD, upd_same⟩
    · rintro i H' _ ⟨sm, _⟩
      exact SqL.of (sm _ _ hl3)
    · rintro i y H' hy ⟨sm, hDD⟩
      obtain ⟨t, ht, rfl⟩ := ref_of hy
      obtain ⟨d, hd, htd⟩ := DemsI.get hD3 ht
      have hi := (List.getElem?_eq_some_iff.mp hd).1
      refine ⟨rfl, ?_⟩
      refine ⟨_, rfl, _, rfl, a, as, rows, t, d, rfl, (hR.same s13).same sm, sm _ _ htd, fun H5 s5 => ⟨_, s5 _ _ hDD, ?_, same_mut (sm.trans s5) nD, ?_⟩⟩
      · rw [List.length_map, List.length_map, List.length_take]
        exact Nat.lt_of_le_of_lt (show min i ds.length ≤ 100000 by omega) (by decide)
      · rw [upd_same, List.take_add_one, hd, List.map_append, List.map_append]
        rfl
    rintro H4 ⟨s4, hDD⟩
    rw [List.length_map, hlen, List.take_length] at hDD
    refine ⟨D, ds.map (demB rows), rfl, SqL.of hDD, _, rfl, ?_⟩
    have eall : (ds.map (demB rows)).all id = ds.all (demB rows) := by rw [List.all_map]; rfl
    have enil : ds.isEmpty = false := by
      cases ds with
      | nil => exact absurd rfl c
      | cons d r => rfl
    rw [eall]
    have s14 := s13.trans s4
    by_cases c2 : ds.all (demB rows) = true
    · refine yes c2 ?_
      have hl4 := s4 _ _ hl3
      have hD4 : DemsI H4 ts ds := Paired.mapP hD3 fun _ _ z => s4 _ _ z
      have hB4 : DemsI H4 (ts.drop 1 ++ ts.take 1) (ds.tail ++ ds.take 1) := Paired.mapP hB3 fun _ _ z => s4 _ _ z
      have hzl : (ts.map V.ref).length = ((ts.drop 1 ++ ts.take 1).map V.ref).length := by
        rw [List.length_map, List.length_map, List.length_append, List.length_drop, List.length_take]
        omega
      refine ⟨_, rfl, _, rfl, l, bh, _, _, rfl, .inl ⟨SqL.of hl4, SqL.of (s4 _ _ hbh), fun D2 nD2 => lc_zipL hzl (fun i H' => Same H4 H' ∧ H' D2 = some (.lst ((((ds.zip (ds.tail ++ ds.take 1)).take i).map fun p => decide (p.1.other = p.2.one)).map V.bl))) ?_ ?_ ?_ ?_⟩⟩
      · exact ⟨same_new nD2, upd_same⟩
      · rintro i H' _ ⟨sm, _⟩
        exact ⟨SqL.of (sm _ _ hl4), SqL.of (sm _ _ (s4 _ _ hbh))⟩
      · rintro i u v H' T hu hv ⟨sm, hDD2⟩ nT
        obtain ⟨t, ht, rfl⟩ := ref_of hu
        obtain ⟨t2, ht2, rfl⟩ := ref_of hv
        obtain ⟨d, hd, htd⟩ := DemsI.get hD4 ht
        obtain ⟨d2, hd2, htd2⟩ := DemsI.get hB4 ht2
        have s5 := sm.trans (same_new (o := .tup [.ref t, .ref t2]) nT)
        have hTD : D2 ≠ T := ne_of_none hDD2 nT
        have hp : (ds.zip (ds.tail ++ ds.take 1))[i]? = some (d, d2) := by
          rw [List.getElem?_zip_eq_some]
          exact ⟨hd, hd2⟩
        have hi := (List.getElem?_eq_some_iff.mp hd).1
        refine ⟨T, _, rfl, SqT.of upd_same, rfl, _, _, rfl, _, _, rfl, rfl, rfl, ?_⟩
        refine ⟨_, rfl, t, _, _, .str d.other, rfl, rfl, SqT.of (s5 _ _ htd), at_of (j := 1) rfl rfl, _, rfl, t2, _, _, .str d2.one, rfl, rfl, SqT.of (s5 _ _ htd2), at_of (j := 0) rfl rfl, rfl, ?_⟩
        refine ⟨_, (by rw [upd_ne hTD]; exact hDD2), ?_, same_mut s5 nD2, ?_⟩
        · rw [List.length_map, List.length_map, List.length_take]
          exact Nat.lt_of_le_of_lt (show min i _ ≤ 100000 by have := Nat.min_le_left i (ds.zip (ds.tail ++ ds.take 1)).length; omega) (by decide)
        · have etk : (ds.zip (ds.tail ++ ds.take 1)).take (i + 1) = (ds.zip (ds.tail ++ ds.take 1)).take i ++ [(d, d2)] := by
            generalize ds.tail ++ ds.take 1 = es at hp ⊢
            rw [List.take_add_one, hp]
            rfl
          rw [upd_same, etk, List.map_append, List.map_append]
          show some (HO.lst (_ ++ [V.bl (decide (V.str d.other = V.str d2.one))])) = some (HO.lst (_ ++ [V.bl (decide (d.other = d2.one))]))
          rw [show decide (V.str d.other = V.str d2.one) = decide (d.other = d2.one) by
            by_cases e : d.other = d2.one
            · rw [e, decide_eq_true rfl, decide_eq_true rfl]
            · rw [decide_eq_false e, decide_eq_false fun h => e (V.str.inj h)]]
      · rintro H5 ⟨s5, hDD2⟩
        have ezl : (ds.zip (ds.tail ++ ds.take 1)).length = (ts.map V.ref).length := by
          rw [List.length_zip, List.length_append, List.length_tail, List.length_take, List.length_map]
          omega
        rw [← ezl, List.take_length] at hDD2
        refine ⟨D2, _, rfl, SqL.of hDD2, ?_⟩
        have z := q _ (s14.trans s5)
        unfold ringB nextB at z
        rw [enil, c2, Bool.not_false, Bool.true_and, Bool.true_and] at z
        show Q (.bl (List.all (List.map _ _) id)) H5
        rw [List.all_map]
        exact z
    · refine no c2 ?_
      have z := q _ s14
      unfold ringB at z
      rw [show ds.all (demB rows) = false by cases e : ds.all (demB rows) with | true => exact absurd e c2 | false => rfl, Bool.false_and, Bool.and_false] at z
      exact z
end
end Kin
namespace Kin
open PySem PySem.Spec PyProof.Rows L2 RZ
section
variable {P : Program} {w : World} {K : PySem.W.Frag} {mg : Str → Option Value} {base : Heap}
/-! _law_all_orders -/
abbrev s_law_all_orders : Stmt := topS 16
theorem sc_law_all_orders : FnScope ["names", "found", "name", "more", "order", "at"] ["names"] (defScope s_law_all_orders) := ⟨rfl, rfl, rfl, by decide +kernel, rfl, by decide +kernel, by decide +kernel⟩
def sp_all_orders (K : PySem.W.Frag) : Sp := fun vs H Q _ => ∃ (nl : Addr) (names : List Str), vs = [.ref nl] ∧ H nl = some (.lst (names.map V.str)) ∧ names.length ≤ 5 ∧
  ∀ (l : Addr) (os : List Addr) (ors : Rows) H', Same H H' → H l = none → H' l = some (.lst (os.map V.ref)) → StrsN H' [] os ors → (∀ o, o ∈ ors ↔ o.Perm names) → ors.length ≤ 7776 → Q (.ref l) H'
theorem ok_all_orders (F : Def K mg "_law_all_orders" ["names"] s_law_all_orders) (M : MB mg) : Cl P w K mg base 1 "_law_all_orders" (sp_all_orders K) := by
  refine F.cl sc_law_all_orders (fun vs H Q E h => ?_) (fun f cdv A outer s H vs Q E hr h => ?_)
  · obtain ⟨nl, names, rfl, _⟩ := h
    rfl
  obtain ⟨nl, names, rfl, hnl, h5, q⟩ := h
  have nd := sc_law_all_orders.nd
  have m_range := M.m_range
  have m_len := M.m_len
  refine ⟨_, (pss_cons (ps_set (i := 1) nd rfl (Or.inl rfl) (pe_lst (pa_cons (pe_lst pa_nil) pa_nil)))
    (pss_cons (ps_for PassesOwn.never rfl (pi_listK K (pv 0)) (pg_name (i := 2) nd rfl (Or.inr rfl)) (pss_cons (ps_set (i := 3) nd rfl (Or.inl rfl) (pe_lst pa_nil))
    (pss_cons (ps_for PassesOwn.never rfl (pi_listK K (pv 1)) (pg_name (i := 4) nd rfl (Or.inr rfl)) (pss_one (ps_expr (pe_bmK K PySem.F.plainAttrs_list PySem.F.slot_list_extend PySem.F.type_list_extend mt_extend (pv 3) (pa_cons (pe_lc (own := [("at", 5)]) (g := gName 5) (tt := tYes) (by rfl) nd (pi_range1 (by rfl) m_range (pa_cons (pe_op op_add (pe_callB (call_lenK K) (by rfl) m_len PySem.boot_len (pa_cons (pv 4) pa_nil)) pe_int) pa_nil)) (blkOk_by (own := [("at", 5)]) (N := ["names", "found", "name", "more", "order", "at"]) (sc := defScope s_law_all_orders) (by decide +kernel)) (fun _ _ _ _ _ => (pg_name (i := 5) nd rfl (Or.inl rfl))) (fun _ _ _ _ _ => pts_nil) (fun _ _ _ _ _ => (pe_op op_cat (pe_op op_cat (pe_slice (sl_listK K) (pv 4) po_none (po_some (pv 5))) (pe_lst (pa_cons (pv 2) pa_nil))) (pe_slice (sl_listK K) (pv 4) (po_some (pv 5)) po_none)))) pa_nil)))))
    (pss_one (ps_set (i := 1) nd rfl (Or.inl rfl) (pv 3))))))
    (pss_one (ps_ret (pv 1))))), ?_⟩
  refine ⟨(by show 0 ≤ sizeLine; decide), fun e0 ne0 => ⟨(by show 1 ≤ sizeLine; decide), fun f0 nf0 => ?_⟩⟩
  have s0 := same_new (o := .lst []) ne0
  have s1 := same_new (o := .lst [V.ref e0]) nf0
  have s01 := s0.trans s1
  refine ⟨_, rfl, nl, rfl, ⟨_, SqL.of (s01 _ _ hnl)⟩, for_list (xs := names.map V.str) (fun i σ H' => ∃ fl os ors y2 y3 y4, σ = [some (.ref nl), some (.ref fl), y2, y3, y4, none] ∧ Same H H' ∧ H fl = none ∧ H' fl = some (.lst (os.map V.ref)) ∧ StrsN H' [] os ors ∧ (∀ o, o ∈ ors ↔ o.Perm (names.take i)) ∧ ors.length ≤ 6 ^ i) ?_ ?_ ?_ ?_⟩
  · refine ⟨f0, [e0], [[]], none, none, none, rfl, s01, s0.free nf0, upd_same, .cons ⟨s1 _ _ upd_same, List.not_mem_nil⟩ .nil, fun o => ?_, by decide⟩
    rw [List.take_zero, List.mem_singleton, List.perm_nil]
  · rintro i σ H' _ ⟨fl, os, ors, y2, y3, y4, rfl, sm, _⟩
    exact SqL.of (sm _ _ hnl)
  · rintro i y σ H3 hy ⟨fl, os, ors, y2, y3, y4, rfl, sm, nfl, hfl, hO, hio, hlo⟩
    obtain ⟨x, hx, rfl⟩ := str_of hy
    have hi := (List.getElem?_eq_some_iff.mp hx).1
    have p6 : 6 ^ i ≤ 1296 := Nat.le_trans (Nat.pow_le_pow_right (by decide) (show i ≤ 4 by omega)) (by decide)
    have hol : ∀ o ∈ ors, o.length ≤ 5 := fun o ho => by
      rw [((hio o).mp ho).length_eq, List.length_take]
      omega
    have hosl : os.length = ors.length := Paired.length hO
    refine ⟨(by show 0 ≤ sizeLine; decide), fun mo nmo => ?_⟩
    have s2 := same_new (o := .lst []) nmo
    refine ⟨_, rfl, fl, rfl, ⟨_, SqL.of (s2 _ _ hfl)⟩, for_list (xs := os.map V.ref) (fun j σ H' => ∃ y4 ms, σ = [some (.ref nl), some (.ref fl), some (.str x), some (.ref mo), y4, none] ∧ Same H3 H' ∧ H' mo = some (.lst (ms.map V.ref)) ∧ StrsN H' [mo] ms ((ors.take j).flatMap (ins x)) ∧ ((ors.take j).flatMap (ins x)).length ≤ 6 * j) ?_ ?_ ?_ ?_⟩
    · exact ⟨y4, [], rfl, s2, upd_same, .nil, Nat.le_refl 0⟩
    · rintro j σ H' _ ⟨y4, ms, rfl, s4, _⟩
      exact SqL.of (s4 _ _ hfl)
    · rintro j y σ H4 hy ⟨y4, ms, rfl, s4, hmo, hM, hml⟩
      obtain ⟨b, hb, rfl⟩ := ref_of hy
      obtain ⟨o, ho, hob, _⟩ := hO.get hb
      have hj := (List.getElem?_eq_some_iff.mp ho).1
      have o5 := hol o (List.mem_of_getElem? ho)
      have hob4 := s4 _ _ hob
      refine ⟨_, rfl, .inl ⟨rfl, _, SqL.of hmo⟩, ?_⟩
      refine ⟨_, rfl, b, _, rfl, .inl (SqL.of hob4), _, _, rfl, rfl, ((o.length + 1 : Nat) : Int), by rw [List.length_map]; rfl, by omega, by omega, fun D nD => lc_range (lo := 0) (n := ((o.length + 1 : Nat) : Int).toNat) (fun k H' => Same H4 H' ∧ ∃ cs, H' D = some (.lst (cs.map V.ref)) ∧ StrsN H' [D, mo] cs ((ins x o).take k)) ?_ ?_ ?_⟩
      · exact ⟨same_new nD, [], upd_same, .nil⟩
      · rintro k H5 hk ⟨s5, cs, hD, hC⟩
        have hk1 : k < o.length + 1 := by omega
        refine ⟨rfl, ?_⟩
        have hob5 := s5 _ _ hob4
        refine ⟨_, rfl, _, rfl, ((k : Nat) : Int), by rw [Int.zero_add], b, _, rfl, SqL.of hob5, fun g1 n1 => ?_⟩
        rw [cut_to, ← List.map_take]
        have v1 := same_new (o := .lst ((o.take k).map V.str)) n1
        refine ⟨_, rfl, (by show 1 ≤ sizeLine; decide), fun g2 n2 => ?_⟩
        have v2 := same_new (o := .lst [V.str x]) n2
        refine ⟨g1, g2, _, _, rfl, rfl, v2 _ _ upd_same, upd_same, ?_, fun g3 n3 => ?_⟩
        · rw [List.length_map, List.length_take]
          exact Nat.le_of_lt (small1000 (by show _ + 1 ≤ _; omega))
        have v3 := same_new (o := .lst ((o.take k).map V.str ++ [V.str x])) n3
        have v13 := v1.trans (v2.trans v3)
        refine ⟨_, rfl, _, rfl, ((k : Nat) : Int), by rw [Int.zero_add], b, _, rfl, SqL.of (v13 _ _ hob5), fun g4 n4 => ?_⟩
        rw [cut_from, ← List.map_drop]
        have v4 := same_new (o := .lst ((o.drop k).map V.str)) n4
        refine ⟨g3, g4, _, _, rfl, rfl, v4 _ _ upd_same, upd_same, ?_, fun g5 n5 => ?_⟩
        · rw [List.length_append, List.length_map, List.length_map, List.length_take, List.length_drop]
          exact Nat.le_of_lt (small1000 (by show _ + 1 + _ ≤ _; omega))
        have v5 := same_new (o := .lst ((o.take k).map V.str ++ [V.str x] ++ (o.drop k).map V.str)) n5
        have v15 := v13.trans (v4.trans v5)
        have hD5 := v15 _ _ hD
        have hmo5 := (v13.trans v4) _ _ (s5 _ _ hmo)
        have g5D : g5 ≠ D := (ne_of_none ((v13.trans v4) _ _ hD) n5).symm
        have g5m : g5 ≠ mo := (ne_of_none hmo5 n5).symm
        refine ⟨_, hD5, ?_, same_mut (s5.trans v15) nD, cs ++ [g5], ?_, ?_⟩
        · rw [List.length_map, Paired.length hC, List.length_take]
          exact small1000 (by omega)
        · rw [upd_same, List.map_append]
          rfl
        · have et : (ins x o).take (k + 1) = (ins x o).take k ++ [o.take k ++ [x] ++ o.drop k] := by
            rw [List.take_add_one]
            unfold ins
            rw [List.getElem?_map, List.getElem?_range hk1]
            rfl
          rw [et]
          refine paired_snoc ⟨?_, fun h => ?_⟩ ((hC.same v15).mut List.mem_cons_self)
          · rw [upd_ne g5D, upd_same, List.map_append, List.map_append]
            rfl
          · rcases List.mem_cons.mp h with e | e
            · exact g5D e
            · exact g5m (List.mem_singleton.mp e)
      rintro H5 ⟨s5, cs, hD, hC⟩
      rw [Int.toNat_natCast, show o.length + 1 = (ins x o).length from (ins_len x o).symm, List.take_length] at hC
      have hmo5 := s5 _ _ hmo
      have hcl := Paired.length hC
      rw [ins_len] at hcl
      have et : (ors.take (j + 1)).flatMap (ins x) = (ors.take j).flatMap (ins x) ++ ins x o := by
        rw [List.take_add_one, ho, List.flatMap_append]
        show _ ++ List.flatMap (ins x) [o] = _
        rw [List.flatMap_cons, List.flatMap_nil, List.append_nil]
      refine ⟨mo, D, ms.map V.ref, cs.map V.ref, rfl, rfl, hmo5, hD, ?_, ?_⟩
      · rw [List.length_map, List.length_map, hcl, Paired.length hM]
        exact Nat.le_trans (show _ ≤ 10000 by omega) (by decide)
      · refine ⟨_, ms ++ cs, rfl, same_mut (s4.trans s5) nmo, by rw [upd_same, List.map_append], ?_, ?_⟩
        · rw [et]
          have hC2 : StrsN H5 [mo] cs (ins x o) := StrsN.av hC fun b _ h hm => h (List.mem_cons_of_mem _ hm)
          exact paired_app ((hM.same s5).mut List.mem_cons_self) (hC2.mut List.mem_cons_self)
        · rw [et, List.length_append, ins_len]
          omega
    · rintro σ H4 ⟨y4, ms, rfl, s4, hmo, hM, hml⟩
      rw [List.length_map, hosl, List.take_length] at hM hml
      refine ⟨_, rfl, mo, ms, ors.flatMap (ins x), _, _, _, rfl, sm.trans s4, sm.free nmo, hmo, StrsN.av hM fun _ _ _ h => (nomatch h), fun u => ?_, ?_⟩
      · rw [List.take_add_one, hx]
        exact ins_step hio u
      · rw [Nat.pow_succ]
        omega
  · rintro σ H3 ⟨fl, os, ors, y2, y3, y4, rfl, sm, nfl, hfl, hO, hio, hlo⟩
    rw [List.length_map, List.take_length] at hio
    rw [List.length_map] at hlo
    exact ⟨_, rfl, q fl os ors _ sm nfl hfl hO hio (Nat.le_trans hlo (Nat.le_trans (Nat.pow_le_pow_right (by decide) h5) (by decide)))⟩
/-! _law_keeps -/
abbrev s_law_keeps : Stmt := topS 17
theorem sc_law_keeps : FnScope ["order", "rows", "row", "name"] ["order", "rows"] (defScope s_law_keeps) := ⟨rfl, rfl, rfl, by decide +kernel, rfl, by decide +kernel, by decide +kernel⟩
def sp_keeps (K : PySem.W.Frag) : Sp := fun vs H Q _ => ∃ (l a : Addr) (as : List Addr) (rows : Rows) (line : List Str), vs = [.ref l, .ref a] ∧ SqL K H l (line.map V.str) ∧ RowsAt K H a as rows ∧ (∀ r ∈ rows, Ok r) ∧ Ok line ∧ line.length ≤ 1000 ∧
  ∀ H', Same H H' → Q (.bl (keepsB line rows)) H'
theorem ok_keeps (F : Def K mg "_law_keeps" ["order", "rows"] s_law_keeps) (M : MB mg) : Cl P w K mg base 1 "_law_keeps" (sp_keeps K) := by
  refine F.cl sc_law_keeps (fun vs H Q E h => ?_) (fun f cdv A outer s H vs Q E hr h => ?_)
  · obtain ⟨l, a, as, rows, line, rfl, _⟩ := h
    rfl
  obtain ⟨l, a, as, rows, line, rfl, hl, hR, okr, okl, hll, q⟩ := h
  have nd := sc_law_keeps.nd
  refine ⟨_, (pss_cons (ps_for PassesOwn.never rfl (pi_listK K (pv 1)) (pg_name (i := 2) nd rfl (Or.inr rfl)) (pss_one (ps_if (pt_cmpR (op_neK K hr.units) (pe_lc (own := [("name", 3)]) (g := gName 3) (by rfl) nd (pi_listK K (pv 0)) (blkOk_by (own := [("name", 3)]) (N := ["order", "rows", "row", "name"]) (sc := defScope s_law_keeps) (by decide +kernel)) (fun _ _ _ _ _ => (pg_name (i := 3) nd rfl (Or.inl rfl))) (fun _ _ _ _ _ => (pts_one (pt_cmpR (op_inK K) (pv 3) (pv 2) (by rfl)))) (fun _ _ _ _ _ => (pv 3))) (pv 2) (by rfl)) (pss_one (ps_ret pe_bl)) pss_nil)))
    (pss_one (ps_ret pe_bl))), ?_⟩
  refine ⟨_, rfl, a, rfl, ⟨_, hR.1⟩, for_list (xs := as.map V.ref) (fun i σ H' => ∃ y2, σ = [some (.ref l), some (.ref a), y2, none] ∧ Same H H' ∧ keepsB line (rows.take i) = true) ?_ ?_ ?_ ?_⟩
  · exact ⟨none, rfl, Same.refl H, rfl⟩
  · rintro i σ H' _ ⟨y2, rfl, sm, _⟩
    exact (hR.same sm).1
  · rintro i y σ H2 hy ⟨y2, rfl, sm, hk⟩
    obtain ⟨b, hb, rfl⟩ := ref_of hy
    obtain ⟨row, hrow, hS⟩ := (hR.same sm).2.get hb
    have hl2 := sm.seq hl
    refine ⟨_, rfl, l, rfl, ⟨_, hl2⟩, fun D nD => lc_list (xs := line.map V.str) (fun k H' => Same H2 H' ∧ H' D = some (.lst (((line.take k).filter (inRow row)).map V.str))) ?_ ?_ ?_ ?_⟩
    · exact ⟨same_new nD, upd_same⟩
    · rintro k H' _ ⟨s3, _⟩
      exact s3.seq hl2
    · rintro k y H' hy ⟨s3, hD⟩
      obtain ⟨x, hx, rfl⟩ := str_of hy
      have hk' := (List.getElem?_eq_some_iff.mp hx).1
      refine ⟨rfl, ?_⟩
      refine ⟨_, rfl, _, rfl, b, _, rfl, .inl (s3.seq hS), rfl, flat_strs _, _, rfl, ?_⟩
      show (if inV (V.str x) (row.map V.str) = true then _ else _)
      rw [inV_strs, List.take_add_one, hx, List.filter_append]
      by_cases cx : x ∈ row
      · refine yes (decide_eq_true cx) ?_
        refine ⟨_, rfl, _, hD, ?_, same_mut s3 nD, ?_⟩
        · have := List.length_filter_le (inRow row) (line.take k)
          rw [List.length_map]
          rw [List.length_take] at this
          exact small1000 (by omega)
        · rw [upd_same, List.map_append]
          show _ = some (HO.lst (_ ++ List.map V.str ([x].filter (inRow row))))
          rw [List.filter_cons, if_pos (show inRow row x = true from decide_eq_true cx)]
          rfl
      · refine no (by rw [decide_eq_false cx]; decide) ?_
        refine ⟨s3, ?_⟩
        rw [hD]
        show _ = some (HO.lst (List.map V.str (_ ++ [x].filter (inRow row))))
        rw [List.filter_cons, if_neg (show ¬ inRow row x = true by unfold inRow; rw [decide_eq_false cx]; decide)]
        show _ = some (HO.lst (List.map V.str (_ ++ [])))
        rw [List.append_nil]
    rintro H3 ⟨s3, hD⟩
    rw [List.length_map, List.take_length] at hD
    have okf : Ok (line.filter (inRow row)) := fun x hx => okl x (List.mem_filter.mp hx).1
    refine ⟨_, rfl, .list ((line.filter (inRow row)).map PyData.str), .list (row.map PyData.str), .lst (SqL.of hD) (dp_strs _), .lst (s3.seq hS) (dp_strs _), shaped_strs okf, shaped_strs (okr row (List.mem_of_getElem? hrow)), _, rfl, ?_⟩
    show (if (!PyData.eqvAll ((line.filter (inRow row)).map PyData.str) (row.map PyData.str)) = true then _ else _)
    rw [eqv_strs]
    by_cases ck : line.filter (inRow row) = row
    · refine no (by rw [decide_eq_true ck]; decide) ?_
      refine ⟨_, rfl, sm.trans s3, ?_⟩
      rw [keepsB_iff] at hk ⊢
      intro r hr
      rw [List.take_add_one, hrow] at hr
      rcases List.mem_append.mp hr with h | h
      · exact hk r h
      · rw [List.mem_singleton.mp h]
        exact ck
    · refine yes (by rw [decide_eq_false ck]; decide) ?_
      have z := q _ (sm.trans s3)
      rw [show keepsB line rows = false by
        cases e : keepsB line rows with
        | false => rfl
        | true => exact absurd ((keepsB_iff line rows).mp e row (List.mem_of_getElem? hrow)) ck] at z
      exact z
  · rintro σ H2 ⟨y2, rfl, sm, hk⟩
    rw [List.length_map, hR.2.len, List.take_length] at hk
    have z := q _ sm
    rw [hk] at z
    exact z
end
end Kin
namespace Kin
open PySem PySem.Spec PyProof.Rows L2 RZ
section
variable {P : Program} {w : World} {K : PySem.W.Frag} {mg : Str → Option Value} {base : Heap}
/-! _law_no_ring -/
abbrev s_law_no_ring : Stmt := topS 18
theorem sc_law_no_ring : FnScope ["rows", "known", "number", "row", "one", "two", "three", "at"] ["rows"] (defScope s_law_no_ring) := ⟨rfl, rfl, rfl, by decide +kernel, rfl, by decide +kernel, by decide +kernel⟩
def sp_no_ring (K : PySem.W.Frag) : Sp := fun vs H Q _ => ∃ (a : Addr) (as : List Addr) (rows : Rows), vs = [.ref a] ∧ RowsAt K H a as rows ∧ (∀ r ∈ rows, r.Nodup) ∧ rows.length ≤ 4 ∧ (∀ r ∈ rows, r.length ≤ 16) ∧ (∀ ds, ¬ IsRing rows ds) ∧
  ∀ H', Same H H' → Q (.bl true) H'
theorem ok_no_ring (F : Def K mg "_law_no_ring" ["rows"] s_law_no_ring) (M : MB mg) (c_is_ring : Cl P w K mg base 2 "is_ring" (sp_is_ring K)) : Cl P w K mg base 3 "_law_no_ring" (sp_no_ring K) := by
  refine F.cl sc_law_no_ring (fun vs H Q E h => ?_) (fun f cdv A outer s H vs Q E hr h => ?_)
  · obtain ⟨a, as, rows, rfl, _⟩ := h
    rfl
  obtain ⟨a, as, rows, rfl, hR, hnd, h4, h16, hno, q⟩ := h
  have nd := sc_law_no_ring.nd
  have m_range := M.m_range
  have m_len := M.m_len
  have m_enumerate := M.m_enumerate
  have nope : ∀ ds : List Dem, ringB rows (ds.map Dem.toI) = false := fun ds => by
    cases e : ringB rows (ds.map Dem.toI) with
    | false => rfl
    | true => exact absurd (ring_of hnd e) (hno ds)
  refine ⟨_, (pss_cons (ps_set (i := 1) nd rfl (Or.inl rfl) (pe_lst pa_nil))
    (pss_cons (ps_for PassesOwn.never rfl (pi_enumK K (by rfl) m_enumerate (pa_cons (pv 0) pa_nil)) (pg_tupK K 2 rfl (pgs_cons (pg_name (i := 2) nd rfl (Or.inr rfl)) (pgs_cons (pg_name (i := 3) nd rfl (Or.inr rfl)) pgs_nil))) (pss_one (ps_expr (pe_bmK K PySem.F.plainAttrs_list PySem.F.slot_list_extend PySem.F.type_list_extend mt_extend (pv 1) (pa_cons (pe_lc (own := [("at", 7)]) (g := gName 7) (tt := tYes) (by rfl) nd (pi_range1 (by rfl) m_range (pa_cons (pe_op op_sub (pe_callB (call_lenK K) (by rfl) m_len PySem.boot_len (pa_cons (pv 3) pa_nil)) pe_int) pa_nil)) (blkOk_by (own := [("at", 7)]) (N := ["rows", "known", "number", "row", "one", "two", "three", "at"]) (sc := defScope s_law_no_ring) (by decide +kernel)) (fun _ _ _ _ _ => (pg_name (i := 7) nd rfl (Or.inl rfl))) (fun _ _ _ _ _ => pts_nil) (fun _ _ _ _ _ => (pe_tup (pa_cons (pe_ix (ix_listK K) (pv 3) (pv 7) (fun _ _ => rfl)) (pa_cons (pe_ix (ix_listK K) (pv 3) (pe_op op_add (pv 7) pe_int) (fun _ _ => rfl)) (pa_cons (pv 2) pa_nil)))))) pa_nil)))))
    (pss_cons (ps_for PassesOwn.never rfl (pi_listK K (pv 1)) (pg_name (i := 4) nd rfl (Or.inl rfl)) (pss_cons (ps_if (pt_val (pe_cl c_is_ring hr (by decide) (by rfl) (pa_cons (pv 0) (pa_cons (pe_lst (pa_cons (pv 4) pa_nil)) pa_nil)))) (pss_one (ps_ret pe_bl)) pss_nil)
    (pss_one (ps_for PassesOwn.never rfl (pi_listK K (pv 1)) (pg_name (i := 5) nd rfl (Or.inl rfl)) (pss_cons (ps_if (pt_val (pe_cl c_is_ring hr (by decide) (by rfl) (pa_cons (pv 0) (pa_cons (pe_lst (pa_cons (pv 4) (pa_cons (pv 5) pa_nil))) pa_nil)))) (pss_one (ps_ret pe_bl)) pss_nil)
    (pss_one (ps_for PassesOwn.never rfl (pi_listK K (pe_slice (sl_listK K) (pv 1) po_none (po_some pe_int))) (pg_name (i := 6) nd rfl (Or.inl rfl)) (pss_one (ps_if (pt_val (pe_cl c_is_ring hr (by decide) (by rfl) (pa_cons (pv 0) (pa_cons (pe_lst (pa_cons (pv 4) (pa_cons (pv 5) (pa_cons (pv 6) pa_nil)))) pa_nil)))) (pss_one (ps_ret pe_bl)) pss_nil)))))))))
    (pss_one (ps_ret pe_bl))))), ?_⟩
  refine ⟨(by show 0 ≤ sizeLine; decide), fun kl nkl => ?_⟩
  have s1 := same_new (o := .lst []) nkl
  refine ⟨_, rfl, a, _, rfl, (hR.same s1).1, for_enum (xs := as.map V.ref) (fun i σ H' => ∃ y2 y3, σ = [some (.ref a), some (.ref kl), y2, y3, none, none, none, none] ∧ Same H H' ∧ ∃ ts ds, H' kl = some (.lst (ts.map V.ref)) ∧ DemsAt H' ts ds ∧ ds.length ≤ 16 * i) ?_ ?_ ?_ ?_⟩
  · exact ⟨none, none, rfl, s1, [], [], upd_same, .nil, Nat.le_refl 0⟩
  · rintro i σ H' _ ⟨y2, y3, rfl, sm, _⟩
    exact (hR.same sm).1
  · rintro i y σ H2 T hy ⟨y2, y3, rfl, sm, ts, ds, hk, hD, hl⟩ nT
    obtain ⟨b, hb, rfl⟩ := ref_of hy
    obtain ⟨row, hrow, hS⟩ := hR.2.get hb
    have hi := (List.getElem?_eq_some_iff.mp hrow).1
    have r16 := h16 row (List.mem_of_getElem? hrow)
    have s2 := same_new (o := .tup [.int (i : Nat), .ref b]) nT
    have sm2 := sm.trans s2
    have hk2 := s2 _ _ hk
    have hD2 := hD.same s2
    refine ⟨T, _, rfl, SqT.of upd_same, rfl, _, _, rfl, _, _, rfl, rfl, ?_⟩
    refine ⟨_, rfl, .inl ⟨rfl, _, SqL.of hk2⟩, ?_⟩
    refine ⟨_, rfl, b, _, rfl, .inl (sm2.seq hS), _, _, rfl, rfl, (row.length : Int) - 1, by rw [List.length_map], by omega, by omega, fun D nD => lc_range (lo := 0) (n := ((row.length : Int) - 1).toNat) (fun k H' => Same (upd H2 T (.tup [.int (i : Nat), .ref b])) H' ∧ ∃ us es, H' D = some (.lst (us.map V.ref)) ∧ DemsAt H' us es ∧ es.length ≤ k) ?_ ?_ ?_⟩
    · exact ⟨same_new nD, [], [], upd_same, .nil, Nat.le_refl 0⟩
    · rintro k H3 hk' ⟨s3, us, es, hDD, hE, hel⟩
      have hk1 : k + 1 < row.length := by omega
      have hS3 := (sm2.trans s3).seq hS
      refine ⟨rfl, ?_⟩
      refine ⟨_, rfl, _, rfl, b, _, _, .str row[k], rfl, rfl, hS3, at_of (j := k) (by rw [Int.zero_add]) (by rw [List.getElem?_map, List.getElem?_eq_getElem (by omega)]; rfl), ?_⟩
      refine ⟨_, rfl, _, rfl, _, _, rfl, rfl, b, _, _, .str row[k + 1], rfl, rfl, hS3, at_of (j := k + 1) (by rw [Int.zero_add]; rfl) (by rw [List.getElem?_map, List.getElem?_eq_getElem hk1]; rfl), ?_⟩
      refine ⟨_, rfl, (by show 3 ≤ sizeLine; decide), fun T2 nT2 => ?_⟩
      have s4 := same_new (o := .tup [.str row[k], .str row[k + 1], .int (i : Nat)]) nT2
      refine ⟨_, s4 _ _ hDD, ?_, same_mut (s3.trans s4) nD, us ++ [T2], es ++ [⟨row[k], row[k + 1], i⟩], ?_, ?_, ?_⟩
      · rw [List.length_map, Paired.length hE]
        exact small1000 (by omega)
      · rw [upd_same, List.map_append]
        rfl
      · refine paired_snoc ?_ ((hE.same s4).mut (s4 _ _ hDD))
        rw [upd_ne (ne_of (o := .tup [V.str row[k], V.str row[k + 1], .int (i : Nat)]) upd_same (s4 _ _ hDD) fun e => nomatch e)]
        exact upd_same
      · rw [List.length_append]
        show es.length + 1 ≤ k + 1
        omega
    rintro H3 ⟨s3, us, es, hDD, hE, hel⟩
    have hk3 := s3 _ _ hk2
    refine ⟨kl, D, ts.map V.ref, us.map V.ref, rfl, rfl, hk3, hDD, ?_, ?_⟩
    · rw [List.length_map, List.length_map, Paired.length hE, Paired.length hD]
      exact Nat.le_trans (show _ ≤ 10000 by omega) (by decide)
    · refine ⟨_, _, rfl, same_mut (sm2.trans s3) nkl, ts ++ us, ds ++ es, by rw [upd_same, List.map_append], paired_app ((hD2.same s3).mut hk3) (hE.mut hk3), ?_⟩
      rw [List.length_append]
      omega
  rintro σ H2 ⟨y2, y3, rfl, sm, ts, ds, hk, hD, hl⟩
  have hdl : ds.length ≤ 64 := by
    rw [List.length_map, hR.2.len] at hl
    omega
  refine ⟨_, rfl, kl, rfl, ⟨_, SqL.of hk⟩, for_list (xs := ts.map V.ref) (fun i σ H' => ∃ y2 y3 y4 y5 y6, σ = [some (.ref a), some (.ref kl), y2, y3, y4, y5, y6, none] ∧ Same H2 H') ?_ ?_ ?_ ?_⟩
  · exact ⟨y2, y3, none, none, none, rfl, Same.refl _⟩
  · rintro i σ H' _ ⟨y2, y3, y4, y5, y6, rfl, s3⟩
    exact SqL.of (s3 _ _ hk)
  · rintro i y σ H3 hy ⟨y2, y3, y4, y5, y6, rfl, s3⟩
    obtain ⟨t1, ht1, rfl⟩ := ref_of hy
    obtain ⟨d1, hd1, e1⟩ := Dems.get hD ht1
    refine ⟨_, rfl, _, rfl, (by show 1 ≤ sizeLine; decide), fun l1 n1 => ?_⟩
    have v1 := same_new (o := .lst [V.ref t1]) n1
    have w1 := s3.trans v1
    refine ⟨a, as, rows, l1, [t1], [d1].map Dem.toI, rfl, hR.same (sm.trans w1), upd_same, .cons (w1 _ _ e1) .nil, by show 1 ≤ 10000; decide, fun H4 s4 => ⟨_, rfl, no (by rw [nope]; decide) ?_⟩⟩
    have w4 := w1.trans s4
    refine ⟨_, rfl, kl, rfl, ⟨_, SqL.of (w4 _ _ hk)⟩, for_list (xs := ts.map V.ref) (fun i σ H' => ∃ y5 y6, σ = [some (.ref a), some (.ref kl), y2, y3, some (.ref t1), y5, y6, none] ∧ Same H2 H') ?_ ?_ ?_ ?_⟩
    · exact ⟨y5, y6, rfl, w4⟩
    · rintro i σ H' _ ⟨y5, y6, rfl, s5⟩
      exact SqL.of (s5 _ _ hk)
    · rintro i y σ H5 hy ⟨y5, y6, rfl, s5⟩
      obtain ⟨t2, ht2, rfl⟩ := ref_of hy
      obtain ⟨d2, hd2, e2⟩ := Dems.get hD ht2
      refine ⟨_, rfl, _, rfl, _, rfl, (by show 2 ≤ sizeLine; decide), fun l2 n2 => ?_⟩
      have w5 := s5.trans (same_new (o := .lst [V.ref t1, V.ref t2]) n2)
      refine ⟨a, as, rows, l2, [t1, t2], [d1, d2].map Dem.toI, rfl, hR.same (sm.trans w5), upd_same, .cons (w5 _ _ e1) (.cons (w5 _ _ e2) .nil), by show 2 ≤ 10000; decide, fun H6 s6 => ⟨_, rfl, no (by rw [nope]; decide) ?_⟩⟩
      have w6 := w5.trans s6
      refine ⟨_, rfl, 6, rfl, kl, _, rfl, SqL.of (w6 _ _ hk), fun g ng => ?_⟩
      rw [show cutV (ts.map V.ref) none (some 6) = (ts.take 6).map V.ref by rw [List.map_take]; exact cut_to _ 6]
      have w7 := w6.trans (same_new (o := .lst ((ts.take 6).map V.ref)) ng)
      have hg : upd H6 g (.lst ((ts.take 6).map V.ref)) g = some (.lst ((ts.take 6).map V.ref)) := upd_same
      generalize upd H6 g (.lst ((ts.take 6).map V.ref)) = H7 at w7 hg ⊢
      refine ⟨g, rfl, ⟨_, SqL.of hg⟩, for_list (xs := (ts.take 6).map V.ref) (fun i σ H' => ∃ y6, σ = [some (.ref a), some (.ref kl), y2, y3, some (.ref t1), some (.ref t2), y6, none] ∧ Same H7 H') ?_ ?_ ?_ ?_⟩
      · exact ⟨y6, rfl, Same.refl _⟩
      · rintro i σ H' _ ⟨y6, rfl, s8⟩
        exact SqL.of (s8 _ _ hg)
      · rintro i y σ H8 hy ⟨y6, rfl, s8⟩
        obtain ⟨t3, ht3, rfl⟩ := ref_of hy
        have ht3' : t3 ∈ ts := List.mem_of_mem_take (List.mem_of_getElem? ht3)
        obtain ⟨j3, hj3⟩ := List.mem_iff_getElem?.mp ht3'
        obtain ⟨d3, hd3, e3⟩ := Dems.get hD hj3
        refine ⟨_, rfl, _, rfl, _, rfl, _, rfl, (by show 3 ≤ sizeLine; decide), fun l3 n3 => ?_⟩
        have v9 := s8.trans (same_new (o := .lst [V.ref t1, V.ref t2, V.ref t3]) n3)
        have w9 := w7.trans v9
        refine ⟨a, as, rows, l3, [t1, t2, t3], [d1, d2, d3].map Dem.toI, rfl, hR.same (sm.trans w9), upd_same, .cons (w9 _ _ e1) (.cons (w9 _ _ e2) (.cons (w9 _ _ e3) .nil)), by show 3 ≤ 10000; decide, fun H9 s9 => ⟨_, rfl, no (by rw [nope]; decide) ?_⟩⟩
        exact ⟨_, rfl, v9.trans s9⟩
      · rintro σ H8 ⟨y6, rfl, s8⟩
        exact ⟨_, _, rfl, w7.trans s8⟩
    · rintro σ H5 ⟨y5, y6, rfl, s5⟩
      exact ⟨_, _, _, _, _, rfl, s5⟩
  · rintro σ H3 ⟨y2, y3, y4, y5, y6, rfl, s3⟩
    exact q _ (sm.trans s3)
end
end Kin
namespace Kin
open PySem PySem.Spec PyProof.Rows L2 RZ
def Told (H : Hp) (rows : Rows) (t l : Addr) : Prop := (∃ line, merged rows = some line ∧ H t = some (.tup [.str "line", .ref l]) ∧ H l = some (.lst (line.map V.str)) ∧ line.length ≤ 1000 ∧ Ok line) ∨
    (merged rows = none ∧ ∃ ts ds, H t = some (.tup [.str "ring", .ref l]) ∧ H l = some (.lst (ts.map V.ref)) ∧ DemsAt H ts ds ∧ IsRing rows ds ∧ ds.length ≤ 1000)
theorem cr_sortedSK {X : Cx} (K : PySem.W.Frag) (h : X.K = K := by rfl) : CallR X (.builtin "sorted") (rSortedS K) := by subst h; exact cr_sortedS
def sp_told (K : PySem.W.Frag) : Sp := fun vs H Q _ => ∃ (a : Addr) (as : List Addr) (rows : Rows), vs = [.ref a] ∧ RowsAt K H a as rows ∧ (∀ r ∈ rows, Ok r) ∧ rows.length ≤ 1000 ∧ total rows ≤ 1000 ∧
  ∀ (t l : Addr) H', Same H H' → H t = none → H l = none → t ≠ l → Told H' rows t l → Q (.ref t) H'
theorem told_of {K : PySem.W.Frag} (vs : List V) (H : Hp) (Q : VK) (E : XK) (h : sp_told K vs H Q E) : sp_merge K vs H Q E := by
  obtain ⟨a, as, rows, e, hR, ok, h1, h2, q⟩ := h
  refine ⟨a, as, rows, e, hR, ok, h1, h2, fun line hm t l H' s nt nl htl ht hl => ?_, fun hm t l ts ds H' s nt nl htl ht hl hD hI hdl => q t l H' s nt nl htl (.inr ⟨hm, ts, ds, ht, hl, hD, hI, hdl⟩)⟩
  obtain ⟨m1, m2⟩ := merged_mem hm
  exact q t l H' s nt nl htl (.inl ⟨line, hm, ht, hl, by omega, fun x hx => by
    obtain ⟨r, hr, hxr⟩ := m1 x hx
    exact ok r hr x hxr⟩)
section
variable {P : Program} {w : World} {K : PySem.W.Frag} {mg : Str → Option Value} {base : Heap}
/-! _law_right -/
abbrev s_law_right : Stmt := topS 19
theorem sc_law_right : FnScope ["rows", "names", "row", "found", "right", "orders", "name", "order"] ["rows"] (defScope s_law_right) := ⟨rfl, rfl, rfl, by decide +kernel, rfl, by decide +kernel, by decide +kernel⟩
def sp_right (K : PySem.W.Frag) : Sp := fun vs H Q _ => ∃ (a : Addr) (as : List Addr) (rows : Rows) (xs : List Str), vs = [.ref a] ∧ RowsAt K H a as rows ∧ (∀ r ∈ rows, r.Nodup) ∧ (∀ r ∈ rows, Ok r) ∧ rows.length ≤ 16 ∧ (∀ r ∈ rows, r.length ≤ 16) ∧ (∀ r ∈ rows, ∀ x ∈ r, x ∈ xs) ∧ xs.length ≤ 16 ∧
  ∀ H', Same H H' → Q (.bl true) H'
theorem ok_right (F : Def K mg "_law_right" ["rows"] s_law_right) (M : MB mg) (m_sorted : mg "sorted" = none) (c_merge0 : Cl P w K mg base 3 "merge" (sp_merge K)) (c_is_ring : Cl P w K mg base 2 "is_ring" (sp_is_ring K)) (c_law_keeps : Cl P w K mg base 1 "_law_keeps" (sp_keeps K)) (c_law_no_ring : Cl P w K mg base 3 "_law_no_ring" (sp_no_ring K)) (c_law_all_orders : Cl P w K mg base 1 "_law_all_orders" (sp_all_orders K)) : Cl P w K mg base 4 "_law_right" (sp_right K) := by
  refine F.cl sc_law_right (fun vs H Q E h => ?_) (fun f cdv A outer s H vs Q E hr h => ?_)
  · obtain ⟨a, as, rows, xs, rfl, _⟩ := h
    rfl
  obtain ⟨a, as, rows, xs, rfl, hR, hnd, okr, hlen, hr16, hsub, hxl, q⟩ := h
  have nd := sc_law_right.nd
  have m_len := M.m_len
  have c_merge := c_merge0.imp told_of
  have hal : as.length = rows.length := hR.2.len
  have tot : total rows ≤ 1000 := Nat.le_trans (total_small hlen hr16) (by decide)
  refine ⟨_, (pss_cons (ps_set (i := 1) nd rfl (Or.inr rfl) (pe_lst pa_nil))
    (pss_cons (ps_for PassesOwn.never rfl (pi_listK K (pv 0)) (pg_name (i := 2) nd rfl (Or.inl rfl)) (pss_one (ps_set (i := 1) nd rfl (Or.inr rfl) (pe_op op_cat (pv 1) (pe_lc (own := [("name", 6)]) (g := gName 6) (by rfl) nd (pi_listK K (pv 2)) (blkOk_by (own := [("name", 6)]) (N := ["rows", "names", "row", "found", "right", "orders", "name", "order"]) (sc := defScope s_law_right) (by decide +kernel)) (fun _ _ _ _ _ => (pg_name (i := 6) nd rfl (Or.inl rfl))) (fun _ _ _ _ _ => (pts_one (pt_cmpR (op_notInK K) (pv 6) (pv 1) (by rfl)))) (fun _ _ _ _ _ => (pv 6)))))))
    (pss_cons (ps_set (i := 3) nd rfl (Or.inl rfl) (pe_cl c_merge hr (by decide) (by rfl) (pa_cons (pv 0) pa_nil)))
    (pss_cut' (ps_if (pt_cmpR op_eq (pe_ix (ix_tupK K) (pv 3) pe_int (fun _ _ => rfl)) pe_str (by rfl)) (pss_one (ps_set (i := 4) nd rfl (Or.inl rfl) (pe_cmpR op_is_bl (pe_cl c_is_ring hr (by decide) (by rfl) (pa_cons (pv 0) (pa_cons (pe_ix (ix_tupK K) (pv 3) pe_int (fun _ _ => rfl)) pa_nil))) pe_bl (by rfl)))) (pss_one (ps_set (i := 4) nd rfl (Or.inl rfl) (pe_and (pe_cmpR (op_eqK K hr.units) (pe_callB (cr_sortedSK K) (by rfl) m_sorted (by decide +kernel) (pa_cons (pe_ix (ix_tupK K) (pv 3) pe_int (fun _ _ => rfl)) pa_nil)) (pe_callB (cr_sortedSK K) (by rfl) m_sorted (by decide +kernel) (pa_cons (pv 1) pa_nil)) (by rfl)) (pe_and (pe_cl c_law_keeps hr (by decide) (by rfl) (pa_cons (pe_ix (ix_tupK K) (pv 3) pe_int (fun _ _ => rfl)) (pa_cons (pv 0) pa_nil))) (pe_one (pe_cl c_law_no_ring hr (by decide) (by rfl) (pa_cons (pe_slice (sl_listK K) (pv 0) po_none (po_some pe_int)) pa_nil))))))))
    (pss_cons (ps_if (pt_cmpR op_lt (pe_callB (call_lenK K) (by rfl) m_len PySem.boot_len (pa_cons (pv 1) pa_nil)) pe_int (by rfl)) (pss_cons (ps_setLc (i := 5) (own := [("order", 7)]) (g := gName 7) (by rfl) nd rfl rfl (sw_true rfl rfl rfl (by decide +kernel)) (pi_listK K (pe_cl c_law_all_orders hr (by decide) (by rfl) (pa_cons (pv 1) pa_nil))) (blkOk_by (own := [("order", 7)]) (N := ["rows", "names", "row", "found", "right", "orders", "name", "order"]) (sc := defScope s_law_right) (by decide +kernel)) (fun _ _ _ _ _ => (pg_name (i := 7) nd rfl (Or.inl rfl))) (fun _ _ _ _ _ => (pts_one (pt_val (pe_cl c_law_keeps hr (by decide) (by rfl) (pa_cons (pv 7) (pa_cons (pv 0) pa_nil)))))) (fun _ _ _ _ _ => (pv 7)))
    (pss_one (ps_set (i := 4) nd rfl (Or.inl rfl) (pe_and (pv 4) (pe_one (pe_cmpR op_eq (pe_cmpR (op_neK K hr.units) (pv 5) (pe_lst pa_nil) (by rfl)) (pe_cmpR op_eq (pe_ix (ix_tupK K) (pv 3) pe_int (fun _ _ => rfl)) pe_str (by rfl)) (by rfl))))))) pss_nil)
    (pss_one (ps_ret (pv 4)))))))), ?_⟩
  -- names
  refine ⟨(by show 0 ≤ sizeLine; decide), fun nl0 nnl0 => ?_⟩
  have s0 := same_new (o := .lst []) nnl0
  refine ⟨_, rfl, a, rfl, ⟨_, (hR.same s0).1⟩, for_list (xs := as.map V.ref) (fun j σ H3 => ∃ (y2 : Option V) (nl : Addr) (nm : List Str), σ = [some (.ref a), some (.ref nl), y2, none, none, none, none, none] ∧ Same H H3 ∧ H nl = none ∧ H3 nl = some (.lst (nm.map V.str)) ∧ nm.Nodup ∧ (∀ x, x ∈ nm ↔ ∃ r ∈ rows.take j, x ∈ r)) ?_ ?_ ?_ ?_⟩
  · refine ⟨none, nl0, [], rfl, s0, nnl0, upd_same, List.nodup_nil, fun x => ⟨fun h => (nomatch h), fun ⟨r, h, _⟩ => ?_⟩⟩
    rw [List.take_zero] at h
    cases h
  · rintro j σ H3 _ ⟨y2, nl, nm, rfl, s3, _⟩
    exact (hR.same s3).1
  · rintro j y σ H3 hy ⟨y2, nl, nm, rfl, s3, nnl, hnl, ndn, hmem⟩
    obtain ⟨b, hb, rfl⟩ := ref_of hy
    obtain ⟨row, hrow, hSb⟩ := (hR.same s3).2.get hb
    have hrm := List.mem_of_getElem? hrow
    have r16 := hr16 row hrm
    have nm16 : nm.length ≤ 16 := Nat.le_trans (ndn.length_le_of_subset fun x hx => by
      obtain ⟨r, hr, hxr⟩ := (hmem x).mp hx
      exact hsub r (List.mem_of_mem_take hr) x hxr) hxl
    refine ⟨_, rfl, _, rfl, b, rfl, ⟨_, hSb⟩, fun D nD => lc_list (xs := row.map V.str) (fun k H4 => Same H3 H4 ∧ H4 D = some (.lst (((row.take k).filter fun x => !decide (x ∈ nm)).map V.str))) ?_ ?_ ?_ ?_⟩
    · exact ⟨same_new nD, upd_same⟩
    · rintro k H4 _ ⟨s4, _⟩
      exact s4.seq hSb
    · rintro k y H4 hy ⟨s4, hDD⟩
      obtain ⟨x, hx, rfl⟩ := str_of hy
      have hk := (List.getElem?_eq_some_iff.mp hx).1
      refine ⟨rfl, ?_⟩
      refine ⟨_, rfl, _, rfl, nl, _, rfl, .inl (SqL.of (s4 _ _ hnl)), rfl, flat_strs _, _, rfl, ?_⟩
      show (if (!inV (V.str x) (nm.map V.str)) = true then _ else _)
      rw [inV_strs, List.take_add_one, hx, List.filter_append]
      by_cases cx : x ∈ nm
      · refine no (by rw [decide_eq_true cx]; decide) ?_
        refine ⟨s4, ?_⟩
        rw [hDD]
        show _ = some (HO.lst (List.map V.str (_ ++ List.filter _ [x])))
        rw [List.filter_cons, if_neg (by rw [decide_eq_true cx]; decide)]
        show _ = some (HO.lst (List.map V.str (_ ++ [])))
        rw [List.append_nil]
      · refine yes (by rw [decide_eq_false cx]; decide) ?_
        refine ⟨_, rfl, _, hDD, ?_, same_mut s4 nD, ?_⟩
        · have := List.length_filter_le (fun x => !decide (x ∈ nm)) (row.take k)
          rw [List.length_map]
          rw [List.length_take] at this
          exact small1000 (by omega)
        · rw [upd_same, List.map_append]
          show _ = some (HO.lst (_ ++ List.map V.str (List.filter _ [x])))
          rw [List.filter_cons, if_pos (by rw [decide_eq_false cx]; decide)]
          rfl
    rintro H4 ⟨s4, hDD⟩
    rw [List.length_map, List.take_length] at hDD
    have hfl := List.length_filter_le (fun x => !decide (x ∈ nm)) row
    refine ⟨nl, D, _, _, rfl, rfl, s4 _ _ hnl, hDD, ?_, fun g ng => ?_⟩
    · rw [List.length_map, List.length_map]
      exact Nat.le_of_lt (small1000 (by omega))
    refine ⟨_, g, nm ++ row.filter (fun x => !decide (x ∈ nm)), rfl, (s3.trans s4).trans (same_new ng), (s3.trans s4).free ng, by rw [upd_same, List.map_append], ?_, fun x => ?_⟩
    · refine List.nodup_append.mpr ⟨ndn, (hnd row hrm).filter _, fun u hu v hv e => ?_⟩
      rw [List.mem_filter, ← e, decide_eq_true hu] at hv
      cases hv.2
    · rw [List.mem_append, List.mem_filter, List.take_add_one, hrow]
      constructor
      · rintro (h | ⟨h1, _⟩)
        · obtain ⟨r, h1, h2⟩ := (hmem x).mp h
          exact ⟨r, List.mem_append.mpr (.inl h1), h2⟩
        · exact ⟨row, List.mem_append.mpr (.inr (List.mem_singleton.mpr rfl)), h1⟩
      · rintro ⟨r, h1, h2⟩
        rcases List.mem_append.mp h1 with h | h
        · exact .inl ((hmem x).mpr ⟨r, h, h2⟩)
        · have h : r = row := List.mem_singleton.mp h
          rw [h] at h2
          by_cases cx : x ∈ nm
          · exact .inl cx
          · exact .inr ⟨h2, by rw [decide_eq_false cx]; rfl⟩
  rintro σ H3 ⟨y2, nl, nm, rfl, s3, nnl, hnl, ndn, hmem⟩
  rw [List.length_map, hal, List.take_length] at hmem
  have hsn : ∀ x ∈ nm, x ∈ xs := fun x hx => by
    obtain ⟨r, hr, hxr⟩ := (hmem x).mp hx
    exact hsub r hr x hxr
  have nm16 : nm.length ≤ 16 := Nat.le_trans (ndn.length_le_of_subset fun x hx => hsn x hx) hxl
  have okn : Ok nm := fun x hx => by
    obtain ⟨r, hr, hxr⟩ := (hmem x).mp hx
    exact okr r hr x hxr
  -- found
  refine ⟨_, rfl, a, as, rows, rfl, hR.same s3, okr, by omega, tot, fun t l H4 s4 nt nl' htl hT => ?_⟩
  have s04 := s3.trans s4
  have hnl4 := s4 _ _ hnl
  refine ⟨fun σ H' => ∃ x0 : Str, σ = [some (.ref a), some (.ref nl), y2, some (.ref t), some (.bl true), none, none, none] ∧ Same H4 H' ∧ H' t = some (.tup [.str x0, .ref l]) ∧ ((x0 = "line" ∧ ∃ line : List Str, line.Perm nm ∧ keepsB line rows = true) ∨ (x0 = "ring" ∧ ∃ ds, IsRing rows ds)), ?_, ?_⟩
  · rcases hT with ⟨line, hm, ht, hl, h1000, okl⟩ | ⟨hm, ts, ds, ht, hl, hD, hI, hdl⟩
    · refine ⟨_, rfl, t, _, _, .str "line", rfl, rfl, SqT.of ht, at_of (j := 0) rfl rfl, rfl, _, rfl, ?_⟩
      refine no (by decide) ?_
      obtain ⟨hk, lnd⟩ := merged_keeps hm hnd
      have hkB : keepsB line rows = true := (keepsB_iff line rows).mpr hk
      have hp : line.Perm nm := perm_names lnd ndn fun x => by
        rw [hmem]
        exact ⟨fun h => (merged_mem hm).1 x h, fun ⟨r, hr, hxr⟩ => mem_keeps (hk r hr) hxr⟩
      have l16 : line.length ≤ 16 := by rw [hp.length_eq]; exact nm16
      refine ⟨_, rfl, t, _, _, .ref l, rfl, rfl, SqT.of ht, at_of (j := 1) rfl rfl, l, line, rfl, SqL.of hl, by omega, fun ys1 p1 hy1 hs1 n1 => ?_⟩
      have v1 := same_new (o := .lst (ys1.map V.str)) n1
      refine ⟨_, rfl, nl, nm, rfl, SqL.of (v1 _ _ hnl4), by omega, fun ys2 p2 hy2 hs2 n2 => ?_⟩
      have v2 := same_new (o := .lst (ys2.map V.str)) n2
      have v12 := v1.trans v2
      have okys : ∀ {ys : List Str}, ys.Perm line → Ok ys := fun h x hx => okl x (h.mem_iff.mp hx)
      have e12 : ys1 = ys2 := sorted_eq hs1 hs2 (hy1.trans (hp.trans hy2.symm))
      refine ⟨.list (ys1.map PyData.str), .list (ys2.map PyData.str), .lst (SqL.of (v2 _ _ upd_same)) (dp_strs _), .lst (SqL.of upd_same) (dp_strs _), shaped_strs (okys hy1), shaped_strs (okys (hy2.trans hp.symm)), ?_⟩
      refine ⟨_, rfl, ?_⟩
      show (if PyData.eqvAll (ys1.map PyData.str) (ys2.map PyData.str) = true then _ else _)
      rw [eqv_strs]
      refine yes (decide_eq_true e12) ?_
      refine ⟨_, rfl, t, _, _, .ref l, rfl, rfl, SqT.of (v12 _ _ ht), at_of (j := 1) rfl rfl, _, rfl, l, a, as, rows, line, rfl, SqL.of (v12 _ _ hl), hR.same (s04.trans v12), okr, okl, h1000, fun H5 s5 => ⟨_, rfl, yes hkB ?_⟩⟩
      have s45 := v12.trans s5
      have hR5 := hR.same (s04.trans s45)
      refine ⟨_, rfl, 4, rfl, a, _, rfl, hR5.1, fun g ng => ?_⟩
      rw [show cutV (as.map V.ref) none (some 4) = (as.take 4).map V.ref by rw [List.map_take]; exact cut_to _ 4]
      have v3 := same_new (o := .lst ((as.take 4).map V.ref)) ng
      refine ⟨g, as.take 4, rows.take 4, rfl, ⟨SqL.of upd_same, paired_take 4 (hR5.same v3).2⟩, fun r hr => hnd r (List.mem_of_mem_take hr), by rw [List.length_take]; omega, fun r hr => hr16 r (List.mem_of_mem_take hr), fun es hE => no_ring lnd (fun r hr => hk r (List.mem_of_mem_take hr)) hE, fun H6 s6 => ?_⟩
      exact ⟨"line", rfl, (s45.trans v3).trans s6, ((s45.trans v3).trans s6) _ _ ht, .inl ⟨rfl, line, hp, hkB⟩⟩
    · refine ⟨_, rfl, t, _, _, .str "ring", rfl, rfl, SqT.of ht, at_of (j := 0) rfl rfl, rfl, _, rfl, ?_⟩
      refine yes (by decide) ?_
      refine ⟨_, rfl, _, rfl, t, _, _, .ref l, rfl, rfl, SqT.of ht, at_of (j := 1) rfl rfl, a, as, rows, l, ts, ds.map Dem.toI, rfl, hR.same s04, hl, demsI_of hD, by rw [List.length_map]; omega, fun H5 s5 => ?_⟩
      refine ⟨_, _, rfl, rfl, ?_⟩
      rw [ring_true hI]
      exact ⟨"ring", rfl, s5, s5 _ _ ht, .inr ⟨rfl, ds, hI⟩⟩
  rintro σ H5 ⟨x0, rfl, s5, ht5, hx0⟩
  have s05 := s04.trans s5
  have hnl5 := s5 _ _ hnl4
  refine ⟨_, rfl, nl, _, rfl, .inl (SqL.of hnl5), _, _, rfl, rfl, _, rfl, ?_⟩
  by_cases c6 : nm.length < 6
  rotate_left
  · refine no (by rw [decide_eq_false (by show ¬ (((nm.map V.str).length : Nat) : Int) < 6; rw [List.length_map]; omega)]; decide) ?_
    exact ⟨_, rfl, q _ s05⟩
  refine yes (decide_eq_true (by show (((nm.map V.str).length : Nat) : Int) < 6; rw [List.length_map]; omega)) ?_
  refine ⟨_, rfl, nl, nm, rfl, hnl5, by omega, fun ol os ors H6 s6 nol hol hO hio hlo => ?_⟩
  have s06 := s05.trans s6
  have okO : ∀ o ∈ ors, Ok o ∧ o.length ≤ 16 := fun o ho => ⟨fun x hx => okn x (((hio o).mp ho).mem_iff.mp hx), by rw [((hio o).mp ho).length_eq]; exact nm16⟩
  refine ⟨ol, rfl, ⟨_, SqL.of hol⟩, fun D nD => lc_list (xs := os.map V.ref) (fun j H' => Same H6 H' ∧ ∃ cs, H' D = some (.lst (cs.map V.ref)) ∧ StrsN H' [D] cs ((ors.take j).filter fun o => keepsB o rows)) ?_ ?_ ?_ ?_⟩
  · exact ⟨same_new nD, [], upd_same, .nil⟩
  · rintro j H' _ ⟨s7, _⟩
    exact SqL.of (s7 _ _ hol)
  · rintro j y H' hy ⟨s7, cs, hD, hC⟩
    obtain ⟨b, hb, rfl⟩ := ref_of hy
    obtain ⟨o, ho, hob, _⟩ := hO.get hb
    have hj := (List.getElem?_eq_some_iff.mp ho).1
    have hom := List.mem_of_getElem? ho
    have hbD : b ≠ D := ne_of_none hob nD
    refine ⟨rfl, ?_⟩
    refine ⟨_, rfl, _, rfl, b, a, as, rows, o, rfl, SqL.of (s7 _ _ hob), hR.same (s06.trans s7), okr, (okO o hom).1, by have := (okO o hom).2; omega, fun H8 s8 => ⟨_, rfl, ?_⟩⟩
    rw [List.take_add_one, ho, List.filter_append]
    have s78 := s7.trans s8
    have hD8 := s8 _ _ hD
    have hC8 := hC.same s8
    have hcl : cs.length ≤ 7776 := by
      have := List.length_filter_le (fun o => keepsB o rows) (ors.take j)
      rw [← Paired.length hC, List.length_take] at this
      omega
    by_cases ck : keepsB o rows = true
    · refine yes ck ?_
      refine ⟨_, rfl, _, hD8, ?_, same_mut s78 nD, cs ++ [b], ?_, ?_⟩
      · rw [List.length_map]
        exact Nat.lt_of_le_of_lt hcl (by decide)
      · rw [upd_same, List.map_append]
        rfl
      · show StrsN _ _ _ (_ ++ [o].filter _)
        rw [List.filter_cons, if_pos ck]
        refine paired_snoc ⟨?_, fun h => hbD (List.mem_singleton.mp h)⟩ (hC8.mut List.mem_cons_self)
        rw [upd_ne hbD]
        exact s78 _ _ hob
    · refine no ck ?_
      refine ⟨s78, cs, hD8, ?_⟩
      show StrsN _ _ _ (_ ++ [o].filter _)
      rw [List.filter_cons, if_neg ck]
      show StrsN _ _ _ (_ ++ [])
      rw [List.append_nil]
      exact hC8
  rintro H7 ⟨s7, cs, hD, hC⟩
  rw [show (os.map V.ref).length = ors.length by rw [List.length_map]; exact Paired.length hO, List.take_length] at hC
  have okf : ∀ r ∈ ors.filter (fun o => keepsB o rows), Ok r := fun r hr => (okO r (List.mem_filter.mp hr).1).1
  refine ⟨_, rfl, _, rfl, yes rfl ?_⟩
  refine ⟨_, rfl, (by show 0 ≤ sizeLine; decide), fun l0 nl0 => ?_⟩
  have u1 := same_new (o := .lst []) nl0
  have s57 := (s6.trans s7).trans u1
  refine ⟨.list ((ors.filter fun o => keepsB o rows).map rowD), .list ([].map rowD), .lst (SqL.of (u1 _ _ hD)) (dp_rows (hC.same u1).strs), .lst (SqL.of upd_same) .nil, shaped_rows okf, by decide +kernel, ?_⟩
  refine ⟨_, rfl, t, _, _, .str x0, rfl, rfl, SqT.of (s57 _ _ ht5), at_of (j := 0) rfl rfl, rfl, ?_⟩
  refine ⟨rfl, ?_⟩
  have fin : decide (V.bl (!PyData.eqv (.list ((ors.filter fun o => keepsB o rows).map rowD)) (.list ([].map rowD))) = V.bl (decide (V.str x0 = V.str "line"))) = true := by
    show decide (V.bl (!PyData.eqvAll ((ors.filter fun o => keepsB o rows).map rowD) ([].map rowD)) = V.bl (decide (V.str x0 = V.str "line"))) = true
    rw [eqv_rows]
    rcases hx0 with ⟨rfl, line, hp, hkB⟩ | ⟨rfl, ds, hI⟩
    · have hne : ors.filter (fun o => keepsB o rows) ≠ [] := fun e => by
        have : line ∈ ors.filter (fun o => keepsB o rows) := List.mem_filter.mpr ⟨(hio line).mpr hp, hkB⟩
        rw [e] at this
        cases this
      rw [decide_eq_false hne]
      decide
    · have he : ors.filter (fun o => keepsB o rows) = [] := List.filter_eq_nil_iff.mpr fun o ho hk => no_ring (((hio o).mp ho).nodup_iff.mpr ndn) ((keepsB_iff o rows).mp hk) hI
      rw [decide_eq_true he]
      decide
  have z := q _ (s05.trans s57)
  rw [← fin] at z
  exact ⟨_, rfl, z⟩
end
end Kin
namespace Kin
open PySem PySem.Spec PyProof.Rows L2 RZ
theorem StrsN.go {p c : Addr} {ns : List Int} {H H' : Hp} {as : List Addr} {rows : Rows} (G : Go p c ns H H') (h : StrsN H [p] as rows) : StrsN H' [p] as rows := Paired.mapP h fun b _ z => ⟨G.get (fun e => z.2 (List.mem_singleton.mpr e)) z.1, z.2⟩
theorem any_rowD (r : List Str) : ∀ xs : Rows, ((xs.map rowD).any fun z => PyData.eqv z (rowD r)) = decide (r ∈ xs)
  | [] => by
    rw [decide_eq_false List.not_mem_nil]
    rfl
  | y :: t => by
    rw [List.map_cons, List.any_cons, any_rowD r t]
    show (PyData.eqvAll (y.map PyData.str) (r.map PyData.str) || decide (r ∈ t)) = decide (r ∈ y :: t)
    rw [eqv_strs]
    by_cases e : y = r
    · rw [decide_eq_true e, Bool.true_or, decide_eq_true (by rw [e]; exact List.mem_cons_self)]
    · rw [decide_eq_false e, Bool.false_or]
      by_cases c : r ∈ t
      · rw [decide_eq_true c, decide_eq_true (List.mem_cons_of_mem _ c)]
      · rw [decide_eq_false c, decide_eq_false fun h => (List.mem_cons.mp h).elim (fun q => e q.symm) c]
theorem ahead_get {r : List Str} {m n : Nat} (h : m < n) (hn : n < r.length) : Ahead r r[m] r[n] := by
  refine ⟨r.take m, r.drop (m + 1), ?_, List.mem_iff_getElem?.mpr ⟨n - (m + 1), ?_⟩⟩
  · have h3 := List.take_append_drop m r
    rw [List.drop_eq_getElem_cons (show m < r.length by omega)] at h3
    exact h3.symm
  · rw [List.getElem?_drop, show m + 1 + (n - (m + 1)) = n by omega, List.getElem?_eq_getElem hn]
theorem op_notInDK {X : Cx} (K : PySem.W.Frag) (hu : X.A.units + 65 < cLine) (h : X.K = K := by rfl) : OpR X (compareOp .NotIn) (rNotInD K) := by subst h; exact op_notInD hu
section
variable {P : Program} {w : World} {K : PySem.W.Frag} {mg : Str → Option Value} {base : Heap}
/-! _law_turned_right -/
abbrev s_law_turned_right : Stmt := topS 20
theorem sc_law_turned_right : FnScope ["pot", "rows", "wide", "row", "at", "other", "more", "found"] ["pot", "rows"] (defScope s_law_turned_right) := ⟨rfl, rfl, rfl, by decide +kernel, rfl, by decide +kernel, by decide +kernel⟩
def sp_turned (K : PySem.W.Frag) : Sp := fun vs H Q _ => ∃ (p c : Addr) (ns : List Int) (a : Addr) (as : List Addr) (rows : Rows), vs = [.ref p, .ref a] ∧ Pot H p c ns ∧ H a = some (.lst (as.map V.ref)) ∧ a ≠ p ∧ StrsN H [p] as rows ∧ (∀ r ∈ rows, r.Nodup) ∧ (∀ r ∈ rows, Ok r) ∧ rows.length ≤ 16 ∧ (∀ r ∈ rows, r.length ≤ 16) ∧
  ∀ H', Go p c ns H H' → Q (.bl true) H'
theorem ok_turned (F : Def K mg "_law_turned_right" ["pot", "rows"] s_law_turned_right) (M : MB mg) (c_law_pick : Cl P w K mg base 2 "_law_pick" sp_law_pick) (c_merge0 : Cl P w K mg base 3 "merge" (sp_merge K)) (c_is_ring : Cl P w K mg base 2 "is_ring" (sp_is_ring K)) : Cl P w K mg base 4 "_law_turned_right" (sp_turned K) := by
  refine F.cl sc_law_turned_right (fun vs H Q E h => ?_) (fun f cdv A outer s H vs Q E hr h => ?_)
  · obtain ⟨p, c, ns, a, as, rows, rfl, _⟩ := h
    rfl
  obtain ⟨p, c, ns, a, as, rows, rfl, hP, ha, nap, hB, hnd, okr, hlen, hr16, q⟩ := h
  have nd := sc_law_turned_right.nd
  have m_len := M.m_len
  have c_merge := c_merge0.imp told_of
  have hal : as.length = rows.length := Paired.length hB
  have h65 : (A.deeper (envOfC (Str.ofString "_law_turned_right") (defScope s_law_turned_right) s.heap.objs.size f cdv)).units + 65 < cLine := by
    have := hr.un
    omega
  refine ⟨_, (pss_cons (ps_setLc (i := 2) (own := [("row", 3)]) (g := gName 3) (by rfl) nd rfl rfl (sw_true rfl rfl rfl (by decide +kernel)) (pi_listK K (pv 1)) (blkOk_by (own := [("row", 3)]) (N := ["pot", "rows", "wide", "row", "at", "other", "more", "found"]) (sc := defScope s_law_turned_right) (by decide +kernel)) (fun _ _ _ _ _ => (pg_name (i := 3) nd rfl (Or.inl rfl))) (fun _ _ _ _ _ => (pts_one (pt_cmpR op_gt (pe_callB (call_lenK K) (by rfl) m_len PySem.boot_len (pa_cons (pv 3) pa_nil)) pe_int (by rfl)))) (fun _ _ _ _ _ => (pv 3)))
    (pss_cons (ps_if (pt_cmpR (op_eqK K hr.units) (pv 2) (pe_lst pa_nil) (by rfl)) (pss_one (ps_ret pe_bl)) pss_nil)
    (pss_cons (ps_set (i := 3) nd rfl (Or.inl rfl) (pe_ix (ix_listK K) (pv 2) (pe_cl c_law_pick hr (by decide) (by rfl) (pa_cons (pv 0) (pa_cons (pe_callB (call_lenK K) (by rfl) m_len PySem.boot_len (pa_cons (pv 2) pa_nil)) pa_nil))) (fun _ _ => rfl)))
    (pss_cons (ps_set (i := 4) nd rfl (Or.inl rfl) (pe_cl c_law_pick hr (by decide) (by rfl) (pa_cons (pv 0) (pa_cons (pe_op op_sub (pe_callB (call_lenK K) (by rfl) m_len PySem.boot_len (pa_cons (pv 3) pa_nil)) pe_int) pa_nil))))
    (pss_cons (ps_set (i := 5) nd rfl (Or.inl rfl) (pe_op op_add (pe_op op_add (pv 4) pe_int) (pe_cl c_law_pick hr (by decide) (by rfl) (pa_cons (pv 0) (pa_cons (pe_op op_sub (pe_op op_sub (pe_callB (call_lenK K) (by rfl) m_len PySem.boot_len (pa_cons (pv 3) pa_nil)) pe_int) (pv 4)) pa_nil)))))
    (pss_cons (ps_set (i := 6) nd rfl (Or.inl rfl) (pe_op op_cat (pe_slice (sl_listK K) (pv 1) po_none (po_some pe_int)) (pe_lst (pa_cons (pe_lst (pa_cons (pe_ix (ix_listK K) (pv 3) (pv 5) (fun _ _ => rfl)) (pa_cons (pe_ix (ix_listK K) (pv 3) (pv 4) (fun _ _ => rfl)) pa_nil))) pa_nil))))
    (pss_cons (ps_if (pt_cmpR (op_notInDK K h65) (pv 3) (pe_slice (sl_listK K) (pv 1) po_none (po_some pe_int)) (by rfl)) (pss_one (ps_ret pe_bl)) pss_nil)
    (pss_cons (ps_set (i := 7) nd rfl (Or.inl rfl) (pe_cl c_merge hr (by decide) (by rfl) (pa_cons (pv 6) pa_nil)))
    (pss_one (ps_ret (pe_and (pe_cmpR op_eq (pe_ix (ix_tupK K) (pv 7) pe_int (fun _ _ => rfl)) pe_str (by rfl)) (pe_one (pe_cmpR op_is_bl (pe_cl c_is_ring hr (by decide) (by rfl) (pa_cons (pv 6) (pa_cons (pe_ix (ix_tupK K) (pv 7) pe_int (fun _ _ => rfl)) pa_nil))) pe_bl (by rfl)))))))))))))), ?_⟩
  have hP0 := Go.refl hP
  -- wide
  refine ⟨_, rfl, a, rfl, ⟨_, SqL.of ha⟩, fun D nD => lc_list (xs := as.map V.ref) (fun i H9 => Same H H9 ∧ ∃ cs, H9 D = some (.lst (cs.map V.ref)) ∧ StrsN H9 [D, p] cs ((rows.take i).filter fun r => decide (1 < r.length))) ?_ ?_ ?_ ?_⟩
  · exact ⟨same_new nD, [], upd_same, .nil⟩
  · rintro i H9 _ ⟨s9, _⟩
    exact SqL.of (s9 _ _ ha)
  · rintro i y H9 hy ⟨s9, cs, hD, hC⟩
    obtain ⟨b, hb, rfl⟩ := ref_of hy
    obtain ⟨row, hrow, hS, hbp⟩ := hB.get hb
    have hi := (List.getElem?_eq_some_iff.mp hrow).1
    have hbD : b ≠ D := ne_of_none hS nD
    refine ⟨rfl, ?_⟩
    refine ⟨_, rfl, b, _, rfl, .inl (SqL.of (s9 _ _ hS)), _, _, rfl, rfl, _, rfl, ?_⟩
    show (if decide ((1 : Int) < (((row.map V.str).length : Nat) : Int)) = true then _ else _)
    rw [List.length_map, List.take_add_one, hrow, List.filter_append]
    by_cases cx : 1 < row.length
    · refine yes (decide_eq_true (by omega)) ?_
      refine ⟨_, rfl, _, hD, ?_, same_mut s9 nD, cs ++ [b], ?_, ?_⟩
      · have := List.length_filter_le (fun r : List Str => decide (1 < r.length)) (rows.take i)
        rw [List.length_map, Paired.length hC]
        rw [List.length_take] at this
        exact small1000 (by omega)
      · rw [upd_same, List.map_append]
        rfl
      · show StrsN _ _ _ (_ ++ [row].filter _)
        rw [List.filter_cons, if_pos (decide_eq_true cx)]
        refine paired_snoc ⟨?_, fun h => ?_⟩ (hC.mut List.mem_cons_self)
        · rw [upd_ne hbD]
          exact s9 _ _ hS
        · rcases List.mem_cons.mp h with e | e
          · exact hbD e
          · exact hbp e
    · refine no (by rw [decide_eq_false (by omega)]; decide) ?_
      refine ⟨s9, cs, hD, ?_⟩
      show StrsN _ _ _ (_ ++ [row].filter _)
      rw [List.filter_cons, if_neg (by rw [decide_eq_false cx]; decide)]
      show StrsN _ _ _ (_ ++ [])
      rw [List.append_nil]
      exact hC
  rintro H9 ⟨s9, cs, hD, hC⟩
  rw [show (as.map V.ref).length = rows.length by rw [List.length_map]; exact hal, List.take_length] at hC
  have G9 := hP0.same s9
  have nDp : D ≠ p := hP.nep nD
  have okw : ∀ r ∈ rows.filter (fun r => decide (1 < r.length)), Ok r := fun r hr => okr r (List.mem_filter.mp hr).1
  have hwl := List.length_filter_le (fun r : List Str => decide (1 < r.length)) rows
  have hcl := Paired.length hC
  -- wide == []
  refine ⟨_, rfl, (by show 0 ≤ sizeLine; decide), fun l0 nl0 => ?_⟩
  have u1 := same_new (o := .lst []) nl0
  refine ⟨.list ((rows.filter fun r => decide (1 < r.length)).map rowD), .list ([].map rowD), .lst (SqL.of (u1 _ _ hD)) (dp_rows (hC.same u1).strs), .lst (SqL.of upd_same) .nil, shaped_rows okw, by decide +kernel, _, rfl, ?_⟩
  show (if PyData.eqvAll ((rows.filter fun r => decide (1 < r.length)).map rowD) ([].map rowD) = true then _ else _)
  rw [eqv_rows]
  by_cases cw : (rows.filter fun r => decide (1 < r.length)) = []
  · refine yes (decide_eq_true cw) ?_
    exact q _ (G9.same u1)
  refine no (by rw [decide_eq_false cw]; decide) ?_
  have wpos : 0 < (rows.filter fun r => decide (1 < r.length)).length := List.length_pos_iff.mpr cw
  have G10 := G9.same u1
  have hD10 := u1 _ _ hD
  have hC10 : StrsN _ [p] cs _ := StrsN.av (hC.same u1) fun b _ h hm => h (List.mem_cons_of_mem _ hm)
  generalize upd H9 l0 (.lst []) = H10 at G10 hD10 hC10 ⊢
  -- row
  refine ⟨_, rfl, _, rfl, _, rfl, D, _, rfl, .inl (SqL.of hD10), p, c, ns, _, rfl, G10.pot, ?_, fun r H11 r0 r1 G11 => ?_⟩
  · rw [List.length_map, hcl]
    exact mny (by omega) (by omega)
  rw [List.length_map, hcl] at r1
  obtain ⟨k, rfl⟩ : ∃ n : Nat, r = (n : Int) := ⟨r.toNat, by omega⟩
  have hk : k < cs.length := by omega
  have hD11 := G11.get nDp hD10
  obtain ⟨row, hrow, hS, hbp⟩ := hC10.get (List.getElem?_eq_getElem hk)
  have hbp : cs[k] ≠ p := fun e => hbp (List.mem_singleton.mpr e)
  obtain ⟨hrm, hr1⟩ := List.mem_filter.mp (List.mem_of_getElem? hrow)
  have hr1 : 1 < row.length := of_decide_eq_true hr1
  have r16 := hr16 row hrm
  have hS11 := G11.get hbp hS
  refine ⟨D, _, _, .ref cs[k], rfl, rfl, SqL.of hD11, at_of (j := k) rfl (by rw [List.getElem?_map, List.getElem?_eq_getElem hk]; rfl), ?_⟩
  have G11' := G10.trans G11
  -- at
  refine ⟨_, rfl, _, rfl, cs[k], _, rfl, .inl (SqL.of hS11), _, _, rfl, rfl, p, c, ns, _, rfl, G11'.pot, ?_, fun at_ H12 a0 a1 G12 => ?_⟩
  · rw [List.length_map]
    exact mny (by omega) (by omega)
  rw [List.length_map] at a1
  obtain ⟨m, rfl⟩ : ∃ n : Nat, at_ = (n : Int) := ⟨at_.toNat, by omega⟩
  have hS12 := G12.get hbp hS11
  have G12' := G11'.trans G12
  -- other
  refine ⟨_, rfl, _, _, rfl, rfl, _, rfl, _, rfl, cs[k], _, rfl, .inl (SqL.of hS12), _, _, rfl, rfl, _, rfl, _, _, rfl, rfl, p, c, ns, _, rfl, G12'.pot, ?_, fun ot H13 b0 b1 G13 => ?_⟩
  · rw [List.length_map]
    exact mny (by omega) (by omega)
  rw [List.length_map] at b1
  obtain ⟨n, rfl⟩ : ∃ n : Nat, ot = (n : Int) := ⟨ot.toNat, by omega⟩
  refine ⟨_, _, rfl, rfl, ?_⟩
  have hS13 := G13.get hbp hS12
  have G13' := G12'.trans G13
  have ha13 := G13'.get nap ha
  have hB13 := hB.go G13'
  have hm : m < row.length := by omega
  have hot : m + 1 + n < row.length := by omega
  -- more
  refine ⟨_, rfl, 15, rfl, a, _, rfl, SqL.of ha13, fun g0 n0 => ?_⟩
  rw [show cutV (as.map V.ref) none (some 15) = (as.take 15).map V.ref by rw [List.map_take]; exact cut_to _ 15]
  have v0 := same_new (o := .lst ((as.take 15).map V.ref)) n0
  refine ⟨_, rfl, _, rfl, cs[k], _, _, .str row[m + 1 + n], rfl, rfl, SqL.of (v0 _ _ hS13), at_of (j := m + 1 + n) rfl (by rw [List.getElem?_map, List.getElem?_eq_getElem hot]; rfl), _, rfl, _, rfl, cs[k], _, _, .str row[m], rfl, rfl, SqL.of (v0 _ _ hS13), at_of (j := m) rfl (by rw [List.getElem?_map, List.getElem?_eq_getElem hm]; rfl), (by show 2 ≤ sizeLine; decide), fun g1 n1 => ⟨(by show 1 ≤ sizeLine; decide), fun g2 n2 => ?_⟩⟩
  have v1 := same_new (o := .lst [V.str row[m + 1 + n], V.str row[m]]) n1
  have v2 := same_new (o := .lst [V.ref g1]) n2
  refine ⟨g0, g2, _, _, rfl, rfl, (v1.trans v2) _ _ upd_same, upd_same, ?_, fun mo n3 => ?_⟩
  · rw [List.length_map, List.length_take]
    exact Nat.le_of_lt (small1000 (by show _ + 1 ≤ _; omega))
  have v3 := same_new (o := .lst ((as.take 15).map V.ref ++ [V.ref g1])) n3
  have v03 := v0.trans (v1.trans (v2.trans v3))
  have hg1 := (v2.trans v3) _ _ (upd_same (o := .lst ([row[m + 1 + n], row[m]].map V.str)))
  have hmo := (upd_same (H := upd (upd (upd H13 g0 (.lst ((as.take 15).map V.ref))) g1 (.lst [V.str row[m + 1 + n], V.str row[m]])) g2 (.lst [V.ref g1])) (a := mo) (o := .lst ((as.take 15).map V.ref ++ [V.ref g1])))
  have hB14 := hB13.same v03
  have ha14 := v03 _ _ ha13
  have hS14 := v03 _ _ hS13
  have G14 := G13'.same v03
  have hRm : RowsAt K (upd (upd (upd (upd H13 g0 (.lst ((as.take 15).map V.ref))) g1 (.lst [V.str row[m + 1 + n], V.str row[m]])) g2 (.lst [V.ref g1])) mo (.lst ((as.take 15).map V.ref ++ [V.ref g1]))) mo (as.take 15 ++ [g1]) (rows.take 15 ++ [[row[m + 1 + n], row[m]]]) := ⟨SqL.of (by rw [hmo, List.map_append]; rfl), Strs.snoc (paired_take 15 hB14.strs) (SqL.of hg1)⟩
  generalize upd (upd (upd (upd H13 g0 (.lst ((as.take 15).map V.ref))) g1 (.lst [V.str row[m + 1 + n], V.str row[m]])) g2 (.lst [V.ref g1])) mo (.lst ((as.take 15).map V.ref ++ [V.ref g1])) = H14 at hB14 ha14 hS14 G14 hRm ⊢
  -- row not in rows[:15]
  refine ⟨_, rfl, _, rfl, 15, rfl, a, _, rfl, SqL.of ha14, fun g4 n4 => ?_⟩
  rw [show cutV (as.map V.ref) none (some 15) = (as.take 15).map V.ref by rw [List.map_take]; exact cut_to _ 15]
  have v4 := same_new (o := .lst ((as.take 15).map V.ref)) n4
  refine ⟨rowD row, (rows.take 15).map rowD, .lst (SqL.of (v4 _ _ hS14)) (dp_strs _), .lst (SqL.of upd_same) (dp_rows (paired_take 15 (hB14.same v4).strs)), shaped_strs (okr row hrm), shaped_rows (fun r hr => okr r (List.mem_of_mem_take hr)), _, rfl, ?_⟩
  rw [any_rowD]
  by_cases cr : row ∈ rows.take 15
  rotate_left
  · refine yes (by rw [decide_eq_false cr]; decide) ?_
    exact q _ (G14.same v4)
  refine no (by rw [decide_eq_true cr]; decide) ?_
  have okm : ∀ r ∈ rows.take 15 ++ [[row[m + 1 + n], row[m]]], Ok r := fun r hr => by
    rcases List.mem_append.mp hr with h | h
    · exact okr r (List.mem_of_mem_take h)
    · rw [List.mem_singleton.mp h]
      intro x hx
      rcases List.mem_cons.mp hx with e | e
      · rw [e]; exact okr row hrm _ (List.getElem_mem hot)
      · rw [List.mem_singleton.mp e]; exact okr row hrm _ (List.getElem_mem hm)
  have hne : row[m + 1 + n] ≠ row[m] := fun e => by
    have h1 := nd_ix (hnd row hrm) (List.getElem?_eq_getElem hot) (by rw [List.getElem?_eq_getElem hm, e])
    omega
  have ndm : ∀ r ∈ rows.take 15 ++ [[row[m + 1 + n], row[m]]], r.Nodup := fun r hr => by
    rcases List.mem_append.mp hr with h | h
    · exact hnd r (List.mem_of_mem_take h)
    · rw [List.mem_singleton.mp h]
      exact List.nodup_cons.mpr ⟨fun h => hne (List.mem_singleton.mp h), List.nodup_cons.mpr ⟨List.not_mem_nil, List.nodup_nil⟩⟩
  have hmn : merged (rows.take 15 ++ [[row[m + 1 + n], row[m]]]) = none := turned_none (r := row) (l := [row[m + 1 + n], row[m]]) (u := row[m]) (v := row[m + 1 + n]) ndm (List.mem_append.mpr (.inl cr)) (ahead_sub (ahead_get (by omega) hot)) (List.mem_append.mpr (.inr (List.mem_singleton.mpr rfl))) (List.Sublist.refl _)
  have ml : (rows.take 15 ++ [[row[m + 1 + n], row[m]]]).length ≤ 16 := by
    rw [List.length_append, List.length_take]
    show _ + 1 ≤ 16
    omega
  have totm : total (rows.take 15 ++ [[row[m + 1 + n], row[m]]]) ≤ 1000 := Nat.le_trans (total_small ml fun r hr => by
    rcases List.mem_append.mp hr with h | h
    · exact hr16 r (List.mem_of_mem_take h)
    · rw [List.mem_singleton.mp h]; show 2 ≤ 16; decide) (by decide)
  refine ⟨_, rfl, mo, _, _, rfl, hRm.same v4, okm, by omega, totm, fun t l H15 s15 nt nl htl hT => ?_⟩
  rcases hT with ⟨line, hml, _⟩ | ⟨_, ts, ds, ht, hl, hDt, hI, hdl⟩
  · rw [hmn] at hml
    cases hml
  refine ⟨_, rfl, t, _, _, .str "ring", rfl, rfl, SqT.of ht, at_of (j := 0) rfl rfl, rfl, _, rfl, yes (by decide) ?_⟩
  refine ⟨_, rfl, _, rfl, t, _, _, .ref l, rfl, rfl, SqT.of ht, at_of (j := 1) rfl rfl, mo, _, _, l, ts, ds.map Dem.toI, rfl, (hRm.same v4).same s15, hl, demsI_of hDt, by rw [List.length_map]; omega, fun H16 s16 => ?_⟩
  refine ⟨_, _, rfl, rfl, ?_⟩
  rw [ring_true hI]
  exact q _ (((G14.same v4).same s15).same s16)
end
end Kin
namespace Kin
open PySem PySem.Spec PyProof.Rows L2 RZ
/-- rows in the heap, as the law draws them -/
def GR (H : Hp) (p r : Addr) : Prop := ∃ (as : List Addr) (rows : Rows) (xs : List Str), H r = some (.lst (as.map V.ref)) ∧ r ≠ p ∧ StrsN H [p] as rows ∧ (∀ r ∈ rows, r.Nodup) ∧ (∀ r ∈ rows, Ok r) ∧ rows.length ≤ 16 ∧ (∀ r ∈ rows, r.length ≤ 16) ∧ (∀ r ∈ rows, ∀ x ∈ r, x ∈ xs) ∧ xs.length ≤ 16
theorem GR.go {p c : Addr} {ns : List Int} {H H' : Hp} {r : Addr} (h : GR H p r) (G : Go p c ns H H') : GR H' p r := by
  obtain ⟨as, rows, xs, h1, h2, h3, h4⟩ := h
  exact ⟨as, rows, xs, G.get h2 h1, h2, h3.go G, h4⟩
theorem GR.of {p rl : Addr} {H H' : Hp} {c : Addr} {ns : List Int} {as : List Addr} {rows : Rows} {xs : List Str} (hP : Pot H p c ns) (nrl : H rl = none) (hrl : H' rl = some (.lst (as.map V.ref))) (hF : FreshN H rl H' as rows) (hlen : rows.length ≤ 16) (hok : ∀ r ∈ rows, RowOk xs r) (hxl : xs.length ≤ 16) (hxm : ∀ x ∈ xs, IsName x) : GR H' p rl :=
  ⟨as, rows, xs, hrl, hP.nep nrl, Paired.mapP hF fun b _ z => ⟨z.2, fun e => hP.nep z.1.1 (List.mem_singleton.mp e)⟩, fun r hr => (hok r hr).nd, fun r hr x hx => (hxm x ((hok r hr).sub x hx)).ok, hlen, fun r hr => Nat.le_trans (hok r hr).len hxl, fun r hr => (hok r hr).sub, hxl⟩
section
variable {P : Program} {w : World} {K : PySem.W.Frag} {mg : Str → Option Value} {base : Heap}
/-! law -/
abbrev s_law : Stmt := topS 21
theorem sc_law : FnScope ["script", "pot", "turn", "names", "rows", "k", "row", "share", "some", "at", "name"] ["script"] (defScope s_law) := ⟨rfl, rfl, rfl, by decide +kernel, rfl, by decide +kernel, by decide +kernel⟩
def sp_law (K : PySem.W.Frag) : Sp := fun vs H Q _ => ∃ (a : Addr) (ns : List Int), vs = [.ref a] ∧ SqL K H a (ns.map V.int) ∧ ns.length ≤ 63 ∧ ∀ H', Q (.bl true) H'
theorem ok_law {f : Addr} {fd : FuncData} (F : Fun K "law" "law" s_law f fd) (M : MB mg) (m_sorted : mg "sorted" = none) (c_law_pot : Cl P w K mg base 1 "_law_pot" (sp_law_pot K)) (c_law_pick : Cl P w K mg base 2 "_law_pick" sp_law_pick) (c_law_rows : Cl P w K mg base 5 "_law_rows" sp_law_rows) (c_law_names : Cl P w K mg base 4 "_law_names" sp_law_names) (c_law_order : Cl P w K mg base 3 "_law_order" sp_law_order)
    (c_law_right : Cl P w K mg base 4 "_law_right" (sp_right K)) (c_law_turned_right : Cl P w K mg base 4 "_law_turned_right" (sp_turned K)) :
    FnOk P w K mg base CX0 6 f fd ["script"] (sp_law K) := by
  refine F.ok sc_law (fun vs H Q E h => ?_) (fun cdv A outer s H vs Q E hr h => ?_)
  · obtain ⟨a, ns, rfl, _⟩ := h
    rfl
  obtain ⟨a, ns0, rfl, hS, h63, q⟩ := h
  have nd := sc_law.nd
  have m_range := M.m_range
  have m_len := M.m_len
  refine ⟨_, (pss_cons (ps_set (i := 1) nd rfl (Or.inr rfl) (pe_cl c_law_pot hr (by decide) (by rfl) (pa_cons (pv 0) pa_nil)))
    (pss_cons (ps_for PassesOwn.never rfl (pi_range1 (by rfl) m_range (pa_cons pe_int pa_nil)) (pg_name (i := 2) nd rfl (Or.inl rfl)) (pss_cons (ps_set (i := 3) nd rfl (Or.inr rfl) (pe_cl c_law_names hr (by decide) (by rfl) (pa_cons (pv 1) (pa_cons (pe_op op_add pe_int (pe_cl c_law_pick hr (by decide) (by rfl) (pa_cons (pv 1) (pa_cons pe_int pa_nil)))) pa_nil))))
    (pss_cons (ps_set (i := 4) nd rfl (Or.inl rfl) (pe_lst pa_nil))
    (pss_cons (ps_for PassesOwn.never rfl (pi_range1 (by rfl) m_range (pa_cons (pe_cl c_law_pick hr (by decide) (by rfl) (pa_cons (pv 1) (pa_cons pe_int pa_nil))) pa_nil)) (pg_name (i := 5) nd rfl (Or.inl rfl)) (pss_cons (ps_setLc (i := 6) (own := [("at", 9)]) (g := gName 9) (tt := tYes) (by rfl) nd rfl rfl (sw_true rfl rfl rfl (by decide +kernel)) (pi_listK K (pe_cl c_law_order hr (by decide) (by rfl) (pa_cons (pv 1) (pa_cons (pe_callB (call_lenK K) (by rfl) m_len PySem.boot_len (pa_cons (pv 3) pa_nil)) pa_nil)))) (blkOk_by (own := [("at", 9)]) (N := ["script", "pot", "turn", "names", "rows", "k", "row", "share", "some", "at", "name"]) (sc := defScope s_law) (by decide +kernel)) (fun _ _ _ _ _ => (pg_name (i := 9) nd rfl (Or.inl rfl))) (fun _ _ _ _ _ => pts_nil) (fun _ _ _ _ _ => (pe_ix (ix_listK K) (pv 3) (pv 9) (fun _ _ => rfl))))
    (pss_cons (ps_set (i := 7) nd rfl (Or.inr rfl) (pe_op op_add pe_int (pe_cl c_law_pick hr (by decide) (by rfl) (pa_cons (pv 1) (pa_cons pe_int pa_nil)))))
    (pss_cut' (ps_set (i := 6) nd rfl (Or.inl rfl) (pe_ifExp (pt_cmpR op_eq (pe_cl c_law_pick hr (by decide) (by rfl) (pa_cons (pv 1) (pa_cons pe_int pa_nil))) pe_int (by rfl)) (pe_callB (cr_sortedSK K) (by rfl) m_sorted (by decide +kernel) (pa_cons (pv 6) pa_nil)) (pv 6)))
    (pss_one (ps_expr (pe_bmK K PySem.F.plainAttrs_list PySem.F.slot_list_append PySem.F.type_list_append mt_append (pv 4) (pa_cons (pe_lc (own := [("name", 10)]) (g := gName 10) (by rfl) nd (pi_listK K (pv 6)) (blkOk_by (own := [("name", 10)]) (N := ["script", "pot", "turn", "names", "rows", "k", "row", "share", "some", "at", "name"]) (sc := defScope s_law) (by decide +kernel)) (fun _ _ _ _ _ => (pg_name (i := 10) nd rfl (Or.inl rfl))) (fun _ _ _ _ _ => (pts_one (pt_cmpR op_lt (pe_cl c_law_pick hr (by decide) (by rfl) (pa_cons (pv 1) (pa_cons pe_int pa_nil))) (pv 7) (by rfl)))) (fun _ _ _ _ _ => (pv 10))) pa_nil))))))))
    (pss_one (ps_for PassesOwn.never rfl (pi_listK K (pe_lst (pa_cons (pv 4) (pa_cons (pe_cl c_law_rows hr (by decide) (by rfl) (pa_cons (pv 1) pa_nil)) pa_nil)))) (pg_name (i := 8) nd rfl (Or.inl rfl)) (pss_one (ps_if (PW.pt (pw_or (pt_not (pt_val (pe_cl c_law_right hr (by decide) (by rfl) (pa_cons (pv 8) pa_nil)))) (pw_or1 (pt_not (pt_val (pe_cl c_law_turned_right hr (by decide) (by rfl) (pa_cons (pv 1) (pa_cons (pv 8) pa_nil)))))))) (pss_one (ps_ret pe_bl)) pss_nil))))))))
    (pss_one (ps_ret pe_bl)))), ?_⟩
  refine ⟨_, rfl, a, ns0, rfl, hS, h63, fun p c ns H1 _ _ _ hP => ?_⟩
  refine ⟨3, rfl, by decide, by decide, for_range (lo := 0) (n := (3 : Int).toNat) (fun i σ H' => ∃ (y2 y3 y4 y5 y6 y7 y8 : Option V), σ = [some (.ref a), some (.ref p), y2, y3, y4, y5, y6, y7, y8, none, none] ∧ Pot H' p c ns) ?_ ?_ ?_⟩
  · exact ⟨none, none, none, none, none, none, none, rfl, hP⟩
  · rintro i σ H _ ⟨y2, y3, y4, y5, y6, y7, y8, rfl, hP⟩
    -- names
    refine ⟨_, rfl, _, rfl, p, c, ns, _, rfl, hP, mny (by decide) (by decide), fun m H3 m0 m1 G3 => ⟨_, _, rfl, rfl, ?_⟩⟩
    obtain ⟨m, rfl⟩ : ∃ n : Nat, m = (n : Int) := ⟨m.toNat, by omega⟩
    have em : ((1 : Int) + (m : Int)) = ((1 + m : Nat) : Int) := by omega
    refine ⟨p, c, ns, 1 + m, (by show [V.ref p, V.int ((1 : Int) + (m : Int))] = [V.ref p, V.int ((1 + m : Nat) : Int)]; rw [em]), G3.pot, by omega, fun nl xs H4 G4 nnl hnl hxl hxn hxm => ?_⟩
    have G34 := G3.trans G4
    refine ⟨(by show 0 ≤ sizeLine; decide), fun rl nrl => ?_⟩
    have R0 : RS p c ns H nl xs rl [] [] (upd H4 rl (.lst [])) :=
      ⟨G34.new nrl, same_new nrl _ _ hnl, G3.free nnl, upd_same, G34.free nrl, ne_of_none hnl nrl, .nil⟩
    have xs5 : xs.length ≤ 5 := by omega
    refine ⟨_, rfl, p, c, ns, _, rfl, R0.go.pot, mny (by decide) (by decide), fun n H6 n0 n1 G6 => ?_⟩
    have R3 := R0.step G6
    refine ⟨n, rfl, by omega, by omega, for_range (lo := 0) (n := n.toNat) (fun k σ H' => ∃ (y5 y6 y7 : Option V) (as : List Addr) (rows : Rows), σ = [some (.ref a), some (.ref p), some (.int ((0 : Int) + (i : Int))), some (.ref nl), some (.ref rl), y5, y6, y7, y8, none, none] ∧ RS p c ns H nl xs rl as rows H' ∧ rows.length = k ∧ ∀ r ∈ rows, RowOk xs r) ?_ ?_ ?_⟩
    · exact ⟨y5, y6, y7, [], [], rfl, R3, rfl, fun r h => nomatch h⟩
    · rintro k σ H' hk ⟨y5, y6, y7, as, rows, rfl, R, hlen, hok⟩
      have hk7 : k < 7 := by omega
      refine ⟨_, rfl, _, rfl, nl, _, rfl, .inl (SqL.of R.hn), p, c, ns, xs.length, (by rw [List.length_map]; rfl), R.go.pot, by omega, fun ol ks H7 G7 nol hol hperm => ⟨ol, rfl, ⟨_, SqL.of hol⟩, fun D nD => lc_list (xs := ks.map nV) (fun j H8 => Same H7 H8 ∧ H8 D = some (.lst (((ks.take j).map fun k => xs.getD k (mk [])).map V.str))) ?_ ?_ ?_ ?_⟩⟩
      · exact ⟨same_new nD, upd_same⟩
      · rintro j H8 _ ⟨sm, _⟩
        exact SqL.of (sm _ _ hol)
      · rintro j x H8 hx ⟨sm, hD⟩
        obtain ⟨kk, hkk, rfl⟩ : ∃ k, ks[j]? = some k ∧ x = nV k := by
          rw [List.getElem?_map] at hx
          cases e : ks[j]? with
          | none => rw [e] at hx; cases hx
          | some z => rw [e] at hx; exact ⟨z, rfl, (Option.some.inj hx).symm⟩
        have hkm : kk < xs.length := List.mem_range.mp (hperm.mem_iff.mp (List.mem_of_getElem? hkk))
        have hjl := (List.getElem?_eq_some_iff.mp hkk).1
        have hkl : ks.length = xs.length := by rw [hperm.length_eq, List.length_range]
        have hf : H8 nl = some (.lst (xs.map V.str)) := sm _ _ (R.step G7).hn
        refine ⟨rfl, ?_⟩
        refine ⟨_, rfl, _, rfl, nl, _, _, V.str (xs.getD kk (mk [])), rfl, rfl, SqL.of hf, at_of (j := kk) rfl ?_, _, hD, ?_, same_mut sm nD, ?_⟩
        · rw [List.getElem?_map, List.getD_eq_getElem?_getD, List.getElem?_eq_getElem hkm]
          rfl
        · rw [List.length_map, List.length_map, List.length_take]
          exact small1000 (by omega)
        · rw [upd_same, List.take_add_one, hkk, List.map_append, List.map_append]
          rfl
      rintro H8 ⟨sm, hD⟩
      rw [List.length_map, List.take_length] at hD
      have hp := picks_perm (mk []) (ks := ks) xs hperm
      generalize (ks.map fun k => xs.getD k (mk [])) = zs at hD hp
      have ok0 : RowOk xs zs := (RowOk.sublist hxn (List.Sublist.refl xs)).perm hp
      have R7 := R.step G7
      have R8 := R7.same sm
      have A8 : Av H nl rl as D := R7.fresh nD
      -- share
      refine ⟨_, rfl, p, c, ns, _, rfl, R8.go.pot, mny (by decide) (by decide), fun sh H9 s0 s1 G9 => ⟨_, _, rfl, rfl, ?_⟩⟩
      have R9 := R8.step G9
      have hD9 := G9.get (hP.nep A8.n0) hD
      refine ⟨fun σ H' => ∃ (rw_ : Addr) (zs : List Str), σ = [some (.ref a), some (.ref p), some (.int ((0 : Int) + (i : Int))), some (.ref nl), some (.ref rl), some (.int ((0 : Int) + (k : Int))), some (.ref rw_), some (.int (1 + sh)), y8, none, none] ∧ RS p c ns H nl xs rl as rows H' ∧ RowOk xs zs ∧ H rw_ = none ∧ H' rw_ = some (.lst (zs.map V.str)), ?_, ?_⟩
      · refine ⟨_, rfl, p, c, ns, _, rfl, R9.go.pot, mny (by decide) (by decide), fun r H10 _ _ G10 => ⟨rfl, _, rfl, ?_⟩⟩
        have R10 := R9.step G10
        have hD10 := G10.get (hP.nep A8.n0) hD9
        by_cases cr : V.int r = V.int 0
        · refine yes (decide_eq_true cr) ?_
          refine ⟨_, rfl, D, zs, rfl, SqL.of hD10, by have := ok0.len; omega, fun ys pq hy _ npq => ?_⟩
          exact ⟨pq, ys, rfl, R10.same (same_new npq), ok0.perm hy, R10.go.free npq, upd_same⟩
        · refine no (by rw [decide_eq_false cr]; decide) ?_
          exact ⟨_, rfl, D, zs, rfl, R10, ok0, A8.n0, hD10⟩
      rintro σ H10 ⟨rw_, zs, rfl, R10, okz, nrw, hrw⟩
      refine ⟨_, rfl, .inl ⟨rfl, _, SqL.of R10.hl⟩, ?_⟩
      refine ⟨_, rfl, rw_, rfl, ⟨_, SqL.of hrw⟩, fun D nD => lc_list (xs := zs.map V.str) (fun j H8 => ∃ acc : List Str, Go p c ns H10 H8 ∧ H8 D = some (.lst (acc.map V.str)) ∧ acc.Sublist (zs.take j)) ?_ ?_ ?_ ?_⟩
      · exact ⟨[], (Go.refl R10.go.pot).new nD, upd_same, List.Sublist.refl _⟩
      · rintro j H8 _ ⟨acc, G8, _⟩
        exact SqL.of (G8.get (hP.nep nrw) hrw)
      · rintro j y H8 hy ⟨acc, G8, hD, hsub⟩
        obtain ⟨x, hx, rfl⟩ := str_of hy
        have hjl := (List.getElem?_eq_some_iff.mp hx).1
        have hzl := okz.len
        refine ⟨rfl, ?_⟩
        refine ⟨_, rfl, p, c, ns, _, rfl, G8.pot, mny (by decide) (by decide), fun r8 H9 r80 r81 G9 => ⟨_, rfl, _, _, rfl, rfl, _, rfl, ite2 (fun e => ?_) (fun e => ?_)⟩⟩
        · have hD9 : H9 D = some (.lst (acc.map V.str)) := G9.get (R10.go.pot.nep nD) hD
          have hal := hsub.length_le
          refine ⟨_, rfl, _, hD9, ?_, acc ++ [x], (G8.trans G9).mut nD, ?_, ?_⟩
          · rw [List.length_map]
            rw [List.length_take] at hal
            exact small1000 (by omega)
          · rw [upd_same, List.map_append]
            rfl
          · rw [List.take_add_one, hx]
            exact List.Sublist.append hsub (List.Sublist.refl _)
        · refine ⟨acc, G8.trans G9, G9.get (R10.go.pot.nep nD) hD, ?_⟩
          rw [List.take_add_one]
          exact hsub.trans (List.sublist_append_left _ _)
      rintro H11 ⟨acc, G11, hD, hsub⟩
      rw [List.length_map, List.take_length] at hsub
      have R11 := R10.step G11
      have A11 := R10.fresh nD
      refine ⟨rl, _, _, rfl, rfl, R11.hl, ?_, ?_⟩
      · rw [List.length_map, Paired.length R11.fr, hlen]
        exact small1000 (by omega)
      · refine ⟨_, _, _, as ++ [D], rows ++ [acc], rfl, R11.push A11 hD, by rw [List.length_append, hlen]; rfl, fun r hr => ?_⟩
        rcases List.mem_append.mp hr with h | h
        · exact hok r h
        · rw [List.mem_singleton.mp h]
          exact ⟨hsub.nodup okz.nd, fun x hx => okz.sub x (hsub.subset hx), Nat.le_trans hsub.length_le okz.len⟩
    rintro σ H7 ⟨y5, y6, y7, as, rows, rfl, R, hlen, hok⟩
    have g1 : GR H7 p rl := GR.of hP R.nr R.hl R.fr (by omega) hok (by omega) hxm
    refine ⟨_, rfl, _, rfl, p, c, ns, rfl, R.go.pot, fun rl2 as2 rows2 xs2 H9 G9 nrl2 hrl2 hFr2 hlen2 hok2 hxl2 hxm2 => ⟨(by show 2 ≤ sizeLine; decide), fun sl nsl => ?_⟩⟩
    have g2 : GR H9 p rl2 := GR.of R.go.pot nrl2 hrl2 hFr2 hlen2 hok2 hxl2 hxm2
    have v := same_new (o := .lst [V.ref rl, V.ref rl2]) nsl
    have Gv : Go p c ns H9 (upd H9 sl (.lst [V.ref rl, V.ref rl2])) := (Go.refl G9.pot).new nsl
    have g1' := (g1.go G9).go Gv
    have g2' := g2.go Gv
    have slp : sl ≠ p := G9.pot.nep nsl
    have hsl : upd H9 sl (.lst [V.ref rl, V.ref rl2]) sl = some (.lst [V.ref rl, V.ref rl2]) := upd_same
    have Pv := Gv.pot
    generalize upd H9 sl (.lst [V.ref rl, V.ref rl2]) = H10 at g1' g2' hsl Pv ⊢
    refine ⟨sl, rfl, ⟨_, SqL.of hsl⟩, for_list (xs := [V.ref rl, V.ref rl2]) (fun k σ H' => ∃ y8, σ = [some (.ref a), some (.ref p), some (.int ((0 : Int) + (i : Int))), some (.ref nl), some (.ref rl), y5, y6, y7, y8, none, none] ∧ Go p c ns H10 H') ?_ ?_ ?_ ?_⟩
    · exact ⟨y8, rfl, Go.refl Pv⟩
    · rintro k σ H' _ ⟨y8, rfl, G⟩
      exact SqL.of (G.get slp hsl)
    · rintro k y σ H11 hy ⟨y8, rfl, G11⟩
      obtain ⟨r, rfl, hg⟩ : ∃ r, y = .ref r ∧ GR H10 p r := by
        rcases List.mem_cons.mp (List.mem_of_getElem? hy) with e | e
        · exact ⟨rl, e, g1'⟩
        · exact ⟨rl2, List.mem_singleton.mp e, g2'⟩
      obtain ⟨as, rows, xs, h1, h2, h3, h4, h5, h6, h7, h8, h9⟩ := hg.go G11
      refine ⟨_, rfl, r, as, rows, xs, rfl, ⟨SqL.of h1, h3.strs⟩, h4, h5, h6, h7, h8, h9, fun H12 s12 => ⟨_, rfl, ?_⟩⟩
      refine no (by decide) ?_
      have G12 := G11.same s12
      refine ⟨_, rfl, _, rfl, p, c, ns, r, as, rows, rfl, G12.pot, s12 _ _ h1, h2, h3.same s12, h4, h5, h6, h7, fun H13 G13 => ⟨_, rfl, ?_⟩⟩
      refine no (by decide) ?_
      exact ⟨_, rfl, G12.trans G13⟩
    · rintro σ H11 ⟨y8, rfl, G11⟩
      exact ⟨_, _, _, _, _, _, _, rfl, G11.pot⟩
  · rintro σ H' ⟨y2, y3, y4, y5, y6, y7, y8, rfl, hP⟩
    exact q _
end
end Kin
namespace Kin
open PySem PySem.Spec PyProof.Rows L2 RZ
/-- the text's defs, the names that are still the built-ins -/
structure Txt (K : PySem.W.Frag) (mg : Str → Option Value) : Prop where
  m : MB mg
  m_sorted : mg "sorted" = none
  d_merge : Def K mg "merge" ["rows"] s_merge
  d_is_ring : Def K mg "is_ring" ["rows", "demands"] s_is_ring
  d_is_demand : Def K mg "_is_demand" ["rows", "demand"] s_is_demand
  d_next_name : Def K mg "_next_name" ["left"] s_next_name
  d_row_against : Def K mg "_row_against" ["left", "name"] s_row_against
  d_without_first : Def K mg "_without_first" ["row", "name"] s_without_first
  d_ring : Def K mg "_ring" ["left"] s_ring
  d_law_blend : Def K mg "_law_blend" ["cell", "at"] s_law_blend
  d_law_pot : Def K mg "_law_pot" ["script"] s_law_pot
  d_law_pick : Def K mg "_law_pick" ["pot", "many"] s_law_pick
  d_law_order : Def K mg "_law_order" ["pot", "many"] s_law_order
  d_law_letters : Def K mg "_law_letters" ["pot", "many"] s_law_letters
  d_law_names : Def K mg "_law_names" ["pot", "many"] s_law_names
  d_law_rows : Def K mg "_law_rows" ["pot"] s_law_rows
  d_law_all_orders : Def K mg "_law_all_orders" ["names"] s_law_all_orders
  d_law_keeps : Def K mg "_law_keeps" ["order", "rows"] s_law_keeps
  d_law_no_ring : Def K mg "_law_no_ring" ["rows"] s_law_no_ring
  d_law_right : Def K mg "_law_right" ["rows"] s_law_right
  d_law_turned_right : Def K mg "_law_turned_right" ["pot", "rows"] s_law_turned_right

theorem all_law {P : Program} {w : World} {K : PySem.W.Frag} {mg : Str → Option Value} {base : Heap} {f : Addr} {fd : FuncData} (T : Txt K mg) (F : Fun K "law" "law" s_law f fd) : FnOk P w K mg base CX0 6 f fd ["script"] (sp_law K) := by
  have M := T.m
  have c1 := ok_row_against (P := P) (w := w) (base := base) T.d_row_against M.m_enumerate
  have c2 := ok_next_name T.d_next_name c1
  have c3 := ok_without_first (P := P) (w := w) (base := base) T.d_without_first
  have c4 := ok_ring T.d_ring c1
  have c5 := ok_merge T.d_merge M.m_any M.m_list c2 c4 c3
  have b1 := ok_law_blend (P := P) (w := w) (K := K) (base := base) T.d_law_blend
  have b2 := ok_law_pot (P := P) (w := w) (base := base) T.d_law_pot M.m_list M.m_enumerate
  have b3 := ok_law_pick T.d_law_pick M.m_len b1
  have b4 := ok_law_order T.d_law_order M.m_range b3
  have b5 := ok_law_letters T.d_law_letters M.m_range M.m_len b3
  have b6 := ok_law_names T.d_law_names M.m_range b3 b5 b4
  have b7 := ok_law_rows T.d_law_rows M b3 b6 b4
  have e1 := ok_is_demand (P := P) (w := w) (base := base) T.d_is_demand M
  have e2 := ok_is_ring T.d_is_ring M e1
  have e3 := ok_all_orders (P := P) (w := w) (base := base) T.d_law_all_orders M
  have e4 := ok_keeps (P := P) (w := w) (base := base) T.d_law_keeps M
  have e5 := ok_no_ring T.d_law_no_ring M e2
  have e6 := ok_right T.d_law_right M T.m_sorted c5 e2 e4 e5 e3
  have e7 := ok_turned T.d_law_turned_right M b3 c5 e2
  exact ok_law F M T.m_sorted b2 b3 b7 b6 b4 e6 e7
theorem all_mk {l : PySem.W.OpenLaw} {w : World} {K : PySem.W.Frag} {h : Heap} {mg : Str → Option Value} {fa f1 f2 f3 f4 f5 f6 f7 f8 f9 f10 f11 f12 f13 f14 f15 f16 f17 f18 f19 f20 : Addr} (X : K.In h) (G : h.Ns mainGlobals mg) (hfa : mg "law" = some (.ref fa))
    {od1 an1 od2 an2 od3 an3 od4 an4 od5 an5 od6 an6 od7 an7 od8 an8 od9 an9 od10 an10 od11 an11 od12 an12 od13 an13 od14 an14 od15 an15 od16 an16 od17 an17 od18 an18 od19 an19 od20 an20 : Option Addr} {sl1 sl2 sl3 sl4 sl5 sl6 sl7 sl8 sl9 sl10 sl11 sl12 sl13 sl14 sl15 sl16 sl17 sl18 sl19 sl20 : Array (Option Value)} {oc1 kV1 dc1 pm1 cd1 ct1 oc2 kV2 dc2 pm2 cd2 ct2 oc3 kV3 dc3 pm3 cd3 ct3 oc4 kV4 dc4 pm4 cd4 ct4 oc5 kV5 dc5 pm5 cd5 ct5 oc6 kV6 dc6 pm6 cd6 ct6 oc7 kV7 dc7 pm7 cd7 ct7 oc8 kV8 dc8 pm8 cd8 ct8 oc9 kV9 dc9 pm9 cd9 ct9 oc10 kV10 dc10 pm10 cd10 ct10 oc11 kV11 dc11 pm11 cd11 ct11 oc12 kV12 dc12 pm12 cd12 ct12 oc13 kV13 dc13 pm13 cd13 ct13 oc14 kV14 dc14 pm14 cd14 ct14 oc15 kV15 dc15 pm15 cd15 ct15 oc16 kV16 dc16 pm16 cd16 ct16 oc17 kV17 dc17 pm17 cd17 ct17 oc18 kV18 dc18 pm18 cd18 ct18 oc19 kV19 dc19 pm19 cd19 ct19 oc20 kV20 dc20 pm20 cd20 ct20 : Value}
    (a1 : PySem.W.nsIn K mainGlobals "merge" = some (some (.ref f1))) (l1 : K.lookup f1 = some ⟨oc1, od1, .func (PySem.W.fnOf "merge" "merge" (defArgs s_merge) (defBody s_merge) (defScope s_merge) .none kV1 dc1 pm1 an1 cd1 ct1), sl1⟩) (c1 : PySem.W.codeIn K cd1 "merge" = true) (k1 : PySem.W.keepIn K (.ref f1) = true)
    (a2 : PySem.W.nsIn K mainGlobals "is_ring" = some (some (.ref f2))) (l2 : K.lookup f2 = some ⟨oc2, od2, .func (PySem.W.fnOf "is_ring" "is_ring" (defArgs s_is_ring) (defBody s_is_ring) (defScope s_is_ring) .none kV2 dc2 pm2 an2 cd2 ct2), sl2⟩) (c2 : PySem.W.codeIn K cd2 "is_ring" = true) (k2 : PySem.W.keepIn K (.ref f2) = true)
    (a3 : PySem.W.nsIn K mainGlobals "_is_demand" = some (some (.ref f3))) (l3 : K.lookup f3 = some ⟨oc3, od3, .func (PySem.W.fnOf "_is_demand" "_is_demand" (defArgs s_is_demand) (defBody s_is_demand) (defScope s_is_demand) .none kV3 dc3 pm3 an3 cd3 ct3), sl3⟩) (c3 : PySem.W.codeIn K cd3 "_is_demand" = true) (k3 : PySem.W.keepIn K (.ref f3) = true)
    (a4 : PySem.W.nsIn K mainGlobals "_next_name" = some (some (.ref f4))) (l4 : K.lookup f4 = some ⟨oc4, od4, .func (PySem.W.fnOf "_next_name" "_next_name" (defArgs s_next_name) (defBody s_next_name) (defScope s_next_name) .none kV4 dc4 pm4 an4 cd4 ct4), sl4⟩) (c4 : PySem.W.codeIn K cd4 "_next_name" = true) (k4 : PySem.W.keepIn K (.ref f4) = true)
    (a5 : PySem.W.nsIn K mainGlobals "_row_against" = some (some (.ref f5))) (l5 : K.lookup f5 = some ⟨oc5, od5, .func (PySem.W.fnOf "_row_against" "_row_against" (defArgs s_row_against) (defBody s_row_against) (defScope s_row_against) .none kV5 dc5 pm5 an5 cd5 ct5), sl5⟩) (c5 : PySem.W.codeIn K cd5 "_row_against" = true) (k5 : PySem.W.keepIn K (.ref f5) = true)
    (a6 : PySem.W.nsIn K mainGlobals "_without_first" = some (some (.ref f6))) (l6 : K.lookup f6 = some ⟨oc6, od6, .func (PySem.W.fnOf "_without_first" "_without_first" (defArgs s_without_first) (defBody s_without_first) (defScope s_without_first) .none kV6 dc6 pm6 an6 cd6 ct6), sl6⟩) (c6 : PySem.W.codeIn K cd6 "_without_first" = true) (k6 : PySem.W.keepIn K (.ref f6) = true)
    (a7 : PySem.W.nsIn K mainGlobals "_ring" = some (some (.ref f7))) (l7 : K.lookup f7 = some ⟨oc7, od7, .func (PySem.W.fnOf "_ring" "_ring" (defArgs s_ring) (defBody s_ring) (defScope s_ring) .none kV7 dc7 pm7 an7 cd7 ct7), sl7⟩) (c7 : PySem.W.codeIn K cd7 "_ring" = true) (k7 : PySem.W.keepIn K (.ref f7) = true)
    (a8 : PySem.W.nsIn K mainGlobals "_law_blend" = some (some (.ref f8))) (l8 : K.lookup f8 = some ⟨oc8, od8, .func (PySem.W.fnOf "_law_blend" "_law_blend" (defArgs s_law_blend) (defBody s_law_blend) (defScope s_law_blend) .none kV8 dc8 pm8 an8 cd8 ct8), sl8⟩) (c8 : PySem.W.codeIn K cd8 "_law_blend" = true) (k8 : PySem.W.keepIn K (.ref f8) = true)
    (a9 : PySem.W.nsIn K mainGlobals "_law_pot" = some (some (.ref f9))) (l9 : K.lookup f9 = some ⟨oc9, od9, .func (PySem.W.fnOf "_law_pot" "_law_pot" (defArgs s_law_pot) (defBody s_law_pot) (defScope s_law_pot) .none kV9 dc9 pm9 an9 cd9 ct9), sl9⟩) (c9 : PySem.W.codeIn K cd9 "_law_pot" = true) (k9 : PySem.W.keepIn K (.ref f9) = true)
    (a10 : PySem.W.nsIn K mainGlobals "_law_pick" = some (some (.ref f10))) (l10 : K.lookup f10 = some ⟨oc10, od10, .func (PySem.W.fnOf "_law_pick" "_law_pick" (defArgs s_law_pick) (defBody s_law_pick) (defScope s_law_pick) .none kV10 dc10 pm10 an10 cd10 ct10), sl10⟩) (c10 : PySem.W.codeIn K cd10 "_law_pick" = true) (k10 : PySem.W.keepIn K (.ref f10) = true)
    (a11 : PySem.W.nsIn K mainGlobals "_law_order" = some (some (.ref f11))) (l11 : K.lookup f11 = some ⟨oc11, od11, .func (PySem.W.fnOf "_law_order" "_law_order" (defArgs s_law_order) (defBody s_law_order) (defScope s_law_order) .none kV11 dc11 pm11 an11 cd11 ct11), sl11⟩) (c11 : PySem.W.codeIn K cd11 "_law_order" = true) (k11 : PySem.W.keepIn K (.ref f11) = true)
    (a12 : PySem.W.nsIn K mainGlobals "_law_letters" = some (some (.ref f12))) (l12 : K.lookup f12 = some ⟨oc12, od12, .func (PySem.W.fnOf "_law_letters" "_law_letters" (defArgs s_law_letters) (defBody s_law_letters) (defScope s_law_letters) .none kV12 dc12 pm12 an12 cd12 ct12), sl12⟩) (c12 : PySem.W.codeIn K cd12 "_law_letters" = true) (k12 : PySem.W.keepIn K (.ref f12) = true)
    (a13 : PySem.W.nsIn K mainGlobals "_law_names" = some (some (.ref f13))) (l13 : K.lookup f13 = some ⟨oc13, od13, .func (PySem.W.fnOf "_law_names" "_law_names" (defArgs s_law_names) (defBody s_law_names) (defScope s_law_names) .none kV13 dc13 pm13 an13 cd13 ct13), sl13⟩) (c13 : PySem.W.codeIn K cd13 "_law_names" = true) (k13 : PySem.W.keepIn K (.ref f13) = true)
    (a14 : PySem.W.nsIn K mainGlobals "_law_rows" = some (some (.ref f14))) (l14 : K.lookup f14 = some ⟨oc14, od14, .func (PySem.W.fnOf "_law_rows" "_law_rows" (defArgs s_law_rows) (defBody s_law_rows) (defScope s_law_rows) .none kV14 dc14 pm14 an14 cd14 ct14), sl14⟩) (c14 : PySem.W.codeIn K cd14 "_law_rows" = true) (k14 : PySem.W.keepIn K (.ref f14) = true)
    (a15 : PySem.W.nsIn K mainGlobals "_law_all_orders" = some (some (.ref f15))) (l15 : K.lookup f15 = some ⟨oc15, od15, .func (PySem.W.fnOf "_law_all_orders" "_law_all_orders" (defArgs s_law_all_orders) (defBody s_law_all_orders) (defScope s_law_all_orders) .none kV15 dc15 pm15 an15 cd15 ct15), sl15⟩) (c15 : PySem.W.codeIn K cd15 "_law_all_orders" = true) (k15 : PySem.W.keepIn K (.ref f15) = true)
    (a16 : PySem.W.nsIn K mainGlobals "_law_keeps" = some (some (.ref f16))) (l16 : K.lookup f16 = some ⟨oc16, od16, .func (PySem.W.fnOf "_law_keeps" "_law_keeps" (defArgs s_law_keeps) (defBody s_law_keeps) (defScope s_law_keeps) .none kV16 dc16 pm16 an16 cd16 ct16), sl16⟩) (c16 : PySem.W.codeIn K cd16 "_law_keeps" = true) (k16 : PySem.W.keepIn K (.ref f16) = true)
    (a17 : PySem.W.nsIn K mainGlobals "_law_no_ring" = some (some (.ref f17))) (l17 : K.lookup f17 = some ⟨oc17, od17, .func (PySem.W.fnOf "_law_no_ring" "_law_no_ring" (defArgs s_law_no_ring) (defBody s_law_no_ring) (defScope s_law_no_ring) .none kV17 dc17 pm17 an17 cd17 ct17), sl17⟩) (c17 : PySem.W.codeIn K cd17 "_law_no_ring" = true) (k17 : PySem.W.keepIn K (.ref f17) = true)
    (a18 : PySem.W.nsIn K mainGlobals "_law_right" = some (some (.ref f18))) (l18 : K.lookup f18 = some ⟨oc18, od18, .func (PySem.W.fnOf "_law_right" "_law_right" (defArgs s_law_right) (defBody s_law_right) (defScope s_law_right) .none kV18 dc18 pm18 an18 cd18 ct18), sl18⟩) (c18 : PySem.W.codeIn K cd18 "_law_right" = true) (k18 : PySem.W.keepIn K (.ref f18) = true)
    (a19 : PySem.W.nsIn K mainGlobals "_law_turned_right" = some (some (.ref f19))) (l19 : K.lookup f19 = some ⟨oc19, od19, .func (PySem.W.fnOf "_law_turned_right" "_law_turned_right" (defArgs s_law_turned_right) (defBody s_law_turned_right) (defScope s_law_turned_right) .none kV19 dc19 pm19 an19 cd19 ct19), sl19⟩) (c19 : PySem.W.codeIn K cd19 "_law_turned_right" = true) (k19 : PySem.W.keepIn K (.ref f19) = true)
    (a20 : PySem.W.nsIn K mainGlobals "law" = some (some (.ref f20))) (l20 : K.lookup f20 = some ⟨oc20, od20, .func (PySem.W.fnOf "law" "law" (defArgs s_law) (defBody s_law) (defScope s_law) .none kV20 dc20 pm20 an20 cd20 ct20), sl20⟩) (c20 : PySem.W.codeIn K cd20 "law" = true) (k20 : PySem.W.keepIn K (.ref f20) = true)
    (z1 : PySem.W.nsIn K mainGlobals "isinstance" = some none)
    (z2 : PySem.W.nsIn K mainGlobals "bool" = some none)
    (z3 : PySem.W.nsIn K mainGlobals "str" = some none)
    (z4 : PySem.W.nsIn K mainGlobals "int" = some none)
    (z5 : PySem.W.nsIn K mainGlobals "tuple" = some none)
    (z6 : PySem.W.nsIn K mainGlobals "list" = some none)
    (z7 : PySem.W.nsIn K mainGlobals "len" = some none)
    (z8 : PySem.W.nsIn K mainGlobals "all" = some none)
    (z9 : PySem.W.nsIn K mainGlobals "zip" = some none)
    (z10 : PySem.W.nsIn K mainGlobals "range" = some none)
    (z11 : PySem.W.nsIn K mainGlobals "enumerate" = some none)
    (z12 : PySem.W.nsIn K mainGlobals "any" = some none)
    (z13 : PySem.W.nsIn K mainGlobals "sorted" = some none)
    :
    ∃ fd : FuncData, (∀ (s : Shared) (v : Value), BindsTo s fd ⟨[v], []⟩ [("script", v)]) ∧ ∀ base : Heap, K.In base → base.Ns mainGlobals mg → FnOk l.prog w K mg base CX0 6 fa fd ["script"] (sp_law K) := by
  have e := hfa.symm.trans (PySem.W.mg_of X G a20)
  cases e
  have F1 := fun_mk (st := s_merge) l1 c1 k1
  have D1 : Def K mg "merge" ["rows"] s_merge := ⟨_, _, F1, PySem.W.mg_of X G a1, F1.binds (ps := ["rows"]) fun _ _ _ _ _ _ us hl => match us, hl with | [_], _ => rfl⟩
  have F2 := fun_mk (st := s_is_ring) l2 c2 k2
  have D2 : Def K mg "is_ring" ["rows", "demands"] s_is_ring := ⟨_, _, F2, PySem.W.mg_of X G a2, F2.binds (ps := ["rows", "demands"]) fun _ _ _ _ _ _ us hl => match us, hl with | [_, _], _ => rfl⟩
  have F3 := fun_mk (st := s_is_demand) l3 c3 k3
  have D3 : Def K mg "_is_demand" ["rows", "demand"] s_is_demand := ⟨_, _, F3, PySem.W.mg_of X G a3, F3.binds (ps := ["rows", "demand"]) fun _ _ _ _ _ _ us hl => match us, hl with | [_, _], _ => rfl⟩
  have F4 := fun_mk (st := s_next_name) l4 c4 k4
  have D4 : Def K mg "_next_name" ["left"] s_next_name := ⟨_, _, F4, PySem.W.mg_of X G a4, F4.binds (ps := ["left"]) fun _ _ _ _ _ _ us hl => match us, hl with | [_], _ => rfl⟩
  have F5 := fun_mk (st := s_row_against) l5 c5 k5
  have D5 : Def K mg "_row_against" ["left", "name"] s_row_against := ⟨_, _, F5, PySem.W.mg_of X G a5, F5.binds (ps := ["left", "name"]) fun _ _ _ _ _ _ us hl => match us, hl with | [_, _], _ => rfl⟩
  have F6 := fun_mk (st := s_without_first) l6 c6 k6
  have D6 : Def K mg "_without_first" ["row", "name"] s_without_first := ⟨_, _, F6, PySem.W.mg_of X G a6, F6.binds (ps := ["row", "name"]) fun _ _ _ _ _ _ us hl => match us, hl with | [_, _], _ => rfl⟩
  have F7 := fun_mk (st := s_ring) l7 c7 k7
  have D7 : Def K mg "_ring" ["left"] s_ring := ⟨_, _, F7, PySem.W.mg_of X G a7, F7.binds (ps := ["left"]) fun _ _ _ _ _ _ us hl => match us, hl with | [_], _ => rfl⟩
  have F8 := fun_mk (st := s_law_blend) l8 c8 k8
  have D8 : Def K mg "_law_blend" ["cell", "at"] s_law_blend := ⟨_, _, F8, PySem.W.mg_of X G a8, F8.binds (ps := ["cell", "at"]) fun _ _ _ _ _ _ us hl => match us, hl with | [_, _], _ => rfl⟩
  have F9 := fun_mk (st := s_law_pot) l9 c9 k9
  have D9 : Def K mg "_law_pot" ["script"] s_law_pot := ⟨_, _, F9, PySem.W.mg_of X G a9, F9.binds (ps := ["script"]) fun _ _ _ _ _ _ us hl => match us, hl with | [_], _ => rfl⟩
  have F10 := fun_mk (st := s_law_pick) l10 c10 k10
  have D10 : Def K mg "_law_pick" ["pot", "many"] s_law_pick := ⟨_, _, F10, PySem.W.mg_of X G a10, F10.binds (ps := ["pot", "many"]) fun _ _ _ _ _ _ us hl => match us, hl with | [_, _], _ => rfl⟩
  have F11 := fun_mk (st := s_law_order) l11 c11 k11
  have D11 : Def K mg "_law_order" ["pot", "many"] s_law_order := ⟨_, _, F11, PySem.W.mg_of X G a11, F11.binds (ps := ["pot", "many"]) fun _ _ _ _ _ _ us hl => match us, hl with | [_, _], _ => rfl⟩
  have F12 := fun_mk (st := s_law_letters) l12 c12 k12
  have D12 : Def K mg "_law_letters" ["pot", "many"] s_law_letters := ⟨_, _, F12, PySem.W.mg_of X G a12, F12.binds (ps := ["pot", "many"]) fun _ _ _ _ _ _ us hl => match us, hl with | [_, _], _ => rfl⟩
  have F13 := fun_mk (st := s_law_names) l13 c13 k13
  have D13 : Def K mg "_law_names" ["pot", "many"] s_law_names := ⟨_, _, F13, PySem.W.mg_of X G a13, F13.binds (ps := ["pot", "many"]) fun _ _ _ _ _ _ us hl => match us, hl with | [_, _], _ => rfl⟩
  have F14 := fun_mk (st := s_law_rows) l14 c14 k14
  have D14 : Def K mg "_law_rows" ["pot"] s_law_rows := ⟨_, _, F14, PySem.W.mg_of X G a14, F14.binds (ps := ["pot"]) fun _ _ _ _ _ _ us hl => match us, hl with | [_], _ => rfl⟩
  have F15 := fun_mk (st := s_law_all_orders) l15 c15 k15
  have D15 : Def K mg "_law_all_orders" ["names"] s_law_all_orders := ⟨_, _, F15, PySem.W.mg_of X G a15, F15.binds (ps := ["names"]) fun _ _ _ _ _ _ us hl => match us, hl with | [_], _ => rfl⟩
  have F16 := fun_mk (st := s_law_keeps) l16 c16 k16
  have D16 : Def K mg "_law_keeps" ["order", "rows"] s_law_keeps := ⟨_, _, F16, PySem.W.mg_of X G a16, F16.binds (ps := ["order", "rows"]) fun _ _ _ _ _ _ us hl => match us, hl with | [_, _], _ => rfl⟩
  have F17 := fun_mk (st := s_law_no_ring) l17 c17 k17
  have D17 : Def K mg "_law_no_ring" ["rows"] s_law_no_ring := ⟨_, _, F17, PySem.W.mg_of X G a17, F17.binds (ps := ["rows"]) fun _ _ _ _ _ _ us hl => match us, hl with | [_], _ => rfl⟩
  have F18 := fun_mk (st := s_law_right) l18 c18 k18
  have D18 : Def K mg "_law_right" ["rows"] s_law_right := ⟨_, _, F18, PySem.W.mg_of X G a18, F18.binds (ps := ["rows"]) fun _ _ _ _ _ _ us hl => match us, hl with | [_], _ => rfl⟩
  have F19 := fun_mk (st := s_law_turned_right) l19 c19 k19
  have D19 : Def K mg "_law_turned_right" ["pot", "rows"] s_law_turned_right := ⟨_, _, F19, PySem.W.mg_of X G a19, F19.binds (ps := ["pot", "rows"]) fun _ _ _ _ _ _ us hl => match us, hl with | [_, _], _ => rfl⟩
  have F20 := fun_mk (st := s_law) l20 c20 k20
  have M : MB mg := ⟨PySem.W.mg_none_of X G z1, PySem.W.mg_none_of X G z2, PySem.W.mg_none_of X G z3, PySem.W.mg_none_of X G z4, PySem.W.mg_none_of X G z5, PySem.W.mg_none_of X G z6, PySem.W.mg_none_of X G z7, PySem.W.mg_none_of X G z8, PySem.W.mg_none_of X G z9, PySem.W.mg_none_of X G z10, PySem.W.mg_none_of X G z11, PySem.W.mg_none_of X G z12⟩
  have T : Txt K mg := ⟨M, PySem.W.mg_none_of X G z13, D1, D2, D3, D4, D5, D6, D7, D8, D9, D10, D11, D12, D13, D14, D15, D16, D17, D18, D19⟩
  exact ⟨PySem.W.fnOf "law" "law" (defArgs s_law) (defBody s_law) (defScope s_law) .none kV20 dc20 pm20 an20 cd20 ct20, fun s v => .of_eq rfl, fun base _ _ => all_law T F20⟩
end Kin
open PySem PySem.W PyProof.Rows
set_option maxRecDepth 100000 in
set_option maxHeartbeats 0 in
theorem PySem.Challenge.cw_swiftkin_k04_whole_line_or_ring_holds : PySem.Challenge.rw_swiftkin_k04_whole_line_or_ring.Holds := by
  w_on; o_law; k_head; (case hw => w_witness2)
  k_fill
  refine L2.walk_of (l := PySem.Challenge.rw_swiftkin_k04_whole_line_or_ring) (n := 63) (k := 6) (x := "script") (CX := fun _ => L2.CX0) (sp := fun w => Kin.sp_law _) rfl (by decide) rfl ⟨rfl, by decide, by decide⟩ (fun w h Y => PySem.W.kIn_of Y) ?F (fun _ _ a ns hl _ hS => ⟨a, ns, rfl, hS, hl, fun _ => rfl⟩) (fun _ _ _ _ _ h => h)
  case F =>
    intro w mg fa h KX G hmg
    refine' Kin.all_mk KX G hmg ?a1 ?l1 ?c1 ?k1 ?a2 ?l2 ?c2 ?k2 ?a3 ?l3 ?c3 ?k3 ?a4 ?l4 ?c4 ?k4 ?a5 ?l5 ?c5 ?k5 ?a6 ?l6 ?c6 ?k6 ?a7 ?l7 ?c7 ?k7 ?a8 ?l8 ?c8 ?k8 ?a9 ?l9 ?c9 ?k9 ?a10 ?l10 ?c10 ?k10 ?a11 ?l11 ?c11 ?k11 ?a12 ?l12 ?c12 ?k12 ?a13 ?l13 ?c13 ?k13 ?a14 ?l14 ?c14 ?k14 ?a15 ?l15 ?c15 ?k15 ?a16 ?l16 ?c16 ?k16 ?a17 ?l17 ?c17 ?k17 ?a18 ?l18 ?c18 ?k18 ?a19 ?l19 ?c19 ?k19 ?a20 ?l20 ?c20 ?k20 ?z1 ?z2 ?z3 ?z4 ?z5 ?z6 ?z7 ?z8 ?z9 ?z10 ?z11 ?z12 ?z13
    (case a1 => k_is); (case l1 => k_is); (case c1 => k_is); (case k1 => k_is); (case a2 => k_is); (case l2 => k_is); (case c2 => k_is); (case k2 => k_is); (case a3 => k_is); (case l3 => k_is); (case c3 => k_is); (case k3 => k_is); (case a4 => k_is); (case l4 => k_is); (case c4 => k_is); (case k4 => k_is); (case a5 => k_is); (case l5 => k_is); (case c5 => k_is); (case k5 => k_is); (case a6 => k_is); (case l6 => k_is); (case c6 => k_is); (case k6 => k_is); (case a7 => k_is); (case l7 => k_is); (case c7 => k_is); (case k7 => k_is); (case a8 => k_is); (case l8 => k_is); (case c8 => k_is); (case k8 => k_is); (case a9 => k_is); (case l9 => k_is); (case c9 => k_is); (case k9 => k_is); (case a10 => k_is); (case l10 => k_is); (case c10 => k_is); (case k10 => k_is); (case a11 => k_is); (case l11 => k_is); (case c11 => k_is); (case k11 => k_is); (case a12 => k_is); (case l12 => k_is); (case c12 => k_is); (case k12 => k_is); (case a13 => k_is); (case l13 => k_is); (case c13 => k_is); (case k13 => k_is); (case a14 => k_is); (case l14 => k_is); (case c14 => k_is); (case k14 => k_is); (case a15 => k_is); (case l15 => k_is); (case c15 => k_is); (case k15 => k_is); (case a16 => k_is); (case l16 => k_is); (case c16 => k_is); (case k16 => k_is); (case a17 => k_is); (case l17 => k_is); (case c17 => k_is); (case k17 => k_is); (case a18 => k_is); (case l18 => k_is); (case c18 => k_is); (case k18 => k_is); (case a19 => k_is); (case l19 => k_is); (case c19 => k_is); (case k19 => k_is); (case a20 => k_is); (case l20 => k_is); (case c20 => k_is); (case k20 => k_is); (case z1 => k_is); (case z2 => k_is); (case z3 => k_is); (case z4 => k_is); (case z5 => k_is); (case z6 => k_is); (case z7 => k_is); (case z8 => k_is); (case z9 => k_is); (case z10 => k_is); (case z11 => k_is); (case z12 => k_is); (case z13 => k_is)
